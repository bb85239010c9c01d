import PyProof.Rows.All
import Wide.All
import OpenK.AllK
import PySem.Challenge.RW_wireparley_k72_relay_tables
set_option linter.all false
set_option hygiene false
set_option tactic.hygienic false
set_option compiler.extract_closed false
set_option bootstrap.genMatcherCode false
set_option genSizeOf false
noncomputable section
abbrev bP:=PySem.Value
abbrev bQ:=PySem.Addr
abbrev bR:=PySem.Shared
abbrev bS:=PySem.Program
abbrev bT:=PySem.World
abbrev bU:=PySem.FuncData
def bV:=@PySem.Calls.Name_function_global
def bW:=@Int.fdiv_eq_ediv_of_nonneg
def bX:=@Array.toList_setIfInBounds
def bY:=@PySem.wpAny_binaryOp_repeat_ref
def bZ:=@List.mem_of_find?_eq_some
def cb:=@PySem.AutoSeq1.sub_tuple_tuple
def cj:=@PySem.F.slot_list_append
def ck:=@PySem.F.type_list_append
def cu:=@Nat.exists_eq_add_of_le'
def cv:=@PySem.AutoSeq1.sub_tuple_list
def cx:=@PySem.AutoSeq1.sub_list_tuple
def cy:=@List.getElem?_cons_succ
def cz:=@List.pairwise_singleton
def cA:=@PySem.F.plainAttrs_dict
def cB:=@List.filter_cons_of_pos
def cC:=@List.filter_cons_of_neg
def cD:=@PySem.W.cellsFrom_some
def cE:=@List.range_succ_eq_map
def cF:=@PySem.AutoSeq1.sub_list_list
def cG:=@PySem.F.entry_dict_get
def cH:=@List.length_eq_one_iff
def cI:=@List.filter_eq_nil_iff
def cJ:=@PySem.F.slot_dict_pop
def cK:=@List.dropLast_eq_take
def cL:=@beq_eq_false_iff_ne
def cM:=@PySem.mem_of_lookup
def cO:=@PyProof.Rows.KeyOrd.kle_antisymm
def cQ:=@PySem.wpAny_Call_Name_kw
def cR:=@PySem.F.args_tuple_mul_2
def cS:=@of_decide_eq_false
def cT:=@PySem.wpAny_truthy_bool
def cU:=@PySem.wpAny_newObj_type
def cV:=@PySem.F.entry_tuple_mul
def cW:=@PySem.wpAny_pyIter_list
def cX:=@PyProof.Rows.KeyOrd.kle_of_klt
def cY:=@PySem.noFill_tuple_add
def cZ:=@PySem.wpAny_call_entry
def c6:=@PySem.AutoSeq1.idx_int
def c7:=@PySem.F.slot_tuple_mul
def c8:=@PyProof.Rows.KeyOrd.kle_trans
def c9:=@decide_eq_decide
def da:=@PySem.wpAny_execs_nil
def db:=@PySem.wpAny_passesOwn
def de:=@PySem.F.slot_int_rmul
def df:=@PySem.wpAny_ite_split
def dj:=@PyProof.Rows.KeyOrd.kle_refl
def dk:=@PySem.PassesOwn.never
def dl:=@List.drop_take
def dm:=@List.take_zero
def dq:=@PySem.Paired.length
def dr:=@PySem.wpAny_standAt
def dt:=@Bool.and_true
def du:=@List.take_nil
def dA:=@Nat.le_of_eq
def dB:=@Nat.lt_trans
def dC:=@PySem.call_meetsIn
def dD:=@PyProof.Rows.wpS_forRange
def dE:=@getElem?_pos
def dF:=@PyProof.Rows.pairsOf_size
def dG:=@Int.zero_add
def dH:=@PySem.sizeLine_eq
def dI:=@PySem.typeIs_int
def dJ:=@PySem.call_meets
def dL:=@PySem.wpAny_rule
def dM:=@PyProof.Rows.wpS_modify
def dO:=@beq_iff_eq
def dQ:=@congrArg
def dR:=@if_false
def dS:=@Prod.ext
def dU:=@or_false
def dW:=@PyProof.Rows.wpS_bind
def dX:=@PyProof.Rows.wpS_lift
def dY:=@PyProof.Rows.wpS_pure
def dZ:=@PyProof.Rows.wpS_mono
def d7:=@if_true
def d8:=@Iff.rfl
def ei:=@PyProof.Rows.wpS_get
def eB:=@if_pos
def eC:=@if_neg
local macro_rules|`(tactic|clear 5 $t $[$a:ident]*)=>`(tactic|obtain⟨$[$a:ident],*⟩:=$t)
abbrev bN:=PySem.W.Frag
open PySem.W (codeIn)
def ua0:=@PyProof.Rows.slot_tuple_getitem
def ua1:=@Array.eq_empty_of_size_eq_zero
def ua2:=@List.eq_nil_of_length_eq_zero
def ua3:=@PyProof.Rows.callWith_type1
def ua4:=@PySem.F.slot_int_bit_length
def ua5:=@Array.getD_eq_getD_getElem?
def ua6:=@List.getElem?_append_right
def ua7:=@List.getD_eq_getElem?_getD
def ua8:=@Array.perm_iff_toList_perm
def ua9:=@List.perm_ext_iff_of_nodup
def ub0:=@List.getElem?_eq_some_iff
def ub1:=@List.getElem?_append_left
def ub2:=@List.drop_eq_getElem_cons
def ub3:=@List.pairwise_iff_getElem
def ub4:=@PySem.F.args_tuple_add_2
def ub5:=@List.getElem?_eq_getElem
def ub6:=@List.getElem?_replicate
def ub7:=@PySem.F.entry_tuple_add
def ub8:=@List.length_eq_zero_iff
def ub9:=@Option.bind_eq_some_iff
def uc0:=@PySem.F.plainAttrs_list
def uc1:=@Nat.add_sub_cancel_left
def uc2:=@Int.eq_ofNat_of_zero_le
def uc3:=@List.getElem?_set_self
def uc4:=@PySem.Heap.get?_push_of_some
def uc5:=@PySem.F.slot_tuple_add
def uc6:=@Option.map_eq_some_iff
def uc7:=@List.take_of_length_le
def uc8:=@List.Perm.append_right
def uc9:=@List.drop_of_length_le
def ud0:=@List.sum_replicate_nat
def ud1:=@List.mem_append_right
def ud2:=@List.length_replicate
def ud3:=@List.length_singleton
def ud4:=@Array.getElem?_toList
def ud5:=@List.length_filter_le
def ud6:=@Nat.le_of_ble_eq_true
def ud7:=@List.Perm.append_left
def ud8:=@List.perm_append_comm
def ud9:=@List.take_append_drop
def ue0:=@List.Pairwise.sublist
def ue1:=@List.set_append_right
def ue2:=@PySem.F.slot_dict_get
def ue3:=@List.mem_cons_of_mem
def ue4:=@List.mem_append_left
def ue5:=@List.getElem?_set_ne
def ue6:=@List.mem_of_getElem?
def ue7:=@List.mem_iff_getElem
def ue8:=@List.range_eq_range'
def ue9:=@List.pairwise_append
def uf0:=@Array.toList_extract
def uf1:=@List.drop_eq_nil_iff
def uf2:=@Array.toList_reverse
def uf3:=@List.mem_of_mem_take
def uf4:=@List.Pairwise.filter
def uf5:=@List.forall_mem_cons
def uf6:=@List.filterMap_cons
def uf7:=@Array.length_toList
def uf8:=@PySem.Heap.get?_push_size
def uf9:=@List.replicate_succ
def ug0:=@List.map_congr_left
def ug1:=@Int.toNat_of_nonneg
def ug2:=@Array.toList_append
def ug3:=@List.mem_map_of_mem
def ug4:=@Nat.lt_of_lt_of_le
def ug5:=@List.mem_cons_self
def ug6:=@Bool.false_ne_true
def ug7:=@List.length_append
def ug8:=@Bool.false_eq_true
def ug9:=@List.mem_singleton
def uh0:=@List.pairwise_cons
def uh1:=@Array.size_extract
def uh2:=@Int.emod_lt_of_pos
def uh3:=@List.getElem_range
def uh4:=@PySem.W.mg_none_of
def uh5:=@List.size_toArray
def uh6:=@List.getElem?_map
def uh7:=@List.take_sublist
def uh8:=@Int.toNat_natCast
def uh9:=@List.flatten_cons
def ui0:=@List.append_assoc
def ui1:=@Bool.eq_false_iff
def ui2:=@Nat.lt_succ_of_lt
def ui3:=@List.getElem?_set
def ui4:=@List.nodup_append
def ui5:=@List.length_range
def ui6:=@List.getElem_drop
def ui7:=@List.drop_sublist
def ui8:=@Bool.not_eq_true'
def ui9:=@List.pairwise_map
def uj0:=@PySem.Heap.get?_push_ne
def uj1:=@List.flatMap_cons
def uj2:=@decide_eq_true_eq
def uj3:=@of_decide_eq_true
def uj4:=@List.getElem_inj
def uj5:=@List.length_take
def uj6:=@List.length_drop
def uj7:=@Bool.and_eq_true
def uj8:=@List.length_cons
def uj9:=@List.filter_cons
def uk0:=@List.lookup_cons
def uk1:=@List.drop_length
def uk2:=@Nat.le_add_right
def uk3:=@List.all_eq_true
def uk4:=@List.range'_succ
def uk5:=@List.not_mem_nil
def uk6:=@List.getElem_mem
def uk7:=@List.mem_reverse
def uk8:=@List.take_length
def uk9:=@PySem.Heap.size_update
def ul0:=@Option.bind_some
def ul1:=@List.any_eq_true
def ul2:=@List.mem_flatMap
def ul3:=@List.nodup_range
def ul4:=@List.getElem_map
def ul5:=@List.count_range
def ul6:=@Option.getD_some
def ul7:=@List.flatMap_nil
def ul8:=@beq_self_eq_true
def ul9:=@Option.some.inj
def um0:=@List.mem_filter
def um1:=@List.mem_append
def um2:=@PySem.W.kia_one
def um3:=@List.append_nil
def um4:=@List.nodup_cons
def um5:=@List.of_mem_zip
def um6:=@List.length_map
def um7:=@List.length_set
def um8:=@List.nil_append
def um9:=@List.find?_cons
def un0:=@List.length_nil
def un1:=@List.forIn_cons
def un2:=@Option.map_some
def un3:=@Bool.eq_iff_iff
def un4:=@Nat.min_eq_left
def un5:=@List.map_append
def un6:=@Int.emod_nonneg
def un7:=@decide_eq_false
def un8:=@List.mem_range
def un9:=@List.nodup_nil
def uo0:=@List.drop_zero
def uo1:=@List.drop_drop
def uo2:=@Nat.mul_le_mul
def uo3:=@decide_eq_true
def uo4:=@Nat.lt_irrefl
def uo5:=@List.mem_cons
def uo6:=@List.map_cons
def uo7:=@List.all_cons
def uo8:=@List.any_cons
def uo9:=@List.map_take
def up0:=@List.map_drop
def uzz1:=@Nat.add_assoc
def up2:=@Bool.true_and
def up3:=@PySem.wpAny_holding
def up4:=@PySem.Heap.lt_size
def up5:=@Nat.ne_of_lt
def up6:=@Nat.le_trans
def up7:=@Nat.le_of_lt
def up8:=@Nat.ne_of_gt
def up9:=@List.map_nil
def uq0:=@Nat.mul_comm
def uq1:=@List.all_map
def uq2:=@Nat.zero_add
def uq3:=@Nat.add_zero
def uq4:=@Nat.sub_self
def uq5:=@List.map_map
def uq6:=@List.mem_map
def uq7:=@Nat.pow_succ
def uq8:=@List.set_set
def uq9:=@Nat.le_refl
def ur0:=@Nat.zero_le
def ur1:=@Nat.le_succ
def ur2:=@List.map_id
def ur3:=@Nat.mod_lt
def ur4:=@PySem.wpAny_bind
def ur5:=@PySem.wpAny_pure
def ur6:=@PySem.wpAny_mono
set_option Elab.async false
set_option maxRecDepth 100000
set_option maxHeartbeats 4000000
theorem oZ1{α:Sort u}{a:α}{b:Prop}:a=a\/b:=Or.inl rfl
theorem oZ2{α:Sort u}{a:α}{b:Prop}:b\/a=a:=Or.inr rfl
theorem oZ3{α:Sort u}{a:α}{b c:Prop}:b\/a=a\/c:=Or.inr (Or.inl rfl)
theorem oZ4{α:Sort u}{a:α}{b c:Prop}:b\/c\/a=a:=Or.inr (Or.inr rfl)
local macro_rules | `(tactic| walk_at"h") => `(tactic| first|exact oZ1|exact oZ2|exact oZ3|exact oZ4|assumption)
local macro_rules|`(∅)=>`(by lia)
theorem q0Ta(_:True:=by walk_at"h"):True:=.intro
def q0T:=@q0Ta._auto_1
theorem q1Ta(_:True:=by decide):True:=.intro
def q1T:=@q1Ta._auto_1
theorem q2Ta(_:True:=by intro _;rfl):True:=.intro
def q2T:=@q2Ta._auto_1
theorem q3Ta(_:True:=by rfl):True:=.intro
def q3T:=@q3Ta._auto_1
theorem q4Ta(_:True:=by exact List.cons_ne_nil _ _):True:=.intro
def q4T:=@q4Ta._auto_1
theorem q5Ta(_:True:=by exact ud6 rfl):True:=.intro
def q5T:=@q5Ta._auto_1
namespace L2
inductive XB3{A0 A1 A2:Type}(P:A0->A1->A2->Prop):Prop where|mk(a0:A0)(a1:A1)(a2:A2)(h:P a0 a1 a2):XB3 P
inductive XB6{A0 A1 A2 A3 A4 A5:Type}(P:A0->A1->A2->A3->A4->A5->Prop):Prop where|mk(a0:A0)(a1:A1)(a2:A2)(a3:A3)(a4:A4)(a5:A5)(h:P a0 a1 a2 a3 a4 a5):XB6 P
inductive XB7{A0 A1 A2 A3 A4 A5 A6:Type}(P:A0->A1->A2->A3->A4->A5->A6->Prop):Prop where|mk(a0:A0)(a1:A1)(a2:A2)(a3:A3)(a4:A4)(a5:A5)(a6:A6)(h:P a0 a1 a2 a3 a4 a5 a6):XB7 P
inductive AB5(p0 p1 p2 p3 p4:Prop):Prop where|mk:p0->p1->p2->p3->p4->AB5 p0 p1 p2 p3 p4
inductive AB6(p0 p1 p2 p3 p4 p5:Prop):Prop where|mk:p0->p1->p2->p3->p4->p5->AB6 p0 p1 p2 p3 p4 p5
inductive AB7(p0 p1 p2 p3 p4 p5 p6:Prop):Prop where|mk:p0->p1->p2->p3->p4->p5->p6->AB7 p0 p1 p2 p3 p4 p5 p6
open PySem PySem.Spec PyProof.Rows
abbrev Key:=Sum Int Str
noncomputable def G4:Key->bP->Bool
 |.inl k,v=>Value.isInt k v
 |.inr x,v=>Value.isStrOf x v
noncomputable def ZH(w:bT):Key->Int
 |.inl k=>hashInt k
 |.inr x=>hashStr w x
theorem BB:∀{k:Key}{v:bP},G4 k v=true->(∃i t,k=Sum.inl i/\v=Value.int i t)\/(∃x t,k=Sum.inr x/\v=Value.str x t)
 |.inl i,v,h=>by
   clear 5(Value.isInt_shape (k:=i) (v:=v) h)t e;exact .inl ⟨i,t,rfl,e⟩
 |.inr x,v,h=>by
   clear 5(Value.isStrOf_shape (x:=x) (v:=v) h)t e;exact .inr ⟨x,t,rfl,e⟩
theorem OU(i:Int)(t:Tok):G4 (.inl i) (.int i t)=true:=by simp[G4,Value.isInt]
theorem OV(x:Str)(t:Tok):G4 (.inr x) (.str x t)=true:=by simp[G4,Value.isStrOf]
theorem WK(a b:Int):decide ((Sum.inl a:Key)=Sum.inl b)=(a==b):=by
 by_cases e:a=b
 .subst e;simp
 .have h:¬(Sum.inl a:Key)=Sum.inl b:=λq=>e (Sum.inl.inj q);rw[un7 h];exact(cL.mpr e).symm
theorem WN(a b:Str):decide ((Sum.inr a:Key)=Sum.inr b)=decide (a=b):=by
 by_cases e:a=b
 .subst e;simp
 .have h:¬(Sum.inr a:Key)=Sum.inr b:=λq=>e (Sum.inr.inj q);rw[un7 h,un7 e]
theorem WL(a:Int)(b:Str):decide ((Sum.inl a:Key)=Sum.inr b)=false:=un7 (λq=>nomatch q)
theorem WM(a:Str)(b:Int):decide ((Sum.inr a:Key)=Sum.inl b)=false:=un7 (λq=>nomatch q)
def A5(prog:bS)(w:bT):PySem.KeyKind prog w Key where
 is:=G4
 hash:=ZH w
 inj:=λv a b ha hb=>by
  rcases BB ha with⟨i,t,rfl,rfl⟩|⟨x,t,rfl,rfl⟩
  .rcases BB hb with⟨j,u,rfl,e⟩|⟨y,u,rfl,e⟩
   .injection e with e1 _;rw[e1]
   .exact nomatch e
  .rcases BB hb with⟨j,u,rfl,e⟩|⟨y,u,rfl,e⟩
   .exact nomatch e
   .injection e with e1 _;rw[e1]
 byValue:=λk v h=>by
  rcases BB h with⟨i,t,rfl,rfl⟩|⟨x,t,rfl,rfl⟩<;>rfl
 pyHash:=λhv h=>by
  rcases BB hv with⟨i,t,rfl,rfl⟩|⟨x,t,rfl,rfl⟩
  .exact wpAny_pyHash_int h
  .exact wpAny_pyHash_str h
 eqBool:=λhu hv h=>by
  rcases BB hu with⟨i,t,rfl,rfl⟩|⟨x,t,rfl,rfl⟩
  .rcases BB hv with⟨j,u,rfl,rfl⟩|⟨y,u,rfl,rfl⟩
   .rw[WK] at h;exact wpAny_eqBool_int h
   .rw[WL] at h;exact SeqAt.EqAt.int_str i t y u _ _ _ _ h
  .rcases BB hv with⟨j,u,rfl,rfl⟩|⟨y,u,rfl,rfl⟩
   .rw[WM] at h;exact SeqAt.EqAt.str_int x t j u _ _ _ _ h
   .rw[WN] at h;exact wpAny_eqBool_str h
 «strs»:=λk x t v h=>by
  rcases BB h with⟨i,u,rfl,e⟩|⟨y,u,rfl,e⟩
  .exact nomatch e
  .injection e with e1 _
   subst e1
   cases v<;>rfl
theorem LP(prog:bS)(w:bT)(i:Int)(t:Tok):(A5 prog w).is (.inl i) (.int i t)=true:=OU i t
theorem LQ(prog:bS)(w:bT)(x:Str)(t:Tok):(A5 prog w).is (.inr x) (.str x t)=true:=OV x t
inductive V where
 |non|bl (b:Bool)|int (i:Int)|str (x:Str)|byt (b:Array UInt8)|flt (b:UInt64)|ref (a:bQ)|ty (n:String)
 deriving DecidableEq
noncomputable def RelV:V->bP->Prop
 |.non,u=>u=Value.none
 |.bl b,u=>u=Value.bool b
 |.int i,u=>∃t,u=Value.int i t
 |.str x,u=>∃t,u=Value.str x t
 |.byt b,u=>∃t,u=Value.bytes b t
 |.flt b,u=>∃t,u=Value.float b t
 |.ref a,u=>u=Value.ref a
 |.ty n,u=>u=Value.type n
abbrev Vals:List V->List bP->Prop:=Paired RelV
theorem Vals.length{xs:List V}{us:List bP}(r:Vals xs us):xs.length=us.length:=dq r
theorem Vals.get:∀{xs:List V}{us:List bP}{i:Nat}{x:V},Vals xs us->xs[i]?=some x->∃u,us[i]?=some u/\RelV x u
 |_,_,_,_,.nil,e=>by simp at e
 |_,_,0,_,.cons r _,e=>by simp at e;subst e;exact⟨_,rfl,r⟩
 |_,_,i+1,x,.cons _ t,e=>by
   clear 5(Vals.get (i:=i) (x:=x) t (by simpa using e))u h1 h2;exact⟨u,by simpa using h1,h2⟩
theorem Vals.set{x:V}{u:bP}(r:RelV x u):∀{xs:List V}{us:List bP} (i:Nat),Vals xs us->Vals (xs.set i x) (us.set i u)
 |_,_,_,.nil=>.nil
 |_,_,0,.cons _ t=>.cons r t
 |_,_,i+1,.cons q t=>.cons q (Vals.set r i t)
theorem Vals.append{xs ys:List V}{us ws:List bP}(r:Vals xs us)(s:Vals ys ws):Vals (xs++ys) (us++ws):=by
 cases r with
 |nil=>exact s
 |cons r t=>exact .cons r (Vals.append t s)
theorem Vals.take:∀{xs:List V}{us:List bP} (n:Nat),Vals xs us->Vals (xs.take n) (us.take n)
 |_,_,0,_=>.nil
 |_,_,_+1,.nil=>.nil
 |_,_,n+1,.cons r t=>.cons r (Vals.take n t)
theorem Vals.drop:∀{xs:List V}{us:List bP} (n:Nat),Vals xs us->Vals (xs.drop n) (us.drop n)
 |_,_,0,r=>r
 |_,_,_+1,.nil=>.nil
 |_,_,n+1,.cons _ t=>Vals.drop n t
def RelO:Option V->Option bP->Prop
 |some v,some u=>RelV v u
 |none,none=>True
 |_,_=>False
def KV{κ:Type}:List (κ×V)->List (κ×bP)->Prop:=Paired λ(p:κ×V) (q:κ×bP)=>p.1=q.1/\RelV p.2 q.2
noncomputable def kV:Key->V
 |.inl i=>.int i
 |.inr x=>.str x
inductive HO where
 /-- a list -/
 |lst (xs:List V)
 /-- a tuple (never changes) -/
 |tup (xs:List V)
 /-- a dict whose keys are ints and texts;one whose keys are tuples of ints and texts (the empty one is both) -/
 |dK (kvs:List (Key×V))|dT (kvs:List (List Key×V))
 /-- a set of ints: its members,its size -/
 |set (S:Int->Bool) (n:Nat)
 /-- an instance of the class at C,its dict at dx,its attributes -/
 |ins (C dx:bQ) (fs:List (Str×V))
 /-- the dict of the instance at x -/
 |own (x:bQ)
 /-- the dict of an exception -/
 |xd (fs:List (Str×V))
 /-- a bound method,f of x -/
 |met (f x:bQ)
 /-- a range object lo,lo+1,.. below hi -/
 |rng (lo hi:Int)
 /-- a thing that is known to the object (the script;a dict while a loop walks it): read,never written while it is so -/
 |frz (o:Obj) (u:HO)
 /-- a code object's table -/
 |tbl (ps:Array bP)
 /-- any other thing,by what is true of its one object (a def of one's own: SetO a S n:=HO.ext λh=>..) -/
 |ext (φ:Heap->Prop)
abbrev Hp:=bQ->Option HO
noncomputable def upd(H:Hp)(a:bQ)(o:HO):Hp:=λb=>if b=a then some o else H b
section
variable{H:Hp}{a:bQ}{o:HO}
theorem AA:upd H a o a=some o:=by unfold upd;rw[eB rfl]
variable{b:bQ}
theorem Ar(h:b≠a):upd H a o b=H b:=by unfold upd;rw[eC h]
theorem SV{u:HO}(h:H a=some o)(h':H b=some u)(d:o≠u):a≠b:=by
 intro e;subst e;rw[h] at h';exact d (ul9 h')
theorem Ax(h:H a=some o)(h':H b=none):a≠b:=by
 intro e;subst e;rw[h] at h';cases h'
section
variable(P:bS)(w:bT)
def ObjOk(H:Hp)(h:Heap)(a:bQ):HO->Prop
 |.lst xs=>xs.length<=sizeLine/\∃(its:List bP) (n:Nat),Vals xs its/\h.get? a=some {cls:=.type "list",data:=.seq its.toArray n}
 |.tup xs=>xs.length<=sizeLine/\∃its:List bP,Vals xs its/\IsTup h a its.toArray
 |.dK kvs=>kvs.length<=sizeLine/\(a==sysModules)=false/\∃vs,KV kvs vs/\h.DictOf (A5 P w) a vs
 | .dT kvs=>kvs.length<=sizeLine/\(a == sysModules)=false/\∃xs:List (List Key×bQ×bP),
    Paired (λ(p:List Key×V) (q:List Key×bQ×bP)=>p.1=q.1/\H q.2.1=some (.tup (p.1.map kV))/\RelV p.2 q.2.2) kvs xs/\
    ∃o es ep,h.get? a=some o/\o.ExactDict/\o.data=.dict es ep/\es.toList=xs.map (entryOfKey (tupleKind (A5 P w)))/\(xs.map (·.1)).Nodup
 |.set S n=>h.SetOf (intKind P w) a S n
 | .ins C dx fs=>H dx=some (.own a)/\fs.length<=1000/\dx≠a/\h.get? a=some (PySem.W.instObj C dx)/\
    ∃mA,h.Ns1 dx mA/\(∀f,RelO (fs.lookup f) (mA f))/\PySem.Within mA (fs.map (·.1))
 |.own _=>∃o,h.get? a=some o
 |.xd fs=>∃mA,h.Ns1 a mA/\∀f,RelO (fs.lookup f) (mA f)
 |.rng lo hi=>∃t u v,h.get? a=some {cls:=.type "range",data:=.fields #[.int lo t,.int hi u,.int 1 v]}
 |.frz o u=>h.get? a=some o/\ObjOk H h a u
 |.tbl ps=>h.get? a=some {cls:=.none,data:=.fields ps}
 |.met f x=>h.get? a=some (PySem.W.methodObj (.ref f) (.ref x))
 |.ext φ=>φ h/\(∃o,h.get? a=some o)/\∀h1 h2:Heap,φ h1->(∀o,h1.get? a=some o->h2.get? a=some o)->φ h2
def HOk(H:Hp)(h:Heap):Prop:=∀a o,H a=some o->ObjOk P w H h a o
end
section
variable{P:bS}{w:bT}{H H':Hp}{h h':Heap}{a:bQ}{o:HO}
theorem ObjOk.lt(x:ObjOk P w H h a o):a<h.objs.size:=by
 cases o with
 |lst xs=>obtain⟨_,_,_,_,e⟩:=x;exact up4 e
 |tup xs=>obtain⟨_,_,_,p⟩:=x;exact p.lt
 |dK kvs=>obtain⟨_,_,_,_,o,_,_,e,_⟩:=x;exact up4 e
 |dT kvs=>obtain⟨_,_,_,_,o,_,_,e,_⟩:=x;exact up4 e
 |set S n=>obtain⟨o,_,_,_,e,_⟩:=x;exact up4 e
 |ins C dx fs=>obtain⟨_,_,_,e,_⟩:=x;exact up4 e
 |own y=>obtain⟨_,e⟩:=x;exact up4 e
 |xd fs=>obtain⟨_,⟨_,_,_,e,_⟩,_⟩:=x;exact up4 e
 |rng lo hi=>obtain⟨_,_,_,e⟩:=x;exact up4 e
 |frz ob u=>obtain⟨e,_⟩:=x;exact up4 e
 |tbl ps=>exact up4 (show h.get? a=some _ from x)
 |met f y=>exact up4 (show h.get? a=some _ from x)
 |ext φ=>obtain⟨_,⟨_,e⟩,_⟩:=x;exact up4 e
theorem Paired.mapP{α β:Type}{F G:α->β->Prop}:∀{l₁:List α}{l₂:List β},Paired F l₁ l₂->(∀a b,F a b->G a b)->Paired G l₁ l₂
 |_,_,.nil,_=>.nil
 |_,_,.cons r t,f=>.cons (f _ _ r) (Paired.mapP t f)
theorem ObjOk.stay(x:ObjOk P w H h a o)(k:∀b u,(b=a\/H b=some (.own a))->h.get? b=some u->h'.get? b=some u)
 (ho:∀b,H b=some (.own a)->H' b=some (.own a)) (ht:∀b xs,H b=some (.tup xs)->H' b=some (.tup xs)):ObjOk P w H' h' a o:=by
 induction o with
 |lst xs=>clear 5 x z its n r e;exact⟨z,its,n,r,k _ _ (.inl rfl) e⟩
 |tup xs=>clear 5 x z its r ob e c;exact⟨z,its,r,ob,k _ _ (.inl rfl) e,c⟩
 |dK kvs=>clear 5 x z y vs r ob es ep e c;exact⟨z,y,vs,r,ob,es,ep,k _ _ (.inl rfl) e,c⟩
 |dT kvs=>
   clear 5 x z y xs r ob es ep e c;exact⟨z,y,xs,Paired.mapP r λp q z=>⟨z.1,ht _ _ z.2.1,z.2.2⟩,ob,es,ep,k _ _ (.inl rfl) e,c⟩
 |set S n=>clear 5 x ob es ep t e c;exact⟨ob,es,ep,t,k _ _ (.inl rfl) e,c⟩
 |ins C dx fs=>
   obtain⟨d,z,ne,e,mA,⟨od,es,ep,e2,c⟩,r⟩:=x;exact⟨ho _ d,z,ne,k _ _ (.inl rfl) e,mA,⟨od,es,ep,k _ _ (.inr d) e2,c⟩,r⟩
 |own y=>clear 5 x ob e;exact⟨ob,k _ _ (.inl rfl) e⟩
 |xd fs=>obtain⟨mA,⟨od,es,ep,e,c⟩,r⟩:=x;exact⟨mA,⟨od,es,ep,k _ _ (.inl rfl) e,c⟩,r⟩
 |rng lo hi=>clear 5 x t u v e;exact⟨t,u,v,k _ _ (.inl rfl) e⟩
 |frz ob u ih=>clear 5 x e q;exact⟨k _ _ (.inl rfl) e,ih q⟩
 |tbl ps=>
   have e:h.get? a=some {cls:=.none,data:=.fields ps}:=x;show h'.get? a=some {cls:=.none,data:=.fields ps};exact k a _ (.inl rfl) e
 |met f y=>
   have e:h.get? a=some (PySem.W.methodObj (.ref f) (.ref y)):=x;show h'.get? a=some (PySem.W.methodObj (.ref f) (.ref y));exact k a _ (.inl rfl) e
 |ext φ=>obtain⟨p,⟨o,e⟩,st⟩:=x;exact⟨st _ _ p λo q=>k _ _ (.inl rfl) q,⟨o,k _ _ (.inl rfl) e⟩,st⟩
theorem HOk.lt(x:HOk P w H h)(e:H a=some o):a<h.objs.size:=(x a o e).lt
theorem HOk.fresh(x:HOk P w H h)(e:h.objs.size<=a):H a=none:=by
 cases q:H a with
 |none=>rfl
 |some u=>exact absurd (ug4 (x.lt q) e) (uo4 _)
theorem HOk.kept(x:HOk P w H h)(k:∀b u,h.get? b=some u->h'.get? b=some u):HOk P w H h':=λa o e=>
 (x a o e).stay (λb u _ q=>k b u q) (λ_ q=>q) λ_ _ q=>q
theorem HOk.laid(x:HOk P w H h)(k:∀b u,h.get? b=some u->h'.get? b=some u)(hp:h.objs.size<=a)(new:ObjOk P w (upd H a o) h' a o):HOk P w (upd H a o) h':=λb u e=>by
 have hn:=x.fresh hp
 by_cases hb:b=a
 .subst hb;rw[AA] at e;cases e;exact new
 .rw[Ar hb] at e;exact(x b u e).stay (λc v _ q=>k c v q) (λc q=>by rw[Ar (Ax q hn)];exact q) λc xs q=>by rw[Ar (Ax q hn)];exact q
end
noncomputable def Rd(H:Hp)(a:bQ)(u:HO):Prop:=H a=some u\/∃o,H a=some (.frz o u)
variable{P:bS}{w:bT}{h:Heap}
theorem Rd.ok{u:HO}(r:Rd H a u)(x:HOk P w H h):ObjOk P w H h a u:=by
 rcases r with r|⟨o,r⟩
 .exact x a u r
 .obtain⟨_,q⟩:=x a _ r;exact q
def Mut:Option HO->Prop
 |some (.lst _)=>True
 |some (.dK _)=>True
 |some (.dT _)=>True
 |some (.set _ _)=>True
 |some (.ins _ _ _)=>True
 |some (.ext _)=>True
 |_=>False
section
variable{P:bS}{w:bT}{H:Hp}{h h':Heap}{x e:bQ}{o':HO}
theorem HOk.write(ok:HOk P w H h)(mu:Mut (H x))(he:e=x\/H e=some (.own x))(k:∀b u,b≠e->h.get? b=some u->h'.get? b=some u)(heo:∃u,h'.get? e=some u)
 (new:ObjOk P w (upd H x o') h' x o'):HOk P w (upd H x o') h':=λb u q=>by
 have nown:∀c y,H c=some (.own y)->c≠x:=λc y r z=>by subst z;rw[r] at mu;exact mu
 have ntup:∀c xs,H c=some (.tup xs)->c≠x:=λc xs r z=>by subst z;rw[r] at mu;exact mu
 by_cases hb:b=x
 .subst hb;rw[AA] at q;cases q;exact new
 .rw[Ar hb] at q
  by_cases hbe:b=e
  .have q':H b=some (.own x):=by
    rcases he with z|z
    .exact absurd (hbe.trans z) hb
    .rw[hbe];exact z
   rw[q] at q';cases q'
   clear 5 heo v hv;exact⟨v,by rw[hbe];exact hv⟩
  .refine(ok b u q).stay (λc v hc r=>k c v ?_ r) (λc r=>by rw[Ar (nown c b r)];exact r) λc xs r=>by rw[Ar (ntup c xs r)];exact r
   rcases hc with rfl|hc
   .exact hbe
   .rintro rfl;rcases he with z|z
    .exact nown c b hc z
    .rw[hc] at z;cases z;exact hb rfl
end
structure Un(fs ex:List bQ)(H H':Hp)(h h':Heap):Prop where
 keep:∀b o,h.get? b=some o->H b=none->b∉fs->b∉ex->h'.get? b=some o
 slot:∀b o,h.get? b=some o->H b=none->b∈fs->b∉ex->∃sl,h'.get? b=some {o with slots:=sl}
 free:∀b o,h.get? b=some o->H b=none->b∉ex->H' b=none
 there:∀b o,h.get? b=some o->b∉ex->∃o',h'.get? b=some o'
 tups:∀b xs,H b=some (.tup xs)->H' b=some (.tup xs)
 frzs:∀b o u,H b=some (.frz o u)->H' b=some (.frz o u)
 tbls:∀b ps,H b=some (.tbl ps)->∃more,H' b=some (.tbl (ps++more))
section
variable{fs fs' ex ex':List bQ}{H H1 H2:Hp}{h h1 h2 h':Heap}{a x e:bQ}{o:HO}
theorem Un.any(u:Un fs ex H H1 h h1){b:bQ}{ob:Obj}(q:h.get? b=some ob)(n:H b=none)(hx:b∉ex):∃sl,h1.get? b=some {ob with slots:=sl}:=by
 by_cases hb:b∈fs
 .exact u.slot b ob q n hb hx
 .exact⟨ob.slots,u.keep b ob q n hb hx⟩
theorem Un.kept(k:∀b u,h.get? b=some u->h'.get? b=some u):Un fs ex H H h h':=
 ⟨λb ob q _ _ _=>k b ob q,λb ob q _ _ _=>⟨ob.slots,k b ob q⟩,λ_ _ _ n _=>n,λb ob q _=>⟨ob,k b ob q⟩,λ_ _ q=>q,λ_ _ _ q=>q,λ_ ps q=>⟨#[],by rw[q];simp⟩⟩
theorem Un.refl:Un fs ex H H h h:=Un.kept λ_ _ q=>q
theorem Un.laid(k:∀b u,h.get? b=some u->h'.get? b=some u)(hp:h.objs.size<=a)(hn:H a=none):Un fs ex H (upd H a o) h h' where
 keep:=λb u q _ _ _=>k b u q
 slot:=λb u q _ _ _=>⟨u.slots,k b u q⟩
 free:=λb u q n _=>by rw[Ar (up5 (ug4 (up4 q) hp))];exact n
 there:=λb u q _=>⟨u,k b u q⟩
 tups:=λb xs q=>by rw[Ar (Ax q hn)];exact q
 frzs:=λb u xs q=>by rw[Ar (Ax q hn)];exact q
 tbls:=λb ps q=>⟨#[],by rw[Ar (Ax q hn),q];simp⟩
theorem Un.write(mu:Mut (H x))(he:e=x\/H e=some (.own x))(k:∀b u,b≠e->h.get? b=some u->h'.get? b=some u)(heo:∃u,h'.get? e=some u):Un fs ex H (upd H x o) h h':=by
 have hx:∀b,H b=none->b≠x:=λb n z=>by subst z;rw[n] at mu;exact mu
 have hb:∀b,H b=none->b≠e:=λb n z=>by
  subst z;rcases he with r|r
  .exact hx b n r
  .rw[n] at r;cases r
 have hm:∀b u,H b=some u->¬Mut (some u)->b≠x:=λb u q nm z=>by subst z;rw[q] at mu;exact nm mu
 refine⟨λb u q n _ _=>k b u (hb b n) q,λb u q n _ _=>⟨u.slots,k b u (hb b n) q⟩,λb u q n _=>by rw[Ar (hx b n)];exact n,λb u q _=>?_,
  λb xs q=>by rw[Ar (hm b _ q λz=>z)];exact q,λb u xs q=>by rw[Ar (hm b _ q λz=>z)];exact q,λb ps q=>⟨#[],by rw[Ar (hm b _ q λz=>z),q];simp⟩⟩
 by_cases hbe:b=e
 .subst hbe;exact heo
 .exact⟨u,k b u hbe q⟩
end
noncomputable def trk(h:Heap)(H:Hp):List bQ:=(List.range h.objs.size).filter λa=>(H a).isSome
def FS(h:Heap)(H:Hp):Heap:=PySem.W.hideAll h (trk h H)
theorem OO(h:Heap)(H:Hp):(FS h H).objs.size=h.objs.size:=PySem.W.hideAll_size _ _
theorem QL{o:Obj}(e:h.get? b=some o)(n:H b=none):(FS h H).get? b=some o:=
 PySem.W.hideAll_get _ e λhm=>by
  have q:(H b).isSome=true:=(um0.mp hm).2;rw[n] at q;simp at q
theorem UA{o:Obj}(e:(FS h H).get? b=some o):h.get? b=some o/\H b=none:=by
 have e':h.get? b=some o:=PySem.W.of_hideAll (trk h H) e;refine⟨e',?_⟩
 cases q:H b with
 |none=>rfl
 |some x=>
   have hm:b∈trk h H:=um0.mpr ⟨un8.mpr (up4 e'),by simp[q]⟩;have z:(FS h H).get? b=none:=PySem.W.hideAll_none (trk h H) hm;rw[z] at e;cases e
noncomputable def Tv(g h:Heap)(L:bQ):List (bQ×Obj):=(List.range h.objs.size).filterMap λa=>if a=L\/(g.get? a).isSome=true then none else(h.get? a).map λo=>(a,o)
def rest(g h:Heap)(L d:bQ):List (bQ×Obj):=(Tv g h L).filter λp=>decide (p.1≠d)
structure Mod(K:bN)(mg:Str->Option bP)(base:Heap):Prop where
 kin:K.In base
 glob:base.Ns mainGlobals mg
 blt:∃mb,base.Ns builtinsNs mb/\∀x:Str,x≠"__name__"->mb x=bootBuiltins x
 nolimit:base.NoLimit
structure Cx where
 prog:bS
 w:bT
 K:bN
 mg:Str->Option bP
 base:Heap
 A:Around
 N:List Str
 s₀:bR
 H₀:Hp
 env:Env
 outer:List Env
 stack:List Env
 ex:List bQ
 fn:Str->Bool
 calm:Bool
 pn:List (bQ×Obj)
 xe:bP->bR->Prop
noncomputable def frs(l:List Env):List bQ:=l.filterMap (·.frame)
abbrev Cx.fs(X:Cx):List bQ:=frs X.outer
def Vis(sc:Scope)(x:Str):Prop:=sc.names.lookup x=some .local\/sc.names.lookup x=some .cell\/sc.names.lookup x=some .free
def Loc(sc:Scope)(x:Str):Prop:=sc.names.lookup x=some .local\/sc.names.lookup x=some .cell
def Zj(env:Env)(h:Heap)(m:Str->Option bP)(x:Str)(u:bP):Prop:=
 (env.kindOf x=some .local/\m x=some u)\/((env.kindOf x=some .cell\/env.kindOf x=some .free)/\∃c,env.cells.lookup x=some c/\h.IsCell c (some u))
structure Cx.Ok(X:Cx):Prop where
 mod:Mod X.K X.mg X.base
 kind:X.env.scope.kind=.function
 glob:X.env.globals=mainGlobals
 blt:X.env.builtins=builtinsNs
 above:X.s₀.heap.objs.size<=X.env.locals
 inj:∀x y c,X.env.cells.lookup x=some c->X.env.cells.lookup y=some c->x=y
 has:∀x,(X.env.kindOf x=some .cell\/X.env.kindOf x=some .free)->∃c,X.env.cells.lookup x=some c
 cab:∀x c,X.fn x=true->X.env.cells.lookup x=some c->X.s₀.heap.objs.size<=c
 hd:X.calm=true->X.A.handled=none
 frames:X.A.frames=some X.stack
 stk:X.stack=X.outer\/(X.stack=X.env::X.outer/\X.env.frame=some X.env.locals)
 exf:∀b∈X.ex,b≠X.env.locals/\∀x c,X.env.cells.lookup x=some c->c≠b
 bs:∀b o,X.base.get? b=some o->X.s₀.heap.get? b=some o/\X.H₀ b=none
 bsz:X.base.objs.size<=X.s₀.heap.objs.size
 noex:∀b o,X.base.get? b=some o->b∉X.ex
 exfs:∀b∈X.ex,b∉X.fs
 funs:X.s₀.heap.FunFrames X.base X.outer
 frf:∀b∈X.fs,X.H₀ b=none
structure Inv(X:Cx)(bO:List (bQ×Obj))(σ:List (Option V))(H:Hp)(s:bR):Prop where
 ok:X.Ok
 os:s.os=X.s₀.os
 bare:AllBare s.gens
 base:Un X.fs X.ex X.H₀ H X.s₀.heap s.heap
 loc:∃m,s.heap.Ns X.env.locals m/\∀(i:Nat) (x:Str) (v:V),X.N[i]?=some x->σ[i]?=some (some v)->Vis X.env.scope x->∃u,RelV v u/\Zj X.env s.heap m x u
 cell:∀x c,X.env.cells.lookup x=some c->∃v,s.heap.IsCell c v
 free:H X.env.locals=none
 freeC:∀x c,X.env.cells.lookup x=some c->H c=none
 pin:∀p∈X.pn++bO,s.heap.get? p.1=some p.2/\H p.1=none/\p.1≠X.env.locals/\p.1∉X.fs/\∀v,p.2.data≠.cell v
 hok:HOk X.prog X.w H s.heap
 len:σ.length=X.N.length
variable{t' i:Nat}{E:bP->bR->Prop}{x:Str}{u:bP}{Q:Unit->bR->Prop}
section
variable{X:Cx}{bO:List (bQ×Obj)}{σ:List (Option V)}{H H':Hp}{s:bR}{h':Heap}
theorem Cx.Ok.nofr(ok:X.Ok){b:bQ}{o:Obj}(e:X.base.get? b=some o):b∉X.fs:=λhb=>by
 have:=(ok.funs.mem hb).1;rw[e] at this;cases this
theorem Inv.bs(I:Inv X bO σ H s):∀b o,X.base.get? b=some o->s.heap.get? b=some o/\H b=none:=λb o e=>
 ⟨I.base.keep b o (I.ok.bs b o e).1 (I.ok.bs b o e).2 (I.ok.nofr e) (I.ok.noex b o e),I.base.free b o (I.ok.bs b o e).1 (I.ok.bs b o e).2 (I.ok.noex b o e)⟩
theorem Inv.bk(I:Inv X bO σ H s):∀b o,X.base.get? b=some o->s.heap.get? b=some o:=λb o e=>(I.bs b o e).1
theorem Inv.mod(I:Inv X bO σ H s):Mod X.K X.mg X.base:=I.ok.mod
theorem Inv.kIn(I:Inv X bO σ H s):X.K.In s.heap:=I.ok.mod.kin.keeps I.bk
theorem Inv.lt(I:Inv X bO σ H s):X.env.locals<s.heap.objs.size:=let ⟨_,hn,_⟩:=I.loc;hn.lt
theorem Inv.sz(I:Inv X bO σ H s):X.s₀.heap.objs.size<=s.heap.objs.size:=up6 I.ok.above (up7 I.lt)
theorem Inv.nofs(I:Inv X bO σ H s){a:bQ}(h:s.heap.objs.size<=a):a∉X.fs:=λhb=>by
 obtain⟨_,o,ho,_⟩:=I.ok.funs.mem hb;exact absurd (ug4 (up4 ho) (up6 I.sz h)) (uo4 _)
theorem Inv.cne(I:Inv X bO σ H s):∀x c,X.env.cells.lookup x=some c->c≠X.env.locals:=λx c e z=>by
 clear 5(I.cell x c e)v o ho hd;obtain⟨m,⟨o',es,ep,ho',hd',_⟩,_⟩:=I.loc;rw[z,ho'] at ho;cases ho;rw[hd'] at hd;cases hd
theorem Inv.funs(I:Inv X bO σ H s):s.heap.FunFrames X.base X.outer:=by
 have all:∀(l:List Env),(∀b∈frs l,b∈X.fs)->X.s₀.heap.FunFrames X.base l->s.heap.FunFrames X.base l:=by
  intro l
  induction l with
  |nil=>intro _ _;trivial
  |cons env r ih=>
    intro hs hl;obtain⟨hk,⟨L,o,hf,hn,ho,hd⟩,hr⟩:=hl;have hL:L∈X.fs:=hs L (by unfold frs;rw[uf6,hf];exact ug5);obtain⟨sl,e⟩:=I.base.slot L o ho (I.ok.frf L hL) hL λz=>I.ok.exfs L z hL;exact⟨hk,⟨L,_,hf,hn,e,hd⟩,ih (λb hb=>hs b (by unfold frs;rw[uf6,hf];exact ue3 _ hb)) hr⟩
 exact all X.outer (λ_ hb=>hb) I.ok.funs
theorem Inv.stack(I:Inv X bO σ H s):s.heap.FunFrames X.base X.stack:=by
 rcases I.ok.stk with e|⟨e,hf⟩
 .rw[e];exact I.funs
 .rw[e];obtain⟨m,hn,_⟩:=I.loc;refine .cons (by rw[I.ok.kind];decide) hf hn ?_ I.funs;exact Heap.get?_none_of_le (up6 I.ok.bsz I.ok.above)
theorem Inv.stkSub(I:Inv X bO σ H s):∀b∈frs X.stack,b∈X.env.locals::X.fs:=λb hb=>by
 rcases I.ok.stk with e|⟨e,hf⟩
 .rw[e] at hb;exact ue3 _ hb
 .rw[e] at hb;unfold frs at hb;rw[uf6,hf] at hb;exact hb
theorem Inv.stkFree(I:Inv X bO σ H s):∀b∈frs X.stack,H b=none:=λb hb=>by
 rcases uo5.mp (I.stkSub b hb) with e|hb
 .rw[e];exact I.free
 .obtain⟨_,o,ho,_⟩:=I.ok.funs.mem hb;exact I.base.free b o ho (I.ok.frf b hb) λz=>I.ok.exfs b z hb
theorem Inv.step{g':Array GenState}{t':Nat}{d':Drawn}{ch:List bQ}(I:Inv X bO σ H s)
 (hch:∀b∈ch,(b∈X.ex\/X.s₀.heap.objs.size<=b)/\b≠X.env.locals/\(∀x c,X.env.cells.lookup x=some c->c≠b)/\∀p∈X.pn++bO,p.1≠b)
 (keep:∀b o,b≠X.env.locals->b∉X.fs->b∉ch->s.heap.get? b=some o->H b=none->h'.get? b=some o)
 (slot:∀b o,b≠X.env.locals->b∈X.fs->b∉ch->s.heap.get? b=some o->H b=none->∃sl,h'.get? b=some {o with slots:=sl}) (free:∀b o,b∉ch->s.heap.get? b=some o->H b=none->H' b=none)
 (there:∀b o,b∉ch->s.heap.get? b=some o->∃o',h'.get? b=some o')
 (tups:∀b xs,H b=some (.tup xs)->H' b=some (.tup xs)) (frzs:∀b o u,H b=some (.frz o u)->H' b=some (.frz o u)) (tbls:∀b ps,H b=some (.tbl ps)->∃more,H' b=some (.tbl (ps++more)))
 (ns:∀m,s.heap.Ns X.env.locals m->h'.Ns X.env.locals m) (hok:HOk X.prog X.w H' h') (hg:AllBare g') :
 Inv X bO σ H' {s with heap:=h',gens:=g',drawn:=d',toks:=t'}:=by
 have neL:∀b o,X.s₀.heap.get? b=some o->b≠X.env.locals:=λb o e=>up5 (ug4 (up4 e) I.ok.above);have neC:∀b o,X.s₀.heap.get? b=some o->b∉X.ex->b∉ch:=λb o e hx hb=>by
  rcases (hch b hb).1 with z|z
  .exact hx z
  .exact absurd (ug4 (up4 e) z) (uo4 _)
 have cellK:∀x c,X.env.cells.lookup x=some c->∀v,s.heap.IsCell c v->h'.IsCell c v:=λx c e v z9=>by
  clear 5 z9 o ho hd;have nch:c∉ch:=λz=>(hch c z).2.2.1 x c e rfl
  by_cases hc:c∈X.fs
  .clear 5(slot c o (I.cne x c e) hc nch ho (I.freeC x c e))sl q;exact⟨_,q,hd⟩
  .exact⟨o,keep c o (I.cne x c e) hc nch ho (I.freeC x c e),hd⟩
 refine⟨I.ok,I.os,hg,⟨λb o e n hb hx=>?_,λb o e n hb hx=>?_,λb o e n hx=>?_,λb o e hx=>?_,λb xs e=>tups b xs (I.base.tups b xs e),λb o xs e=>frzs b o xs (I.base.frzs b o xs e),λb ps e=>?_⟩,?_,λx c e=>?_,?_,λx c e=>?_,λp hp=>?_,hok,I.len⟩
 .exact keep b o (neL b o e) hb (neC b o e hx) (I.base.keep b o e n hb hx) (I.base.free b o e n hx)
 .clear 5(I.base.slot b o e n hb hx)sl e1;clear 5(slot b _ (neL b o e) hb (neC b o e hx) e1 (I.base.free b o e n hx))sl' e2;exact⟨sl',e2⟩
 .clear 5(I.base.there b o e hx)o' e1;exact free b o' (neC b o e hx) e1 (I.base.free b o e n hx)
 .clear 5(I.base.there b o e hx)o' e1;exact there b o' (neC b o e hx) e1
 .clear 5(I.base.tbls b ps e)m1 e1;clear 5(tbls b _ e1)m2 e2;exact⟨m1++m2,by rw[e2,Array.append_assoc]⟩
 .clear 5 I.loc m hn hl;refine⟨m,ns m hn,λi x v e1 e2 e3=>?_⟩;clear 5(hl i x v e1 e2 e3)u r l;refine⟨u,r,?_⟩;rcases l with l|⟨k,c,e,z⟩
  .exact .inl l
  .exact .inr ⟨k,c,e,cellK x c e _ z⟩
 .clear 5(I.cell x c e)v z;exact⟨v,cellK x c e v z⟩
 .obtain⟨m,⟨o,_,_,ho,_⟩,_⟩:=I.loc;exact free _ o (λz=>(hch _ z).2.1 rfl) ho I.free
 .clear 5(I.cell x c e)v o ho hd;exact free c o (λz=>(hch c z).2.2.1 x c e rfl) ho (I.freeC x c e)
 .clear 5(I.pin p hp)e n ne nf d;have nch:p.1∉ch:=λz=>(hch p.1 z).2.2.2 p hp rfl;exact⟨keep p.1 p.2 ne nf nch e n,free p.1 p.2 nch e n,ne,nf,d⟩
theorem Inv.un(I:Inv X bO σ H s)(u:Un X.fs [] H H' s.heap h')(hok:HOk X.prog X.w H' h'):Inv X bO σ H' {s with heap:=h',toks:=t'}:=by
 obtain⟨m,⟨o,es,ep,ho,r⟩,_⟩:=id I.loc;clear 5(u.any ho I.free (by simp))sl hL;exact I.step (g':=s.gens) (d':=s.drawn) (ch:=[]) (λ_ z=>nomatch z) (λb o _ hb _ e n=>u.keep b o e n hb (by simp)) (λb o _ hb _ e n=>u.slot b o e n hb (by simp)) (λb o _ e n=>u.free b o e n (by simp)) (λb o _ e=>u.there b o e (by simp)) u.tups u.frzs u.tbls (λm' hm=>by
  clear 5 hm o' es' ep' ho' r';rw[ho] at ho';cases ho'
  exact⟨_,es',ep',hL,r'⟩) hok I.bare
theorem Inv.call{g':Array GenState}{d':Drawn}{ch:List bQ}(I:Inv X bO σ H s)(u:Un (frs X.stack) ch H H' s.heap h')(hok:HOk X.prog X.w H' h')(hg:AllBare g')
 (hch:∀b∈ch,(b∈X.ex\/X.s₀.heap.objs.size<=b)/\b≠X.env.locals/\(∀x c,X.env.cells.lookup x=some c->c≠b)/\∀p∈X.pn++bO,p.1≠b) :
 Inv X bO σ H' {s with heap:=h',gens:=g',drawn:=d',toks:=t'}:=by
 obtain⟨m,⟨o,es,ep,ho,r⟩,_⟩:=id I.loc;obtain⟨sl,hL⟩:=u.any ho I.free λz=>(hch _ z).2.1 rfl;exact I.step (ch:=ch) hch (λb o hL hb hc e n=>u.keep b o e n (λz=>(uo5.mp (I.stkSub b z)).elim hL hb) hc) (λb o _ _ hc e n=>u.any e n hc) (λb o hc e n=>u.free b o e n hc) (λb o hc e=>u.there b o e hc) u.tups u.frzs u.tbls (λm' hm=>by
  clear 5 hm o' es' ep' ho' r';rw[ho] at ho';cases ho'
  exact⟨_,es',ep',hL,r'⟩) hok hg
theorem Inv.turned{it:bQ}(I:Inv X bO σ H s)(k:∀b o,b≠it->s.heap.get? b=some o->h'.get? b=some o)(hn:H it=none)(hL:it≠X.env.locals)
 (h1:it∈X.ex\/X.s₀.heap.objs.size<=it) (h2:∀x c,X.env.cells.lookup x=some c->c≠it) (h3:∀p∈X.pn++bO,p.1≠it):Inv X bO σ H {s with heap:=h',toks:=t'}:=by
 have nit:∀b u,H b=some u->b≠it:=λb u e z=>by rw[z,hn] at e;cases e
 refine I.step (g':=s.gens) (d':=s.drawn) (ch:=[it]) (λb hb=>?_) (λb o _ _ hc e _=>k b o (λz=>hc (by simp[z])) e) (λb o _ _ hc e _=>⟨o.slots,k b o (λz=>hc (by simp[z])) e⟩) (λ_ _ _ _ n=>n)
  (λb o hc e=>⟨o,k b o (λz=>hc (by simp[z])) e⟩) (λ_ _ e=>e) (λ_ _ _ e=>e) (λb ps e=>⟨#[],by rw[e];simp⟩) (λm hm=>?_) (λb u e=>?_) I.bare
 .have e:b=it:=by simpa using hb
  subst e;exact⟨h1,hL,h2,h3⟩
 .clear 5 hm o es ep ho r;exact⟨o,es,ep,k _ o (Ne.symm hL) ho,r⟩
 .refine(I.hok b u e).stay (λc v hc q=>k c v ?_ q) (λ_ q=>q) λ_ _ q=>q;rcases hc with z|z
  .rw[z];exact nit b u e
  .exact nit c _ z
theorem Inv.tok(I:Inv X bO σ H s)(t:Nat):Inv X bO σ H {s with toks:=t}:=I.un (h':=s.heap) (t':=t) Un.refl I.hok
theorem Inv.kept{t':Nat}(I:Inv X bO σ H s)(k:∀b u,s.heap.get? b=some u->h'.get? b=some u):Inv X bO σ H {s with heap:=h',toks:=t'}:=I.un (Un.kept k) (I.hok.kept k)
theorem Inv.laid{a:bQ}{o:HO}{t':Nat}(I:Inv X bO σ H s)(k:∀b u,s.heap.get? b=some u->h'.get? b=some u)(hp:s.heap.objs.size<=a)(new:ObjOk X.prog X.w (upd H a o) h' a o) :
 Inv X bO σ (upd H a o) {s with heap:=h',toks:=t'}:=I.un (Un.laid k hp (I.hok.fresh hp)) (I.hok.laid k hp new)
theorem Inv.write{x e:bQ}{o:HO}{t':Nat}(I:Inv X bO σ H s)(mu:Mut (H x))(he:e=x\/H e=some (.own x))(k:∀b u,b≠e->s.heap.get? b=some u->h'.get? b=some u)(heo:∃u,h'.get? e=some u)
 (new:ObjOk X.prog X.w (upd H x o) h' x o):Inv X bO σ (upd H x o) {s with heap:=h',toks:=t'}:=I.un (Un.write mu he k heo) (I.hok.write mu he k heo new)
theorem Inv.pins_of{pins':List (bQ×Obj)}(I:Inv X bO σ H s)(h:∀p∈pins',s.heap.get? p.1=some p.2/\H p.1=none/\p.1≠X.env.locals/\p.1∉X.fs/\∀v,p.2.data≠.cell v):Inv X pins' σ H s:=
 ⟨I.ok,I.os,I.bare,I.base,I.loc,I.cell,I.free,I.freeC,λp hp=>(um1.mp hp).elim (λz=>I.pin p (ue4 _ z)) (h p),I.hok,I.len⟩
theorem KU{N:List Str}(hN:N.Nodup){i j:Nat}{x:Str}(a:N[i]?=some x)(b:N[j]?=some x):i=j:=by
 clear 5(ub0.mp a)h1 e1;clear 5(ub0.mp b)h2 e2;exact(uj4 hN).mp (e1.trans e2.symm)
theorem JT{M:Model}{A:Around}{v:V}(I:Inv X bO σ H s)(hN:X.N.Nodup)(hi:X.N[i]?=some x)(hx:Loc X.env.scope x)(r:RelV v u)
 (h:∀s',Inv X bO (σ.set i (some v)) H s'->(∃a,Heap.SameBut a s.heap s'.heap/\(a=X.env.locals\/X.env.cells.lookup x=some a))->Q () s') (hf:autoParam (X.fn x=true\/X.env.scope.names.lookup x=some .local) q0T):wpAny M A (storeName X.env x u) Q E s:=by
 clear 5(id I.loc)m hn hl;have hcls:(X.env.scope.kind==.class||(X.env.scope.kind==.module&&X.env.locals != X.env.globals))=false:=by rw[I.ok.kind];rfl
 have hiσ:i < σ.length:=by rw[I.len];exact(ub0.mp hi).1
 have cne:=I.cne;have tracked:∀{a:bQ}{h':Heap},(∃o,s.heap.get? a=some o/\H a=none)->Heap.SameBut a s.heap h'->HOk X.prog X.w H h':=λ{a h'} ha hs b ob e=>by
  obtain⟨_,_,hfree⟩:=ha;refine(I.hok b ob e).stay (λc w' hc q=>(hs.2 c ?_).trans q) (λ_ q=>q) λ_ _ q=>q;rintro rfl;rcases hc with rfl|hc
  .rw[hfree] at e;cases e
  .rw[hfree] at hc;cases hc
 rcases hx with hk|hk
 .refine wpAny_storeName_local hk hn (λh' hn' hs=>?_) hcls;obtain⟨oL,_,_,hoL,_⟩:=id hn;refine h _ ⟨I.ok,I.os,I.bare,⟨λb o e n hb hx=>?_,λb o e n hb hx=>?_,I.base.free,λb o e hx=>?_,I.base.tups,I.base.frzs,I.base.tbls⟩,⟨_,hn',λj y v' e1 e2 e3=>?_⟩,λy c e=>?_,I.free,I.freeC,λp hp=>?_,tracked ⟨oL,hoL,I.free⟩ hs,by simpa using I.len⟩ ⟨_,hs,.inl rfl⟩
  .exact(hs.2 b (up5 (ug4 (up4 e) I.ok.above))).trans (I.base.keep b o e n hb hx)
  .clear 5(I.base.slot b o e n hb hx)sl e1;exact⟨sl,(hs.2 b (up5 (ug4 (up4 e) I.ok.above))).trans e1⟩
  .clear 5(I.base.there b o e hx)o' e1;exact⟨o',(hs.2 b (up5 (ug4 (up4 e) I.ok.above))).trans e1⟩
  .by_cases hj:j=i
   .subst hj;rw[hi] at e1;cases e1
    rw[uc3 hiσ] at e2
    cases e2
    exact⟨u,r,.inl ⟨hk,by simp⟩⟩
   .rw[ue5 (Ne.symm hj)] at e2;clear 5(hl j y v' e1 e2 e3)u' r' q;refine⟨u',r',?_⟩;rcases q with⟨k,e⟩|⟨k,c,e,z⟩
    .refine .inl ⟨k,?_⟩;have:y≠x:=λe=>hj (KU hN e1 (e ▸ hi));simp[this,e]
    .exact .inr ⟨k,c,e,z.sameBut hs (cne y c e)⟩
  .clear 5(I.cell y c e)w' z;exact⟨w',z.sameBut hs (cne y c e)⟩
  .clear 5(I.pin p hp)e n ne nf d;exact⟨(hs.2 p.1 ne).trans e,n,ne,nf,d⟩
 .have hfn:X.fn x=true:=by
   rcases hf with z|z
   .exact z
   .rw[z] at hk;cases hk
  clear 5(I.ok.has x (.inl hk))c hc;clear 5(I.cell x c hc)w' z;refine wpAny_storeName_cell I.ok.kind hk hc z (λh' hc' hs=>?_);clear 5(id z)oc hoc hocd;refine h {s with heap:=h'} ⟨I.ok,I.os,I.bare,⟨λb o e n hb hx=>?_,λb o e n hb hx=>?_,I.base.free,λb o e hx=>?_,I.base.tups,I.base.frzs,I.base.tbls⟩,⟨m,hn.sameBut hs (Ne.symm (cne x c hc)),λj y v' e1 e2 e3=>?_⟩,λy c' e=>?_,I.free,I.freeC,λp hp=>?_,tracked ⟨oc,hoc,I.freeC x c hc⟩ hs,by simpa using I.len⟩ ⟨c,hs,.inr hc⟩
  .exact(hs.2 b (up5 (ug4 (up4 e) (I.ok.cab x c hfn hc)))).trans (I.base.keep b o e n hb hx)
  .clear 5(I.base.slot b o e n hb hx)sl e1;exact⟨sl,(hs.2 b (up5 (ug4 (up4 e) (I.ok.cab x c hfn hc)))).trans e1⟩
  .clear 5(I.base.there b o e hx)o' e1;exact⟨o',(hs.2 b (up5 (ug4 (up4 e) (I.ok.cab x c hfn hc)))).trans e1⟩
  .by_cases hj:j=i
   .subst hj;rw[hi] at e1;cases e1
    rw[uc3 hiσ] at e2
    cases e2
    exact⟨u,r,.inr ⟨.inl hk,c,hc,hc'⟩⟩
   .rw[ue5 (Ne.symm hj)] at e2;clear 5(hl j y v' e1 e2 e3)u' r' q;refine⟨u',r',?_⟩;rcases q with q|⟨k,c',e,z'⟩
    .exact .inl q
    .refine .inr ⟨k,c',e,z'.sameBut hs ?_⟩;rintro rfl;exact hj (KU hN e1 (I.ok.inj _ _ _ e hc ▸ hi))
  .by_cases hcc:c'=c
   .subst hcc;exact⟨_,hc'⟩
   .clear 5(I.cell y c' e)w2 z2;exact⟨w2,z2.sameBut hs hcc⟩
  .clear 5(I.pin p hp)e n ne nf d;refine⟨(hs.2 p.1 ?_).trans e,n,ne,nf,d⟩;intro q;rw[q,hoc] at e;have q':oc=p.2:=ul9 e;exact d w' (by rw[<-q'];exact hocd)
theorem Lx{M:Model}{A:Around}{v:V}(I:Inv X bO σ H s)(hN:X.N.Nodup)(hi:X.N[i]?=some x)(hx:Loc X.env.scope x)(r:RelV v u)
 (h:∀s',Inv X bO (σ.set i (some v)) H s'->Q () s') (hf:autoParam (X.fn x=true\/X.env.scope.names.lookup x=some .local) q0T):wpAny M A (storeName X.env x u) Q E s:=
 JT I hN hi hx r (λs' I' _=>h s' I') hf
theorem Inv.call'{s':bR}{ch:List bQ}(I:Inv X bO σ H s)(ho:s'.os=s.os)(u:Un (frs X.stack) ch H H' s.heap s'.heap)(hok:HOk X.prog X.w H' s'.heap)(hg:AllBare s'.gens)
 (hch:∀b∈ch,(b∈X.ex\/X.s₀.heap.objs.size<=b)/\b≠X.env.locals/\(∀x c,X.env.cells.lookup x=some c->c≠b)/\∀p∈X.pn++bO,p.1≠b):Inv X bO σ H' s':=by
 clear 5 s' h' g' d' t' o';have e:o'=s.os:=ho;subst e;exact I.call (g':=g') (t':=t') (d':=d') u hok hg hch
end
abbrev XK:=bP->Option bQ->Hp->Prop
abbrev St:=List (Option V)
abbrev VK:=V->Hp->Prop
abbrev TE:=St->Hp->VK->Prop
abbrev TT:=St->Hp->(Bool->Hp->Prop)->Prop
abbrev TA:=St->Hp->(List V->Hp->Prop)->Prop
structure Ends where
 nx:St->Hp->Prop
 rt:VK
 bk:St->Hp->Prop:=λ_ _=>False
 ct:St->Hp->Prop:=λ_ _=>False
abbrev TS:=Ends->St->Hp->Prop
inductive EP(X:Cx)(bO:List (bQ×Obj))(σ:St)(Q:VK)(u:bP)(s':bR):Prop where
 |mk (v:V) (H':Hp) (i:Inv X bO σ H' s') (r:RelV v u) (q:Q v H'):EP X bO σ Q u s'
inductive TP(X:Cx)(bO:List (bQ×Obj))(σ:St)(Q:Bool->Hp->Prop)(b:Bool)(s':bR):Prop where
 |mk (H':Hp) (i:Inv X bO σ H' s') (q:Q b H'):TP X bO σ Q b s'
inductive AP(X:Cx)(bO:List (bQ×Obj))(σ:St)(Q:List V->Hp->Prop)(us:List bP)(s':bR):Prop where
 |mk (vs:List V) (H':Hp) (i:Inv X bO σ H' s') (r:Vals vs us) (q:Q vs H'):AP X bO σ Q us s'
def SP(X:Cx)(bO:List (bQ×Obj))(D:Ends)(f:Flow)(s':bR):Prop:=
 match f with
 |.next=>∃σ' H',Inv X bO σ' H' s'/\D.nx σ' H'
 |.brk=>∃σ' H',Inv X bO σ' H' s'/\D.bk σ' H'
 |.cont=>∃σ' H',Inv X bO σ' H' s'/\D.ct σ' H'
 |.ret u=>∃v σ' H',Inv X bO σ' H' s'/\RelV v u/\D.rt v H'
def PE(X:Cx)(e:Expr)(t:TE):Prop:=
 ∀(bO:List (bQ×Obj)) (s:bR) (σ:St) (H:Hp) (Q:VK),Inv X bO σ H s->t σ H Q->wpAny (model X.prog X.w) X.A (eval e X.env) (EP X bO σ Q) X.xe s
def PT(X:Cx)(e:Expr)(t:TT):Prop:=
 ∀(bO:List (bQ×Obj)) (s:bR) (σ:St) (H:Hp) (Q:Bool->Hp->Prop),Inv X bO σ H s->t σ H Q->wpAny (model X.prog X.w) X.A (isTrue e X.env (eval e X.env)) (TP X bO σ Q) X.xe s
def PW(X:Cx)(e:Expr)(t:TT):Prop:=
 ∀(whole:Sem bP) (bO:List (bQ×Obj)) (s:bR) (σ:St) (H:Hp) (Q:Bool->Hp->Prop),Inv X bO σ H s->t σ H Q->wpAny (model X.prog X.w) X.A (isTrue e X.env whole) (TP X bO σ Q) X.xe s
variable{X:Cx}{e:Expr}
theorem PW.pt{t:TT}(h:PW X e t):PT X e t:=h _
def PA(X:Cx)(es:List Expr)(t:TA):Prop:=
 ∀(pos:Pos) (bO:List (bQ×Obj)) (s:bR) (σ:St) (H:Hp) (Q:List V->Hp->Prop),Inv X bO σ H s->t σ H Q->wpAny (model X.prog X.w) X.A (spliced (backTo pos (starEach es X.env))) (AP X bO σ Q) X.xe s
def PS(X:Cx)(st:Stmt)(t:TS):Prop:=
 ∀(bO:List (bQ×Obj)) (s:bR) (σ:St) (H:Hp) (D:Ends),Inv X bO σ H s->t D σ H->wpAny (model X.prog X.w) X.A (exec st X.env) (SP X bO D) X.xe s
def PSs(X:Cx)(st:List Stmt)(t:TS):Prop:=
 ∀(bO:List (bQ×Obj)) (s:bR) (σ:St) (H:Hp) (D:Ends),Inv X bO σ H s->t D σ H->wpAny (model X.prog X.w) X.A (execs st X.env) (SP X bO D) X.xe s
variable{s:bR}
theorem thn{α:Type}{t:Sem α}{Q Q':α->bR->Prop}{M:Model}{A:Around}(h:wpAny M A t Q E s)(hQ:∀a s,Q a s->Q' a s):wpAny M A t Q' E s:=ur6 h hQ λ_ _ x=>x
variable{bO:List (bQ×Obj)}{σ:St}{c:Expr}
section
variable{X:Cx}
def XW(i:Nat):TE:=λσ H Q=>∃v,σ[i]?=some (some v)/\Q v H
def tC(v:V):TE:=λ_ H Q=>Q v H
theorem Fl{pos:Pos}(hN:X.N[i]?=some x)(hv:Vis X.env.scope x)(hd:autoParam ((x==("__debug__":Str))=false) q1T)(hcd:autoParam ((x==("__classdict__":Str))=false) q1T):PE X (.Name x pos) (XW i):=by
 intro bO s σ H Q I h;clear 5 h v e h;clear 5 I.loc m hn hl;clear 5(hl i x v hN e hv)u r l;have fin:EP X bO σ Q u s:=⟨v,H,I,r,h⟩;rcases l with⟨hk,hm⟩|⟨hk,c,hc,hcell⟩
 .exact wpAny_Name (wpAny_loadName_local I.ok.kind hk hn hm fin) hd
 .rcases hk with hk|hk
  .exact wpAny_Name (wpAny_loadName_cell I.ok.kind hk hc hcell fin) hd
  .exact wpAny_Name (wpAny_loadName_free I.ok.kind hk hc hcell fin hcd) hd
theorem Xf{i j pos}:PE X (.Constant (.int i) j pos) (tC (.int i)):=λ_ _ _ H _ I h=>wpAny_Constant_int ⟨.int i,H,I.tok _,⟨_,rfl⟩,h⟩
theorem Yy{b j pos}:PE X (.Constant (.bool b) j pos) (tC (.bl b)):=λ_ _ _ H _ I h=>Constant_bool ⟨.bl b,H,I,rfl,h⟩
theorem Xh{j pos}:PE X (.Constant .none j pos) (tC .non):=λ_ _ _ H _ I h=>Constant_none ⟨.non,H,I,rfl,h⟩
theorem Pj{x j pos}:PE X (.Constant (.str x) j pos) (tC (.str x)):=λ_ _ _ H _ I h=>Calls.Constant_str ⟨.str x,H,I.tok _,⟨_,rfl⟩,h⟩
def Gl(X:Cx)(x:Str):Prop:=X.env.kindOf x=some .globalImplicit
theorem Um{pos:Pos}{Q:bP->bR->Prop}(I:Inv X bO σ H s)(hg:Gl X x)(hm:X.mg x=some u)(h:Q u s)
 (hd:autoParam ((x==("__debug__":Str))=false) q1T):wpAny (model X.prog X.w) X.A (eval (.Name x pos) X.env) Q E s:=
 bV I.ok.kind hg (Calls.loadGlobal_global (by rw[I.ok.glob];exact I.mod.glob.keeps I.bk) hm h) hd
theorem Gx{pos:Pos}{Q:bP->bR->Prop}(I:Inv X bO σ H s)(hg:Gl X x)(hm:X.mg x=none)(hv:bootBuiltins x=some u)(h:Q u s)
 (hn:autoParam (x≠"__name__") q1T) (hd:autoParam ((x==("__debug__":Str))=false) q1T):wpAny (model X.prog X.w) X.A (eval (.Name x pos) X.env) Q E s:=by
 clear 5 I.mod.blt mb h1 h2;exact bV I.ok.kind hg (Calls.loadGlobal_builtin (by rw[I.ok.glob];exact I.mod.glob.keeps I.bk) hm (by rw[I.ok.blt];exact h1.keeps I.bk) ((h2 x hn).trans hv) h) hd
theorem UL{v:V}{pos:Pos}(hg:Gl X x)(hm:X.mg x=none)(hv:bootBuiltins x=some u)(r:RelV v u)(hn:autoParam (x≠"__name__") q1T)(hd:autoParam ((x==("__debug__":Str))=false) q1T):PE X (.Name x pos) (tC v):=
 λ_ _ _ H _ I h=>Gx I hg hm hv ⟨v,H,I,r,h⟩ hn hd
variable{a b:Expr}{ta tb:TE}{pos:Pos}
def tB(t:TE):TT:=λσ H Q=>t σ H λx H1=>∃c,x=.bl c/\Q c H1
theorem Xo{t:TE}(h:PE X e t)(he:autoParam (∀whole,isTrue e X.env whole=(do let v <-whole;standAt e.pos;holding [v] (truthy v))) q2T):PT X e (tB t):=by
 intro bO s σ H Q I hw;refine isTrue_plain (thn (h bO s σ H _ I hw) λv s1 z9=>?_) (he _);clear 5 z9 x H1 I1 r1 q1;clear 5 q1 d rfl q
 cases r1
 exact cT ⟨H1,I1,q⟩
variable{tA tB':TT}{rest:List Expr}
def ZO(t u:TT):TT:=λσ H Q=>t σ H λc H1=>if c=true then u σ H1 Q else Q false H1
def tOr(t u:TT):TT:=λσ H Q=>t σ H λc H1=>if c=true then Q true H1 else u σ H1 Q
def ZU(t:TT):TT:=λσ H Q=>t σ H λc H1=>Q (!c) H1
theorem U2(ha:PT X a tA):PW X (.BoolOp .And [a] pos) tA:=by
 intro wh bO s σ H Q I h;refine isTrue_and (thn (ha bO s σ H Q I h) λc s1 e=>?_)
 cases c with
 |true=>exact isTrue_and_nil e
 |false=>exact e
theorem Xq(ha:PT X a tA):PW X (.BoolOp .Or [a] pos) tA:=by
 intro wh bO s σ H Q I h;refine isTrue_or (thn (ha bO s σ H Q I h) λc s1 e=>?_)
 cases c with
 |false=>exact isTrue_or_nil e
 |true=>exact e
theorem Xp(ha:PT X a tA)(hb:PW X (.BoolOp .And (b::rest) pos) tB'):PW X (.BoolOp .And (a::b::rest) pos) (ZO tA tB'):=by
 intro wh bO s σ H Q I h;refine isTrue_and (thn (ha bO s σ H _ I h) λc s1 z9=>?_);clear 5 z9 H1 I1 q1
 cases c with
 |true=>exact hb wh bO s1 σ H1 Q I1 q1
 |false=>exact⟨H1,I1,q1⟩
theorem YE(ha:PT X a tA)(hb:PW X (.BoolOp .Or (b::rest) pos) tB'):PW X (.BoolOp .Or (a::b::rest) pos) (tOr tA tB'):=by
 intro wh bO s σ H Q I h;refine isTrue_or (thn (ha bO s σ H _ I h) λc s1 z9=>?_);clear 5 z9 H1 I1 q1
 cases c with
 |true=>exact⟨H1,I1,q1⟩
 |false=>exact hb wh bO s1 σ H1 Q I1 q1
theorem Xn(ha:PT X a tA):PT X (.UnaryOp .Not a pos) (ZU tA):=by
 intro bO s σ H Q I h;refine isTrue_not (thn (ha bO s σ H (λc H1=>Q (!c) H1) I h) λc s1 z=>?_);clear 5 z H1 I1 q1;exact⟨H1,I1,q1⟩
def YI(ta tb:TE):TE:=λσ H Q=>ta σ H λx H1=>∃c,x=.bl c/\if c=true then tb σ H1 Q else Q (.bl false) H1
def ZV(ta tb:TE):TE:=λσ H Q=>ta σ H λx H1=>∃c,x=.bl c/\if c=true then Q (.bl true) H1 else tb σ H1 Q
theorem Xi{op}{t:TE}(h:PE X a t):PE X (.BoolOp op [a] pos) t:=λbO s σ H Q I hw=>BoolOp_one (h bO s σ H Q I hw)
theorem Xd(ha:PE X a ta)(hb:PE X (.BoolOp .And (b::rest) pos) tb):PE X (.BoolOp .And (a::b::rest) pos) (YI ta tb):=by
 intro bO s σ H Q I h;refine BoolOp_and (thn (ha bO s σ H _ I h) λv s1 z9=>?_);clear 5 z9 x H1 I1 r1 q1;clear 5 q1 c rfl q1
 cases r1
 refine cT ?_
 cases c with
 |true=>exact hb bO s1 σ H1 Q I1 q1
 |false=>exact⟨.bl false,H1,I1,rfl,q1⟩
theorem YA(ha:PE X a ta)(hb:PE X (.BoolOp .Or (b::rest) pos) tb):PE X (.BoolOp .Or (a::b::rest) pos) (ZV ta tb):=by
 intro bO s σ H Q I h;refine BoolOp_or (thn (ha bO s σ H _ I h) λv s1 z9=>?_);clear 5 z9 x H1 I1 r1 q1;clear 5 q1 c rfl q1
 cases r1
 refine cT ?_
 cases c with
 |false=>exact hb bO s1 σ H1 Q I1 q1
 |true=>exact⟨.bl true,H1,I1,rfl,q1⟩
def tIf(t:TT)(ta tb:TE):TE:=λσ H Q=>t σ H λc H1=>if c=true then ta σ H1 Q else tb σ H1 Q
theorem Re(hc:PT X c tA)(ha:PE X a ta)(hb:PE X b tb):PE X (.IfExp c a b pos) (tIf tA ta tb):=by
 intro bO s σ H Q I h;refine wpAny_IfExp (thn (hc bO s σ H _ I h) λd s1 z9=>?_);clear 5 z9 H1 I1 q1
 cases d with
 |true=>exact ha bO s1 σ H1 Q I1 q1
 |false=>exact hb bO s1 σ H1 Q I1 q1
end
noncomputable def SqL(K:bN)(H:Hp)(a:bQ)(xs:List V):Prop:=
 Rd H a (.lst xs)\/
  ∃(o:Obj) (its:Array bP) (n:Nat),K.lookup a=some o/\o.cls=.type "list"/\o.dict=none/\o.data=.seq its n/\its.size<=sizeLine/\Vals xs its.toList
noncomputable def SqT(K:bN)(H:Hp)(a:bQ)(xs:List V):Prop:=
 Rd H a (.tup xs)\/
  ∃(o:Obj) (its:Array bP) (n:Nat),K.lookup a=some o/\o.cls=.type "tuple"/\o.data=.seq its n/\its.size<=sizeLine/\Vals xs its.toList
noncomputable def Zv:bP->Option V
 |.none=>some .non
 |.bool b=>some (.bl b)
 |.int i _=>some (.int i)
 |.str x _=>some (.str x)
 |.bytes b _=>some (.byt b)
 |.float b _=>some (.flt b)
 |.ref a=>some (.ref a)
 |.type n=>some (.ty n)
 |_=>none
theorem RelV.abs{x:V}(r:RelV x u):Zv u=some x:=by
 cases x with
 |non=>cases r;rfl
 |bl _=>cases r;rfl
 |int _=>clear 5 r t rfl;rfl
 |str _=>clear 5 r t rfl;rfl
 |byt _=>clear 5 r t rfl;rfl
 |flt _=>clear 5 r t rfl;rfl
 |ref _=>cases r;rfl
 |ty _=>cases r;rfl
theorem RelV.inj{x y:V}{u:bP}(r:RelV x u)(q:RelV y u):x=y:=ul9 (r.abs.symm.trans q.abs)
theorem Vals.inj{xs ys:List V}{us:List bP}(a:Vals xs us)(b:Vals ys us):xs=ys:=by
 cases a with
 |nil=>
   cases b
   rfl
 |cons r t=>
   cases b with
   |cons r' t'=>rw[r.inj r',Vals.inj t t']
variable{K:bN}
section
variable{X:Cx}{bO:List (bQ×Obj)}{σ:St}{H:Hp}{s:bR}{a:bQ}{xs ys:List V}
theorem SqL.of(h:H a=some (.lst xs)):SqL K H a xs:=.inl (.inl h)
theorem SqT.of(h:H a=some (.tup xs)):SqT K H a xs:=.inl (.inl h)
theorem Inv.list(I:Inv X bO σ H s)(h:SqL X.K H a xs):∃its:List bP,Vals xs its/\PlainL s.heap a its.toArray/\xs.length<=sizeLine:=by
 rcases h with h|⟨o,its,n,hk,hc,hd,hs,hz,r⟩
 .clear 5(h.ok I.hok)z its n r e;exact⟨its,r,⟨_,n,e,rfl,rfl,rfl⟩,z⟩
 .refine⟨its.toList,r,⟨o,n,I.kIn a o hk,hc,hd,by simpa using hs⟩,?_⟩;have e:=r.length;simp only[uf7] at e;lia
theorem Inv.tuple(I:Inv X bO σ H s)(h:SqT X.K H a xs):∃its:List bP,Vals xs its/\IsTup s.heap a its.toArray/\xs.length<=sizeLine:=by
 rcases h with h|⟨o,its,n,hk,hc,hs,hz,r⟩
 .clear 5(h.ok I.hok)z its r p;exact⟨its,r,p,z⟩
 .refine⟨its.toList,r,⟨o,I.kIn a o hk,hc,n,by simpa using hs⟩,?_⟩;have e:=r.length;simp only[uf7] at e;lia
theorem Inv.list_inj(I:Inv X bO σ H s)(h:SqL X.K H a xs)(h':SqL X.K H a ys):xs=ys:=by
 obtain⟨its,r,⟨o,n,e,_,_,d⟩,_⟩:=I.list h;obtain⟨its',r',⟨o',n',e',_,_,d'⟩,_⟩:=I.list h';rw[e] at e';cases e'
 rw[d] at d';injection d' with d1 _
 have:its=its':=by simpa using dQ Array.toList d1
 subst this;exact r.inj r'
theorem Inv.tuple_inj(I:Inv X bO σ H s)(h:SqT X.K H a xs)(h':SqT X.K H a ys):xs=ys:=by
 obtain⟨its,r,⟨o,e,_,n,d⟩,_⟩:=I.tuple h;obtain⟨its',r',⟨o',e',_,n',d'⟩,_⟩:=I.tuple h';rw[e] at e';cases e'
 rw[d] at d';injection d' with d1 _
 have:its=its':=by simpa using dQ Array.toList d1
 subst this;exact r.inj r'
end
abbrev Cx.wish(X:Cx)(E:bP->bR->Prop):Cx:={X with xe:=E}
abbrev Cx.nox(X:Cx):Cx:=X.wish λ_ _=>False
theorem Cx.Ok.wish{X:Cx}(ok:X.Ok)(E:bP->bR->Prop):(X.wish E).Ok:=
 ⟨ok.mod,ok.kind,ok.glob,ok.blt,ok.above,ok.inj,ok.has,ok.cab,ok.hd,ok.frames,ok.stk,ok.exf,ok.bs,ok.bsz,ok.noex,ok.exfs,ok.funs,ok.frf⟩
theorem Cx.Ok.unwish(ok:(X.wish E).Ok):X.Ok:=
 ⟨ok.mod,ok.kind,ok.glob,ok.blt,ok.above,ok.inj,ok.has,ok.cab,ok.hd,ok.frames,ok.stk,ok.exf,ok.bs,ok.bsz,ok.noex,ok.exfs,ok.funs,ok.frf⟩
section
variable{X:Cx}{bO:List (bQ×Obj)}{σ:St}{H:Hp}{s:bR}{E:bP->bR->Prop}
theorem Inv.wish(I:Inv X bO σ H s)(E:bP->bR->Prop):Inv (X.wish E) bO σ H s:=⟨I.ok.wish E,I.os,I.bare,I.base,I.loc,I.cell,I.free,I.freeC,I.pin,I.hok,I.len⟩
theorem Inv.unwish(I:Inv (X.wish E) bO σ H s):Inv X bO σ H s:=⟨I.ok.unwish,I.os,I.bare,I.base,I.loc,I.cell,I.free,I.freeC,I.pin,I.hok,I.len⟩
theorem SP.unwish{D:Ends}{f:Flow}{s':bR}(h:SP (X.wish E) bO D f s'):SP X bO D f s':=by
 cases f with
 |next=>clear 5 h σ' H' I q;exact⟨σ',H',I.unwish,q⟩
 |brk=>clear 5 h σ' H' I q;exact⟨σ',H',I.unwish,q⟩
 |cont=>clear 5 h σ' H' I q;exact⟨σ',H',I.unwish,q⟩
 |ret u=>clear 5 h v σ' H' I r q;exact⟨v,σ',H',I.unwish,r,q⟩
theorem PSs.nox{st:List Stmt}{t:TS}(h:PSs X.nox st t):PSs X st t:=λbO s σ H D I hw=>
 ur6 (h bO s σ H D (I.wish _) hw) (λ_ _ q=>q.unwish) λ_ _ z=>False.elim z
end
section
variable{X:Cx}{st:Stmt}{rest:List Stmt}{t u:TS}{e:Expr}{te:TE}{pos:Pos}
def YM:TS:=λD σ H=>D.nx σ H
def ZX(t u:TS):TS:=λD σ H=>t {D with nx:=u D} σ H
theorem UX:PSs X [] YM:=λ_ _ σ H _ I h=>da ⟨σ,H,I,h⟩
theorem Rk(h1:PS X st t)(h2:PSs X rest u):PSs X (st::rest) (ZX t u):=by
 intro bO s σ H D I h;refine wpAny_execs_cons (thn (h1 bO s σ H {D with nx:=u D} I h) λf s1 q=>?_)
 cases f with
 |next=>
   clear 5 q σ' H' I' q;exact h2 bO s1 σ' H' D I' q
 |ret v=>exact q
 |brk=>exact q
 |cont=>exact q
theorem UY(h1:PS X st t):PSs X [st] t:=by
 intro bO s σ H D I h;refine wpAny_execs_cons (thn (h1 bO s σ H D I h) λf s1 q=>?_)
 cases f with
 |next=>exact da q
 |ret v=>exact q
 |brk=>exact q
 |cont=>exact q
theorem Inv.quiet(I:Inv X bO σ H s):interactive X.env=false:=by simp[interactive,I.ok.kind]
def Ti(te:TE):TS:=λD σ H=>te σ H λ_ H1=>D.nx σ H1
theorem Jk(he:PE X e te)(hs:autoParam (swapsWith e none pos.line X.env=pure false) q3T):PS X (.Expr e pos) (Ti te):=by
 intro bO s σ H D I h;exact wpAny_Expr_any (thn (he bO s σ H _ I h) λv s1 z9=>by clear 5 z9 x H1 I1 r1 q1;exact⟨σ,H1,I1,q1⟩) I.quiet hs
def ZW(te:TE):TS:=λD σ H=>te σ H D.rt
theorem Po(he:PE X e te):PS X (.Return (some e) pos) (ZW te):=by
 intro bO s σ H D I h;exact wpAny_Return_some (thn (he bO s σ H _ I h) λv s1 z9=>by clear 5 z9 x H1 I1 r1 q1;exact⟨x,σ,H1,I1,r1,q1⟩)
def ZQ(c:TT)(t u:TS):TS:=λD σ H=>c σ H λb H1=>if b=true then t D σ H1 else u D σ H1
theorem YD{a b:List Stmt}{tc:TT}(hc:PT X c tc)(ha:PSs X a t)(hb:PSs X b u):PS X (.If c a b pos) (ZQ tc t u):=by
 intro bO s σ H D I h;refine wpAny_If (thn (hc bO s σ H _ I h) λd s1 z9=>?_);clear 5 z9 H1 I1 q1
 cases d with
 |true=>exact ha bO s1 σ H1 D I1 q1
 |false=>exact hb bO s1 σ H1 D I1 q1
end
abbrev TG:=V->St->Hp->(St->Hp->Prop)->Prop
abbrev TGs:=List V->St->Hp->(St->Hp->Prop)->Prop
def PG(X:Cx)(target:Expr)(t:TG):Prop:=
 ∀(bO:List (bQ×Obj)) (s:bR) (σ:St) (H:Hp) (v:V) (u:bP) (Q:St->Hp->Prop),Inv X bO σ H s->RelV v u->t v σ H Q->
  wpAny (model X.prog X.w) X.A (assign target X.env u) (λ_ s'=>∃σ' H',Inv X bO σ' H' s'/\Q σ' H') X.xe s
def PGs(X:Cx)(ts:List Expr)(t:TGs):Prop:=
 ∀(bO:List (bQ×Obj)) (s:bR) (σ:St) (H:Hp) (vs:List V) (us:List bP) (Q:St->Hp->Prop),Inv X bO σ H s->Vals vs us->t vs σ H Q->
  wpAny (model X.prog X.w) X.A (assignInOrder ((assignEach ts X.env).map (·.2)) us) (λ_ s'=>∃σ' H',Inv X bO σ' H' s'/\Q σ' H') X.xe s
abbrev Qb:=V->V->V->Hp->(Hp->Prop)->Prop
def M3(X:Cx)(t:Qb):Prop:=
 ∀(bO:List (bQ×Obj)) (s:bR) (σ:St) (H:Hp) (o i v:V) (ov iv u:bP) (Q:Hp->Prop),Inv X bO σ H s->RelV o ov->RelV i iv->RelV v u->t o i v H Q->
  wpAny (model X.prog X.w) X.A (setItem ov iv u) (λ_ s'=>∃H',Inv X bO σ H' s'/\Q H') X.xe s
variable{tg:Expr}
section
variable{X:Cx}{pos:Pos}
def Im(i:Nat):TG:=λv σ H Q=>Q (σ.set i (some v)) H
theorem UO(hN:X.N.Nodup)(hi:X.N[i]?=some x)(hx:Loc X.env.scope x)(hf:autoParam (X.fn x=true\/X.env.scope.names.lookup x=some .local) q0T):PG X (.Name x pos) (Im i):=by
 intro bO s σ H v u Q I r h;exact wpAny_assign_Name (Lx I hN hi hx r (λs' I'=>⟨_,H,I',h⟩) hf)
def ZB:TGs:=λvs σ H Q=>vs=[]/\Q σ H
def SQ(t:TG)(u:TGs):TGs:=λvs σ H Q=>∃v r,vs=v::r/\t v σ H λσ' H'=>u r σ' H' Q
theorem UP:PGs X [] ZB:=by
 intro bO s σ H vs us Q I r h;clear 5 h e h;subst e
 cases r
 exact assignInOrder_nil ⟨σ,H,I,h⟩
theorem Rf{es:List Expr}{t:TG}{u:TGs}(h1:PG X e t)(h2:PGs X es u)
 (hs:autoParam ((assignEach (e::es) X.env).map (·.2)=assign e X.env::(assignEach es X.env).map (·.2)) q3T):PGs X (e::es) (SQ t u):=by
 intro bO s σ H vs us Q I r h;clear 5 h v vr e1 h;subst e1
 cases r with
 |cons r rr=>
   rw[hs];refine assignInOrder_cons (thn (h1 bO s σ H _ _ _ I r h) λ_ s1 z9=>?_);clear 5 z9 σ1 H1 I1 q1;exact h2 bO s1 σ1 H1 _ _ Q I1 rr q1
def ZD(K:bN)(n:Nat)(t:TGs):TG:=λv σ H Q=>∃a xs,v=.ref a/\SqT K H a xs/\xs.length=n/\t xs σ H Q
theorem Xk{es:List Expr}{k:Nat}{t:TGs}{n:Nat}(hc:X.calm=true)(h:PGs X es t)
 (hn:autoParam ((assignEach es X.env).length=n) q3T) (hst:autoParam ((assignEach es X.env).findIdx? (·.1)=none) q3T):PG X (.Tuple es k pos) (ZD X.K n t):=by
 intro bO s σ H v u Q I r hw;clear 5 hw a xs e1 hq hl hw;subst e1
 cases r
 clear 5(I.tuple hq)its rv ht hz;refine assign_Tuple_tuple (I.ok.hd hc) ht (by simp[hn,<-hl,rv.length]) hst λh' hx=>?_;have I1:Inv X bO σ H {s with heap:=h'}:=I.kept (t':=s.toks) λb o e=>hx b o (up5 (up4 e)) e;exact h bO _ σ H xs _ Q I1 (by simpa using rv) hw
def ZC(to ti:TE)(t:Qb):TG:=λv σ H Q=>to σ H λo H1=>ti σ H1 λi H2=>t o i v H2 λH3=>Q σ H3
theorem La{o i:Expr}{to ti:TE}{t:Qb}(ho:PE X o to)(hi:PE X i ti)(hs:M3 X t)
 (ha:∀v,assign (.Subscript o i pos) X.env v=(do
   let ov <-holding [v] (eval o X.env)
   let iv <-holding [v,ov] (eval i X.env)
   standAt pos
   holding [v,ov,iv] (setItem ov iv v)
   release [v,ov,iv] []):=by intro _;rfl):PG X (.Subscript o i pos) (ZC to ti t):=by
 intro bO s σ H v u Q I r h;rw[ha];refine ur4 (up3 (thn (ho bO s σ H _ I h) λov s1 z9=>?_));clear 5 z9 x H1 I1 r1 q1;refine ur4 (up3 (thn (hi bO s1 σ H1 _ I1 q1) λiv s2 z9=>?_));clear 5 z9 y H2 I2 r2 q2;refine ur4 (dr (ur4 (up3 (thn (hs bO s2 σ H2 x y v ov iv u _ I2 r1 r2 r q2) λ_ s3 z9=>?_))));clear 5 z9 H3 I3 q3;exact wpAny_release ⟨σ,H3,I3,q3⟩
def Ly(te:TE)(g:TG):TS:=λD σ H=>te σ H λx H1=>g x σ H1 D.nx
theorem Pn{te:TE}{g:TG}(he:PE X e te)(hg:PG X tg g)(hs:autoParam (swapsWithSole [tg] e pos.line X.env=pure false) q3T)(hw:autoParam (swappedStores [tg] e X.env=pure none) q3T)
 (h1:autoParam ((assignEach [tg] X.env).map (·.2)=[assign tg X.env]) q3T):PS X (.Assign [tg] e pos) (Ly te g):=by
 intro bO s σ H D I h;refine wpAny_Assign_stores (thn (he bO s σ H _ I h) λv s1 z9=>?_) hs hw;clear 5 z9 x H1 I1 r1 q1;rw[h1];exact thn (hg bO s1 σ H1 x v _ I1 r1 q1) λ_ s2 q=>q
theorem Pp{te:TE}{pos':Pos}(hN:X.N.Nodup)(hi:X.N[i]?=some x)(hx:Loc X.env.scope x)(he:PE X e te)(hs:autoParam (swapsWith e (some (.Name x pos')) pos.line X.env=pure false) q3T)(hf:autoParam (X.fn x=true\/X.env.scope.names.lookup x=some .local) q0T) :
 PS X (.Assign [.Name x pos'] e pos) (Ly te (Im i)):=by
 intro bO s σ H D I h;refine wpAny_Assign_Name (thn (he bO s σ H _ I h) λv s1 z9=>?_) hs;clear 5 z9 y H1 I1 r1 q1;exact Lx I1 hN hi hx r1 (λs2 I2=>⟨_,H1,I2,q1⟩) hf
end
section
variable{X:Cx}{pos:Pos}
def PQ(c:TT)(tb:TS):TS:=λD σ H=>∃W:Nat->St->Hp->Prop,(∃m,W m σ H)/\∀m σ H,W m σ H->
 c σ H λb H1=>if b=true then ∃N:St->Hp->Prop,(∀σ' H',N σ' H'->∃m',m'<m/\W m' σ' H')/\tb {D with nx:=N,ct:=N,bk:=D.nx} σ H1 else D.nx σ H1
theorem Rj{body:List Stmt}{tc:TT}{tb:TS}(hp:PassesOwn (model X.prog X.w) X.A X.env X.xe)(hc:PT X c tc)(hb:PSs X body tb):PS X (.While c body [] pos) (PQ tc tb):=by
 intro bO s σ H D I h;obtain⟨W,⟨m0,w0⟩,turn⟩:=h;refine wpAny_While (codeAny_whileLoop (λn s'=>∃σ' H',Inv X bO σ' H' s'/\W n σ' H') ?_ m0 ⟨σ,H,I,w0⟩);rintro n s1 ⟨σ1,H1,I1,w1⟩;refine db hp (thn (hc bO s1 σ1 H1 _ I1 (turn n σ1 H1 w1)) λb s2 z9=>?_);clear 5 z9 H2 I2 q2
 cases b with
 |true=>
   clear 5 q2 N hN q2;rw[eB rfl];refine db hp (thn (hb bO s2 σ1 H2 _ I2 q2) λf s3 q3=>?_)
   cases f with
   |next=>
     clear 5 q3 σ3 H3 I3 n3;clear 5(hN σ3 H3 n3)m' hm w3;exact⟨m',hm,σ3,H3,I3,w3⟩
   |cont=>
     clear 5 q3 σ3 H3 I3 n3;clear 5(hN σ3 H3 n3)m' hm w3;exact⟨m',hm,σ3,H3,I3,w3⟩
   |brk=>exact q3
   |ret v=>exact q3
 |false=>
   rw[eC ug6];exact da ⟨σ1,H2,I2,q2⟩
end
structure It where
 go:Nat->Hp->Prop
 yld:Nat->Hp->V->Hp->Prop
 stop:Nat->Hp->Prop
def FpOk(X:Cx)(bO:List (bQ×Obj))(H:Hp)(b:bQ):Prop:=
 H b=none/\b≠X.env.locals/\b∉X.fs/\(b∈X.ex\/X.s₀.heap.objs.size<=b)/\(∀x c,X.env.cells.lookup x=some c->c≠b)/\∀p∈X.pn++bO,p.1≠b
theorem Inv.fpOk{H':Hp}(I:Inv X bO σ H s)(hb:s.heap.objs.size<=b)(hn:H' b=none):FpOk X bO H' b:=by
 refine⟨hn,up8 (ug4 I.lt hb),I.nofs hb,.inr (up6 I.sz hb),λx c e z=>?_,λp hp z=>?_⟩
 .clear 5(I.cell x c e)v q;exact absurd (ug4 q.lt (by rw[z];exact hb)) (uo4 _)
 .exact absurd (ug4 (up4 (I.pin p hp).1) (by rw[z];exact hb)) (uo4 _)
structure Turn(P:bS)(w:bT)(K:bN)(tg:Expr)(J:It)(fp:List bQ)(it:bQ)(tn:Nat->Heap->Prop):Prop where
 mem:it∈fp
 obj:∀i h,tn i h->∀b∈fp,∃o,h.get? b=some o/\∀v,o.data≠.cell v
 keep:∀i h h',tn i h->(∀b∈fp,∀o,h.get? b=some o->h'.get? b=some o)->tn i h'
 item:∀(X:Cx),X.prog=P->X.w=w->X.K=K->X.calm=true->∀(i:Nat) (bO:List (bQ×Obj)) (s:bR) (σ:St) (H:Hp) (E:bP->bR->Prop),Inv X bO σ H s->(∀b∈fp,FpOk X bO H b)->tn i s.heap->J.go i H->
  wpAny (model P w) X.A (pyNext (.ref it)) (λr s1=>∃u,r=some u/\
   wpAny (model P w) X.A (letOwnedTupleGo tg (.ref it) u) (λ_ s2=>∃x H',Inv X bO σ H' s2/\RelV x u/\J.yld i H x H'/\tn (i+1) s2.heap/\∀b∈fp,H' b=none) E s1) E s
 done:∀(X:Cx),X.prog=P->X.w=w->X.K=K->X.calm=true->∀(i:Nat) (bO:List (bQ×Obj)) (s:bR) (σ:St) (H:Hp) (E:bP->bR->Prop),Inv X bO σ H s->(∀b∈fp,FpOk X bO H b)->tn i s.heap->J.stop i H->
  wpAny (model P w) X.A (pyNext (.ref it)) (λr s1=>r=none/\Inv X bO σ H s1) E s
 self:∀(A:Around) (i:Nat) (s:bR) (Q:bP->bR->Prop) (E:bP->bR->Prop),tn i s.heap->Q (.ref it) s->wpAny (model P w) A (pyIter (.ref it)) Q E s
abbrev TI:=St->Hp->(It->Hp->Prop)->Prop
def PIE(X:Cx)(bO:List (bQ×Obj))(σ:St)(tg:Expr)(R:It->Hp->Prop)(itv:bP)(s2:bR):Prop:=
 ∃(it:bQ) (fp:List bQ) (tn:Nat->Heap->Prop) (J:It) (H':Hp),itv=.ref it/\Inv X bO σ H' s2/\Turn X.prog X.w X.K tg J fp it tn/\tn 0 s2.heap/\(∀b∈fp,FpOk X bO H' b)/\R J H'
def PI(X:Cx)(tg iter:Expr)(wi:TI):Prop:=
 ∀(bO:List (bQ×Obj)) (s:bR) (σ:St) (H:Hp) (R:It->Hp->Prop),Inv X bO σ H s->wi σ H R->
  wpAny (model X.prog X.w) X.A (eval iter X.env) (λv s1=>wpAny (model X.prog X.w) X.A (pyIter v) (PIE X bO σ tg R) X.xe s1) X.xe s
theorem J8{M:Model}{A:Around}{it:bQ}{o:Obj}{n:String}{vs:Array bP}(ho:s.heap.get? it=some o)(hc:o.cls=.type n)(hd:o.data=.fields vs)
 (hn:["enumerate", "zip", "dict_itemiterator", "dict_reverseitemiterator", "odict_iterator", "itertools.zip_longest", "itertools.pairwise"].contains n=false) (hQ:Q () s):wpAny M A (letOwnedTupleGo tg (.ref it) u) Q E s:=by
 unfold letOwnedTupleGo
 cases tg<;>first
  |exact ur5 hQ
  | (cases u <;> first
      |exact ur5 hQ
      | (refine ur4 (wpAny_load ho ?_)
         rw[hc,hd];show wpAny M A (if (["enumerate", "zip", "dict_itemiterator", "dict_reverseitemiterator", "odict_iterator", "itertools.zip_longest", "itertools.pairwise"].contains n&&vs[0]?==some (rawInt _))=true then _ else _) Q E s;rw[eC (by intro h;rw[hn,Bool.false_and] at h;cases h)]
         exact ur5 hQ))
def Itl(K:bN)(a:bQ):It:=
 ⟨λi H=>∃xs x,SqL K H a xs/\xs[i]?=some x,λi H x H'=>H'=H/\∀xs,SqL K H a xs->xs[i]?=some x,λi H=>∃xs,SqL K H a xs/\xs.length<=i⟩
def Itt(K:bN)(a:bQ):It:=
 ⟨λi H=>∃xs x,SqT K H a xs/\xs[i]?=some x,λi H x H'=>H'=H/\∀xs,SqT K H a xs->xs[i]?=some x,λi H=>∃xs,SqT K H a xs/\xs.length<=i⟩
noncomputable def Itr(lo:Int)(n:Nat):It:=⟨λi _=>i<n,λi H x H'=>H'=H/\x=.int (lo+i),λi _=>n<=i⟩
theorem P0(a it:bQ):Turn P w K tg (Itl K a) [it] it (λi h=>h.IsListIter it a i) where
 mem:=by simp
 obj:=λi h st b hb=>by
  have e:b=it:=by simpa using hb
  subst e;clear 5 st o e c d;exact⟨o,e,λv z=>by rw[d] at z;cases z⟩
 keep:=λi h h' st k=>st.at λo e=>k it (by simp) o e
 item:=by
  intro X hP hw hK hc i bO s σ H E I hf st hg;subst hP hw hK;clear 5 hg xs x hq hx;clear 5(I.list hq)its rv p hz;clear 5(rv.get hx)u hu ru;clear 5(hf it (by simp))f0 f1 f2 f3 f4 f5;refine wpAny_pyNext_list_item st p.isList (x:=u) (by simpa using hu) λh' st' sb=>?_;have I1:Inv X bO σ H {s with heap:=h'}:=I.turned (t':=s.toks) (λb o hb e=>(sb.2 b hb).trans e) f0 f1 f3 f4 f5;clear 5(id st')o e c d;exact⟨u,rfl,J8 (s:={s with heap:=h'}) e c d (by decide) ⟨x,H,I1,ru,⟨rfl,λys hy=>by rw[I.list_inj hy hq];exact hx⟩,st',λb hb=>(hf b hb).1⟩⟩
 done:=by
  intro X hP hw hK hc i bO s σ H E I hf st hg;subst hP hw hK;clear 5 hg xs hq hx;clear 5(I.list hq)its rv p hz;clear 5(hf it (by simp))f0 f1 f2 f3 f4 f5;have hl:=rv.length;exact wpAny_pyNext_list_end (I.ok.hd hc) st p.isList (by simp;lia) λh' eb=>⟨rfl,I.turned (t':=s.toks) (λb o hb e=>eb b o hb e) f0 f1 f3 f4 f5⟩
 self:=λ_ _ _ _ _ st h=>wpAny_pyIter_listiter st h
theorem NS(a it:bQ):Turn P w K tg (Itt K a) [it] it (λi h=>h.IsTupleIter it a i) where
 mem:=by simp
 obj:=λi h st b hb=>by
  have e:b=it:=by simpa using hb
  subst e;clear 5 st o e c d;exact⟨o,e,λv z=>by rw[d] at z;cases z⟩
 keep:=λi h h' st k=>st.at λo e=>k it (by simp) o e
 item:=by
  intro X hP hw hK hc i bO s σ H E I hf st hg;subst hP hw hK;clear 5 hg xs x hq hx;clear 5(I.tuple hq)its rv p hz;clear 5(rv.get hx)u hu ru;clear 5(hf it (by simp))f0 f1 f2 f3 f4 f5;refine wpAny_pyNext_tuple_item st (show s.heap.IsTuple a its.toArray from p) (x:=u) (by simpa using hu) λh' st' sb=>?_;have I1:Inv X bO σ H {s with heap:=h'}:=I.turned (t':=s.toks) (λb o hb e=>(sb.2 b hb).trans e) f0 f1 f3 f4 f5;clear 5(id st')o e c d;exact⟨u,rfl,J8 (s:={s with heap:=h'}) e c d (by decide) ⟨x,H,I1,ru,⟨rfl,λys hy=>by rw[I.tuple_inj hy hq];exact hx⟩,st',λb hb=>(hf b hb).1⟩⟩
 done:=by
  intro X hP hw hK hc i bO s σ H E I hf st hg;subst hP hw hK;clear 5 hg xs hq hx;clear 5(I.tuple hq)its rv p hz;clear 5(hf it (by simp))f0 f1 f2 f3 f4 f5;have hl:=rv.length;exact wpAny_pyNext_tuple_end (I.ok.hd hc) st (show s.heap.IsTuple a its.toArray from p) (by simp;lia) λh' eb=>⟨rfl,I.turned (t':=s.toks) (λb o hb e=>eb b o hb e) f0 f1 f3 f4 f5⟩
 self:=λ_ _ _ _ _ st h=>wpAny_pyIter_tupleiter st h
theorem NQ(it:bQ)(lo:Int)(n:Nat):Turn P w K tg (Itr lo n) [it] it (λi h=>IsRangeIter h it (lo+(i:Nat)*1) ((n:Int)-(i:Nat)) 1) where
 mem:=by simp
 obj:=λi h st b hb=>by
  have e:b=it:=by simpa using hb
  subst e;exact⟨_,st,λv z=>by
   have z':Data.fields _=Data.cell v:=z
   cases z'⟩
 keep:=λi h h' st k=>k it (by simp) _ st
 item:=by
  intro X hP hw hK hc i bO s σ H E I hf st hg;subst hP hw hK;clear 5(hf it (by simp))f0 f1 f2 f3 f4 f5;have W:=Walks.range (prog:=X.prog) (w:=X.w) (I.ok.hd hc) it lo 1 n;refine W.item i s _ _ hg st λv h' tk hv st' kk=>?_;clear 5 hv t rfl;have I1:Inv X bO σ H {s with heap:=h',toks:=tk}:=I.turned (λb o hb e=>kk b o (by simpa using hb) e) f0 f1 f3 f4 f5;refine⟨_,rfl,J8 (s:={s with heap:=h',toks:=tk}) (n:="range_iterator") st' rfl rfl (by decide) ⟨.int (lo+i),H,I1,⟨t,?_⟩,⟨rfl,rfl⟩,st',λb hb=>(hf b hb).1⟩⟩;rw[Int.mul_one]
 done:=by
  intro X hP hw hK hc i bO s σ H E I hf st hg;subst hP hw hK;clear 5(hf it (by simp))f0 f1 f2 f3 f4 f5;exact wpAny_pyNext_range_end (I.ok.hd hc) st (by have:n<=i:=hg;lia) λh' eb=>⟨rfl,I.turned (t':=s.toks) (λb o hb e=>eb b o hb e) f0 f1 f3 f4 f5⟩
 self:=λ_ _ _ _ _ st h=>wpAny_pyIter_rangeiter st h
variable{fp:List bQ}
section
variable{X:Cx}{tg:Expr}
theorem Rr{R:It->Hp->Prop}{lo hi:Int}{t u v:Tok}{tk:Nat}(I:Inv X bO σ H s)(h1 : -(2 ^ 62)<=lo)(h2:lo<2 ^ 62)(h3 : -(2 ^ 62)<=hi)(h4:hi<2 ^ 62)
 (q:R (Itr lo (hi-lo).toNat) H):wpAny (model X.prog X.w) X.A (pyIter (.ref s.heap.objs.size)) (PIE X bO σ tg R) E {s with heap:=s.heap.push {cls:=.type "range",data:=.fields #[.int lo t,.int hi u,.int 1 v]},toks:=tk}:=by
 refine wpAny_pyIter_range (IsRange.new ..) (small_one h1 h2 h3 h4) ?_;have I1:Inv X bO σ H {s with heap:=s.heap.push {cls:=.type "range",data:=.fields #[.int lo t,.int hi u,.int 1 v]},toks:=tk}:=I.kept λb o e=>uc4 _ e;refine⟨(s.heap.push {cls:=.type "range",data:=.fields #[.int lo t,.int hi u,.int 1 v]}).objs.size,[(s.heap.push {cls:=.type "range",data:=.fields #[.int lo t,.int hi u,.int 1 v]}).objs.size],_,_,H,rfl,
  I1.kept (t':=tk) λb o e=>uc4 _ e,NQ _ lo (hi-lo).toNat,?_,λb hb=>?_,q⟩
 .have e1:lo+((0:Nat):Int)*1=lo:=by simp
  have e2:(((hi-lo).toNat:Nat):Int)-((0:Nat):Int)=Builtin.Range.rangeSize lo hi 1:=by rw[rangeSize_one];split<;>lia
  show IsRangeIter _ _ (lo+((0:Nat):Int)*1) ((((hi-lo).toNat:Nat):Int)-((0:Nat):Int)) 1;rw[e1,e2];exact uf8 _ rfl
 .have e:b=(s.heap.push {cls:=.type "range",data:=.fields #[.int lo t,.int hi u,.int 1 v]}).objs.size:=by simpa using hb
  subst e;exact I1.fpOk (uq9 _) (I1.hok.fresh (uq9 _))
def Yu(ta:TA):TI:=λσ H R=>ta σ H λvs H1=>∃j:Int,vs=[.int j]/\-(2 ^ 62)<=j/\j<2 ^ 62/\R (Itr 0 j.toNat) H1
theorem Pk{a:Expr}{ta:TA}{p pos:Pos}(hg:Gl X "range")(hm:X.mg "range" = none)(ha:PA X [a] ta)(hs:autoParam (starEach [a] X.env=[(false,eval a X.env)]) q3T):PI X tg (.Call (.Name "range" p) [a] [] pos) (Yu ta):=by
 intro bO s σ H R I h;refine Call_ (Gx I hg hm boot_range (ua3 (thn (ha pos bO s σ H _ I h) λus s1 z9=>?_) hs rfl));clear 5 z9 vs H1 I1 r1 q1;clear 5 q1 j e q1 q2 q;subst e
 cases r1 with
 |cons r rr=>
   cases rr
   clear 5 r t rfl;exact call_range_1 (Rr I1 ∅ ∅ q1 q2 (by simpa using q))
def NP(wi:TI)(g:TG)(tb:TS):TS:=λD σ H=>wi σ H λJ H1=>∃W:Nat->Nat->St->Hp->Prop,(∃m,W 0 m σ H1)/\∀i m σ H,W i m σ H->
 (J.stop i H/\D.nx σ H)\/(J.go i H/\∃N:St->Hp->Prop,(∀σ' H',N σ' H'->∃m',m'<m/\W (i+1) m' σ' H')/\∀x H',J.yld i H x H'->g x σ H' λσ2 H2=>tb {D with nx:=N,ct:=N,bk:=D.nx} σ2 H2)
noncomputable def GF(fp:List bQ)(h:Heap):List (bQ×Obj):=fp.filterMap λb=>(h.get? b).map λo=>(b,o)
theorem Ec{o:Obj}(hb:b∈fp)(e:h.get? b=some o):(b,o)∈GF fp h:=List.mem_filterMap.mpr ⟨b,hb,by rw[e];rfl⟩
theorem Pa{p:bQ×Obj}(hp:p∈GF fp h):p.1∈fp/\h.get? p.1=some p.2:=by
 clear 5(List.mem_filterMap.mp hp)b hb e
 cases q:h.get? b with
 |none=>rw[q] at e;cases e
 |some o=>
   rw[q] at e;have e':(b,o)=p:=ul9 e;subst e';exact⟨hb,q⟩
theorem Inv.pinned(I:Inv X bO σ H s)(hf:∀b∈fp,FpOk X bO H b)(ho:∀b∈fp,∃o,s.heap.get? b=some o/\∀v,o.data≠.cell v):Inv X (bO++GF fp s.heap) σ H s:=
 I.pins_of λp hp=>(um1.mp hp).elim (λz=>I.pin p (ud1 _ z)) λz=>by
  clear 5(Pa z)hb e;obtain⟨f0,f1,f2,_⟩:=hf p.1 hb;clear 5(ho p.1 hb)o e' d;rw[e] at e';cases e'
  exact⟨e,f0,f1,f2,d⟩
theorem Inv.unpinned{pl:List (bQ×Obj)}(I:Inv X (bO++pl) σ H s):Inv X bO σ H s:=I.pins_of λp hp=>I.pin p (ud1 _ (ue4 _ hp))
theorem Lg{iter:Expr}{body:List Stmt}{wi:TI}{g:TG}{tb:TS}{pos:Pos}(hp:PassesOwn (model X.prog X.w) X.A X.env X.xe)(hc:X.calm=true)(hi:PI X tg iter wi)(hg:PG X tg g)(hb:PSs X body tb)
 (hs:autoParam (∀x,foldedSetIterable iter X.env x=pure x) q2T):PS X (.For tg iter body [] pos) (NP wi g tb):=by
 intro bO s σ H D I h;refine wpAny_For (thn (hi bO s σ H _ I h) λv s1 h1=>thn h1 λitv s2 h2=>?_) hs;obtain⟨it,fp,tn,J,H2,e,I2,T,st2,f2,W,⟨m0,w0⟩,turn⟩:=h2;subst e
 -- what stays true of the iterator's objects through the loop
 have stat:∀{H':Hp},(∀b∈fp,H' b=none)->∀b∈fp,FpOk X bO H' b:=λhn b hb=>⟨hn b hb,(f2 b hb).2⟩;refine codeAny_forLoop_any (λn s'=>∃i σ' H',Inv X bO σ' H' s'/\tn i s'.heap/\(∀b∈fp,H' b=none)/\W i n σ' H') ?_ m0 ⟨0,σ,H2,I2,st2,λb hb=>(f2 b hb).1,w0⟩;rintro n s3 ⟨i,σ3,H3,I3,st3,fr3,w3⟩;rcases turn i n σ3 H3 w3 with⟨stop,qn⟩|⟨go,N,hN,step⟩
 .refine db hp (thn (T.done X rfl rfl rfl hc i bO s3 σ3 H3 X.xe I3 (stat fr3) st3 stop) λr s4 z9=>?_);clear 5 z9 hr I4;subst hr;exact da ⟨σ3,H3,I4,qn⟩
 .refine db hp (thn (T.item X rfl rfl rfl hc i bO s3 σ3 H3 X.xe I3 (stat fr3) st3 go) λr s4 z9=>?_);clear 5 z9 u hr h4;subst hr;refine db hp (thn h4 λ_ s5 z9=>?_);clear 5 z9 x H5 I5 r5 y5 st5 fr5;have I5':=I5.pinned (stat fr5) (T.obj _ _ st5);refine db hp (thn (hg _ s5 σ3 H5 x u _ I5' r5 (step x H5 y5)) λ_ s6 z9=>?_);clear 5 z9 σ6 H6 I6 q6;refine db hp (thn (hb _ s6 σ6 H6 _ I6 q6) λf s7 q7=>?_);have again:∀{σ7:St}{H7:Hp},Inv X (bO++GF fp s5.heap) σ7 H7 s7->N σ7 H7->∃m,m<n/\∃i σ' H',Inv X bO σ' H' s7/\tn i s7.heap/\(∀b∈fp,H' b=none)/\W i m σ' H':=λ{σ7 H7} I7 n7=>by
   clear 5(hN σ7 H7 n7)m' hm w7;refine⟨m',hm,i+1,σ7,H7,I7.unpinned,T.keep _ _ _ st5 λb hb o e=>(I7.pin (b,o) (ud1 _ (ud1 _ (Ec hb e)))).1,λb hb=>?_,w7⟩;clear 5(T.obj _ _ st5 b hb)o e d;exact(I7.pin (b,o) (ud1 _ (ud1 _ (Ec hb e)))).2.1
  cases f with
  |next=>clear 5 q7 σ7 H7 I7 n7;exact again I7 n7
  |cont=>clear 5 q7 σ7 H7 I7 n7;exact again I7 n7
  |brk=>clear 5 q7 σ7 H7 I7 q7;exact⟨σ7,H7,I7.unpinned,q7⟩
  |ret v=>clear 5 q7 x7 σ7 H7 I7 r7 q7;exact⟨x7,σ7,H7,I7.unpinned,r7,q7⟩
end
abbrev R2:=V->V->Hp->VK->Prop
def OpR(X:Cx)(f:bP->bP->Sem bP)(r:R2):Prop:=
 ∀(bO:List (bQ×Obj)) (s:bR) (σ:St) (H:Hp) (x y:V) (v u:bP) (Q:VK),Inv X bO σ H s->RelV x v->RelV y u->r x y H Q->
  wpAny (model X.prog X.w) X.A (f v u) (EP X bO σ Q) X.xe s
def Bs(X:Cx)(f:bP)(r:List V->Hp->VK->Prop):Prop:=
 ∀(bO:List (bQ×Obj)) (s:bR) (σ:St) (H:Hp) (xs:List V) (us:List bP) (Q:VK),Inv X bO σ H s->Vals xs us->r xs H Q->
  wpAny (model X.prog X.w) X.A (call f us) (EP X bO σ Q) X.xe s
def tOp(r:R2)(ta tb:TE):TE:=λσ H Q=>ta σ H λx H1=>tb σ H1 λy H2=>r x y H2 Q
def rI(C:Int->Int->Prop)(g:Int->Int->V):R2:=λx y H Q=>∃i j,x=.int i/\y=.int j/\C i j/\Q (g i j) H
def rI0(g:Int->Int->V):R2:=λx y H Q=>∃i j,x=.int i/\y=.int j/\Q (g i j) H
variable{r:R2}{f:bP->bP->Sem bP}
section
variable{X:Cx}{a b c:Expr}{ta tb tc:TE}{pos:Pos}
theorem Qg(ha:PE X a ta)(hb:PE X b tb){bO:List (bQ×Obj)}{s:bR}{σ:St}{H:Hp}{R:V->V->Hp->Prop}(I:Inv X bO σ H s)
 (h:ta σ H λx H1=>tb σ H1 λy H2=>R x y H2){Q:bP->bR->Prop}{f:bP->bP->Sem bP}
 (hf:∀v u s2 x y H2,Inv X bO σ H2 s2->RelV x v->RelV y u->R x y H2->wpAny (model X.prog X.w) X.A (f v u) Q X.xe s2) :
 wpAny (model X.prog X.w) X.A (eval a X.env) (λv s₁=>wpAny (model X.prog X.w) X.A (eval b X.env) (λu s₂=>wpAny (model X.prog X.w) X.A (f v u) Q X.xe s₂) X.xe s₁) X.xe s:=by
 refine thn (ha bO s σ H _ I h) λv s1 z9=>?_;clear 5 z9 x H1 I1 r1 q1;refine thn (hb bO s1 σ H1 _ I1 q1) λu s2 z9=>?_;clear 5 z9 y H2 I2 r2 q2;exact hf v u s2 x y H2 I2 r1 r2 q2
theorem SX{op:Operator}(ho:OpR X (binaryOp op) r)(ha:PE X a ta)(hb:PE X b tb):PE X (.BinOp a op b pos) (tOp r ta tb):=by
 intro bO s σ H Q I h;exact wpAny_BinOp (Qg ha hb I h λv u s2 x y H2 I2 rx ry q=>ho bO s2 σ H2 x y v u Q I2 rx ry q)
theorem opI{C:Int->Int->Prop}{g:Int->Int->Int}
 (rule:∀(i j:Int) (t u:Tok) (s:bR) (Q:bP->bR->Prop) (E:bP->bR->Prop),C i j->Q (.int (g i j) s.toks) {s with toks:=s.toks+1}->wpAny (model X.prog X.w) X.A (f (.int i t) (.int j u)) Q E s) :
 OpR X f (rI C λi j=>.int (g i j)):=by
 intro bO s σ H x y v u Q I rx ry h;clear 5 h i j rfl rfl hc q;clear 5 rx t rfl;clear 5 ry t' rfl;exact rule i j t t' s _ _ hc ⟨.int (g i j),H,I.tok _,⟨_,rfl⟩,q⟩
theorem WW{g:Int->Int->Int}
 (rule:∀(i j:Int) (t u:Tok) (s:bR) (Q:bP->bR->Prop) (E:bP->bR->Prop),Q (.int (g i j) s.toks) {s with toks:=s.toks+1}->wpAny (model X.prog X.w) X.A (f (.int i t) (.int j u)) Q E s) :
 OpR X f (rI0 λi j=>.int (g i j)):=by
 intro bO s σ H x y v u Q I rx ry h;clear 5 h i j rfl rfl q;clear 5 rx t rfl;clear 5 ry t' rfl;exact rule i j t t' s _ _ ⟨.int (g i j),H,I.tok _,⟨_,rfl⟩,q⟩
theorem NA{g:Int->Int->Bool}
 (rule:∀(i j:Int) (t u:Tok) (s:bR) (Q:bP->bR->Prop) (E:bP->bR->Prop),Q (.bool (g i j)) s->wpAny (model X.prog X.w) X.A (f (.int i t) (.int j u)) Q E s) :
 OpR X f (rI0 λi j=>.bl (g i j)):=by
 intro bO s σ H x y v u Q I rx ry h;clear 5 h i j rfl rfl q;clear 5 rx t rfl;clear 5 ry t' rfl;exact rule i j t t' s _ _ ⟨.bl (g i j),H,I,rfl,q⟩
def V1(i j:Int):Prop:=0<j/\j<1073741824
def V2(i j:Int):Prop:=0<=j/\j<=1000000/\i.natAbs<2 ^ 64
def CMul(i j:Int):Prop:=(-(2 ^ 64)<i/\i<2 ^ 64)\/(-(2 ^ 64)<j/\j<2 ^ 64)
theorem CMul.ok{i j:Int}(h:CMul i j):IntMulOk i j:=by
 rcases h with⟨h1,h2⟩|⟨h1,h2⟩
 .exact .of_left (intBits_le_64 h1 h2)
 .exact .of_right (intBits_le_64 h1 h2)
theorem op_add:OpR X (binaryOp .Add) (rI0 λi j=>.int (i+j)):=WW λ_ _ _ _ _ _ _ q=>add_int q
theorem W4:OpR X (binaryOp .Sub) (rI0 λi j=>.int (i-j)):=WW λ_ _ _ _ _ _ _ q=>sub_int q
theorem op_mul:OpR X (binaryOp .Mult) (rI CMul λi j=>.int (i*j)):=opI λ_ _ _ _ _ _ _ hc q=>mul_int q hc.ok
theorem UE:OpR X (binaryOp .FloorDiv) (rI V1 λi j=>.int (i/j)):=opI λi j _ _ _ _ _ hc q=>by
 have h1:(0:Int)<j:=hc.1;have h2:j<1073741824:=hc.2;exact floordiv_int ∅ (by rw[bW i ∅];exact q) (.inl (PyProof.noPylong_small ∅))
theorem W1:OpR X (binaryOp .Mod) (rI (λ_ j=>0<j) λi j=>.int (i%j)):=opI λi j _ _ _ _ _ hc q=>by
 have h1:(0:Int)<j:=hc;exact mod_int' ∅ (by rw[Int.fmod_eq_emod_of_nonneg i ∅];exact q)
theorem W3:OpR X (binaryOp .Pow) (rI V2 λi j=>.int (i ^ j.toNat)):=opI λ_ _ _ _ _ _ _ hc q=>pow_int_small hc.1 hc.2.1 hc.2.2 q
end
variable{us:List bP}
section
variable{X:Cx}{a b c:Expr}{ta tb tc:TE}{pos:Pos}
theorem op_lt:OpR X (compareOp .Lt) (rI0 λi j=>.bl (decide (i<j))):=NA λ_ _ _ _ _ _ _ q=>lt_int q
theorem op_le:OpR X (compareOp .LtE) (rI0 λi j=>.bl (decide (i<=j))):=NA λ_ _ _ _ _ _ _ q=>le_int q
theorem op_gt:OpR X (compareOp .Gt) (rI0 λi j=>.bl (decide (j<i))):=NA λ_ _ _ _ _ _ _ q=>gt_int q
theorem op_ge:OpR X (compareOp .GtE) (rI0 λi j=>.bl (decide (j<=i))):=NA λ_ _ _ _ _ _ _ q=>ge_int q
theorem OpR.or{r':R2}(h:OpR X f r)(h':OpR X f r'):OpR X f (λx y H Q=>r x y H Q\/r' x y H Q):=by
 intro bO s σ H x y v u Q I rx ry q;rcases q with q|q
 .exact h bO s σ H x y v u Q I rx ry q
 .exact h' bO s σ H x y v u Q I rx ry q
theorem Ch(b:Expr){op:CmpOp}(h:autoParam (op≠.In) q1T)(h2:autoParam (op≠.NotIn) q1T):behindInMarks op b=false:=by
 have e1:(op==CmpOp.In)=false:=by cases op<;>first|rfl|exact absurd rfl h
 have e2:(op==CmpOp.NotIn)=false:=by cases op<;>first|rfl|exact absurd rfl h2
 cases b<;>simp[behindInMarks,e1,e2]
theorem UM{op:CmpOp}(ho:OpR X (compareOp op) r)(ha:PE X a ta)(hb:PE X b tb)(hm:behindInMarks op b=false):PE X (.Compare a [op] [b] pos) (tOp r ta tb):=by
 intro bO s σ H Q I h;exact wpAny_Compare1 (Qg ha hb I h λv u s2 x y H2 I2 rx ry q=>ho bO s2 σ H2 x y v u Q I2 rx ry q) hm
def YO(t:TE):TT:=λσ H Q=>t σ H λx H'=>∃k,x=.bl k/\Q k H'
theorem UZ{op:CmpOp}(ho:OpR X (compareOp op) r)(ha:PE X a ta)(hb:PE X b tb)(hm:behindInMarks op b=false):PT X (.Compare a [op] [b] pos) (YO (tOp r ta tb)):=by
 intro bO s σ H Q I h;refine wpAny_isTrue_Compare1 (thn (ha bO s σ H _ I h) λv s1 ⟨x,H1,I1,r1,q1⟩=>thn (hb bO s1 σ H1 _ I1 q1) λu s2 ⟨y,H2,I2,r2,q2⟩=>
  thn (ho bO s2 σ H2 x y v u _ I2 r1 r2 q2) λc s3 ⟨z,H3,I3,r3,k,e,q3⟩=>?_) hm
 subst e
 cases r3
 exact cT ⟨H3,I3,q3⟩
theorem Fi:(sizeLine:Nat)<2 ^ 63:=by rw[dH];decide
theorem op_add_str:OpR X (binaryOp .Add) (λx y H Q=>∃i j,x=.str i/\y=.str j/\i.length+j.length<=sizeLine/\Q (.str (i++j)) H):=by
 intro bO s σ H x y v u Q I rx ry h;clear 5 h i j rfl rfl hz q;clear 5 rx t rfl;clear 5 ry t' rfl;exact add_str (λt' tk=>⟨.str (i++j),H,I.tok _,⟨_,rfl⟩,q⟩) hz
theorem Dx{x:V}(r:Vals [x] us):∃u,us=[u]/\RelV x u:=by
 cases r with
 |cons r1 r2=>cases r2;exact⟨_,rfl,r1⟩
theorem Tj{x y:V}(r:Vals [x,y] us):∃u w',us=[u,w']/\RelV x u/\RelV y w':=by
 cases r with
 |cons r1 r2=>
   cases r2 with
   |cons r3 r4=>cases r4;exact⟨_,_,rfl,r1,r3⟩
theorem Oj(hc:X.calm=true):Bs X (.builtin "min") (λxs H Q=>∃i j,xs=[.int i,.int j]/\Q (.int (if j<i then j else i)) H):=by
 intro bO s σ H xs us Q I r h;clear 5 h i j rfl q;obtain⟨u,w',rfl,⟨t,rfl⟩,⟨t',rfl⟩⟩:=Tj r;refine min_two_ints (I.ok.hd hc) λh' tk k=>⟨_,H,I.kept k,?_,q⟩
 by_cases hj:j<i
 .rw[eB hj,eB hj];exact⟨_,rfl⟩
 .rw[eC hj,eC hj];exact⟨_,rfl⟩
theorem Oh:Bs X (.type "int") (λxs H Q=>(∃i,xs=[.int i]/\Q (.int i) H)\/∃k,xs=[.bl k]/\Q (.int (if k then 1 else 0)) H):=by
 intro bO s σ H xs us Q I r h;rcases h with⟨i,rfl,q⟩|⟨k,rfl,q⟩
 .clear 5(Dx r)u rfl t rfl;exact call_int_int ⟨.int i,H,I,⟨_,rfl⟩,q⟩
 .obtain⟨u,rfl,r1⟩:=Dx r
  cases r1
  exact call_int_bool ⟨.int (if k then 1 else 0),H,I.tok _,⟨_,rfl⟩,q⟩
def V5(K:bN)(x:V)(H:Hp)(n:Nat):Prop:=
 match x with
 |.str y=>y.length<=sizeLine/\n=y.length
 |.byt y=>y.size<=sizeLine/\n=y.size
 |.ref p=>(∃xs,SqL K H p xs/\n=xs.length)\/∃xs,SqT K H p xs/\n=xs.length
 |_=>False
theorem Qj:Bs X (.builtin "len") (λxs H Q=>∃x n,xs=[x]/\V5 X.K x H n/\Q (.int n) H):=by
 intro bO s σ H xs us Q I r h;clear 5 h x n rfl e q;clear 5(Dx r)u rfl rx;have hl:=Fi;have hs:sizeLine=16777216:=dH
 cases x with
 |str y=>
   clear 5 rx t rfl;obtain⟨hy,e'⟩:y.length<=sizeLine/\n=y.length:=e;subst e';exact len_str ∅ ⟨.int _,H,I.tok _,⟨_,rfl⟩,q⟩
 |byt y=>
   clear 5 rx t rfl;obtain⟨hy,e'⟩:y.size<=sizeLine/\n=y.size:=e;subst e';exact PySem.W.len_bytes ∅ ⟨.int _,H,I.tok _,⟨_,rfl⟩,q⟩
 |ref p=>
   cases rx
   have e':(∃xs,SqL X.K H p xs/\n=xs.length)\/∃xs,SqT X.K H p xs/\n=xs.length:=e;rcases e' with⟨xs,hx,e'⟩|⟨xs,hx,e'⟩
   .subst e';clear 5(I.list hx)its r' pl hz;have hlen:=r'.length;exact Calls.call_len_list pl.isList (by simp only[uh5];lia) ⟨.int xs.length,H,I.tok _,⟨_,by simp only[uh5];rw[hlen]⟩,q⟩
   .subst e';clear 5(I.tuple hx)its r' pl hz;have hlen:=r'.length;exact len_tuple pl (by simp only[uh5];lia) ⟨.int xs.length,H,I.tok _,⟨_,by simp only[uh5];rw[hlen]⟩,q⟩
 |_=>exact(show False from e).elim
end
structure ObjM(h:Heap)(x dx C:bQ)(mA:Str->Option bP):Prop where
 obj:h.get? x=some (PySem.W.instObj C dx)
 ns:h.Ns1 dx mA
 ne:dx≠x
set_option tactic.hygienic true in
theorem O3{dx:bQ}{mA:Str->Option bP}(n:h.Ns1 dx mA):∃od,h.get? dx=some od/\∀name,PySem.W.lookIn name od=some (mA name):=by
 obtain⟨o,es,ep,ho,hd,hk,_,hm⟩:=n;refine⟨o,ho,λname=>?_⟩;have e:=hm name;unfold nsFind findBy at e;rw[<-Array.find?_toList] at e;unfold PySem.W.lookIn;rw[hd];dsimp only
 split
 .rename_i y q;rw[q] at e;exact dQ some e
 .rename_i q;rw[q] at e;have a:es.toList.any (·.refKey)=false:=by
   rw[List.any_eq_false];intro y hy;clear 5(hk y (Array.mem_toList_iff.mp hy))z t hkey;simp[DictEntry.refKey,hkey]
  have a':¬es.toList.any (·.refKey)=true:=by rw[a];exact ug6
  rw[eC a'];exact dQ some e
theorem ObjM.look{x dx C:bQ}{mA:Str->Option bP}(I:ObjM h x dx C mA):∃od,PySem.W.InstAt h x (PySem.W.instObj C dx) C (some od)/\∀name,PySem.W.lookIn name od=some (mA name):=
 let ⟨od,ho,hl⟩:=O3 I.ns
 ⟨od,⟨I.obj,rfl,rfl,ho⟩,hl⟩
section
variable{prog:bS}{w:bT}{A:Around}{E:bP->bR->Prop}{s:bR}{K:bN}{x dx C f:bQ}{mA:Str->Option bP}{name:Str}{v:bP}
end
theorem RelO.some_of{v:V}{o:Option bP}(r:RelO (some v) o):∃u,o=some u/\RelV v u:=by
 cases o with
 |none=>exact(show False from r).elim
 |some u=>exact⟨u,rfl,r⟩
section
variable{P:bS}{w:bT}{H H':Hp}{h h':Heap}{a C dx:bQ}{fs fs':List (Str×V)}
theorem Uj(hok:HOk P w H h)(e:H a=some (.ins C dx fs)):∃mA,ObjM h a dx C mA/\(∀f,RelO (fs.lookup f) (mA f))/\PySem.Within mA (fs.map (·.1))/\fs.length<=1000/\H dx=some (.own a):=by
 clear 5((show ObjOk P w H h a (.ins C dx fs) from hok a _ e))d z ne ob mA n r q;exact⟨mA,⟨ob,n,ne⟩,r,q,z,d⟩
end
structure Cls(K:bN)(C:bQ):Prop where
 pg:PySem.W.plainGet K C Str.empty=true
 hd:PySem.W.hasDictIn K C=true
 po:PySem.W.plainOver K C=true
 sa:PySem.W.findIn K (.ref C) "__setattr__" = some (some (.builtin "object.__setattr__"))
theorem Cls.get{K:bN}{C:bQ}(c:Cls K C)(f:Str):PySem.W.plainGet K C f=true:=c.pg
structure Con(K:bN)(C:bQ)(f:Str)(v:V)(u:bP):Prop where
 at_:PySem.W.findIn K (.ref C) f=some (some u)
 rel:RelV v u
 get:PySem.W.specialIn K u "__get__" = some none
 cp:PySem.W.copiedNames.contains f=false
structure Meth(K:bN)(C:bQ)(m:Str)(f:bQ):Prop where
 at_:PySem.W.findIn K (.ref C) m=some (some (.ref f))
 fn:PySem.W.isFn K (.ref f)=true
 kp:PySem.W.keepIn K (.ref f)=true
section
variable{X:Cx}{bO:List (bQ×Obj)}{σ:St}{H:Hp}{s:bR}{a C dx:bQ}{fs:List (Str×V)}{f:Str}{v:V}{A:Around}{E:bP->bR->Prop}
end
section
variable{X:Cx}{o e value:Expr}{f:Str}{pos pos' tpos:Pos}{ta tv:TE}
end
section
variable{X:Cx}{bO:List (bQ×Obj)}{σ:St}{H:Hp}{s:bR}{A:Around}{E:bP->bR->Prop}{Q:bP->bR->Prop}{c:bP}{b:Bool}
inductive TyOf(K:bN)(H:Hp):V->bP->Prop where
 |non:TyOf K H .non (.type "NoneType")
 |bl (x:Bool):TyOf K H (.bl x) (.type "bool")
 |int (i:Int):TyOf K H (.int i) (.type "int")
 |str (x:Str):TyOf K H (.str x) (.type "str")
 |flt (x:UInt64):TyOf K H (.flt x) (.type "float")
 |lst {a:bQ}{xs:List V} (e:H a=some (.lst xs)):TyOf K H (.ref a) (.type "list")
 |frz {a:bQ}{o:Obj}{xs:List V} (e:H a=some (.frz o (.lst xs))):TyOf K H (.ref a) (.type "list")
 |tup {a:bQ}{xs:List V} (e:H a=some (.tup xs)):TyOf K H (.ref a) (.type "tuple")
 |dK {a:bQ}{kvs:List (Key×V)} (e:H a=some (.dK kvs)):TyOf K H (.ref a) (.type "dict")
 |dT {a:bQ}{kvs:List (List Key×V)} (e:H a=some (.dT kvs)):TyOf K H (.ref a) (.type "dict")
 | ins {a C dx:bQ} {fs:List (Str×V)} (e:H a=some (.ins C dx fs)) (cl:Cls K C) (ha:PySem.W.findIn K (.ref C) "__class__" = some (some (.builtin "object.__class__")))
    (hn:PySem.W.specialIn K (.builtin "object.__class__") "__get__" = some (some (.builtin "getset_descriptor.__get__"))) (htk:PySem.W.takesIn K (.builtin "object.__class__")=some true)
    (hm:PySem.W.mroIn K C (.type "object")=some true):TyOf K H (.ref a) (.ref C)
theorem OT{x:V}{t:bP}(I:Inv X bO σ H s)(rx:RelV x u)(ty:TyOf X.K H x t)(e:PySem.W.kitOne X.K t c=some b)(h:∀tk,Q (.bool b) {s with toks:=tk}) :
 wpAny (model X.prog X.w) A (call (.builtin "isinstance") [u,c]) Q E s:=by
 cases ty with
 |non=>cases (show u=Value.none from rx);exact um2 PySem.W.kitx_none I.kIn True.intro e (λz=>nomatch z) h
 |bl y=>cases (show u=Value.bool y from rx);exact um2 PySem.W.kitx_bool I.kIn True.intro e (λz=>nomatch z) h
 |int i=>clear 5((show ∃t,u=Value.int i t from rx))t q;cases q;exact um2 PySem.W.kitx_int I.kIn True.intro e (λz=>nomatch z) h
 |str y=>clear 5((show ∃t,u=Value.str y t from rx))t q;cases q;exact um2 PySem.W.kitx_str I.kIn True.intro e (λz=>nomatch z) h
 |flt y=>clear 5((show ∃t,u=Value.float y t from rx))t q;cases q;exact um2 PySem.W.kitx_float I.kIn True.intro e (λz=>nomatch z) h
 |@lst a xs ea=>
   cases (show u=Value.ref a from rx)
   obtain⟨_,_,n,_,h1⟩:=(show ObjOk X.prog X.w H s.heap a (.lst xs) from I.hok a _ ea);exact um2 PySem.W.kitx_list I.kIn ⟨_,h1,rfl⟩ e (λz=>nomatch z) h
 |@frz a ob xs ea=>
   cases (show u=Value.ref a from rx)
   obtain⟨_,_,_,n,_,h1⟩:=(show ObjOk X.prog X.w H s.heap a (.frz ob (.lst xs)) from I.hok a _ ea);exact um2 PySem.W.kitx_list I.kIn ⟨_,h1,rfl⟩ e (λz=>nomatch z) h
 |@tup a xs ea=>
   cases (show u=Value.ref a from rx)
   obtain⟨_,_,_,p⟩:=(show ObjOk X.prog X.w H s.heap a (.tup xs) from I.hok a _ ea);obtain⟨o,h1,h2,_⟩:=p;exact um2 PySem.W.kitx_tuple I.kIn ⟨o,h1,h2⟩ e (λz=>nomatch z) h
 |@dK a kvs ea=>
   cases (show u=Value.ref a from rx)
   obtain⟨_,_,vs,_,p⟩:=(show ObjOk X.prog X.w H s.heap a (.dK kvs) from I.hok a _ ea);obtain⟨o,es,ep,h1,h2,_⟩:=p;exact um2 PySem.W.kitx_dict I.kIn ⟨o,h1,h2.1⟩ e (λz=>nomatch z) h
 |@dT a kvs ea=>
   cases (show u=Value.ref a from rx)
   obtain⟨_,_,xs,_,o,es,ep,h1,h2,_⟩:=(show ObjOk X.prog X.w H s.heap a (.dT kvs) from I.hok a _ ea);exact um2 PySem.W.kitx_dict I.kIn ⟨o,h1,h2.1⟩ e (λz=>nomatch z) h
 |@ins a C dx fs ea cl ha hn htk hm=>
   cases (show u=Value.ref a from rx)
   obtain⟨mA,O,_⟩:=Uj I.hok ea;obtain⟨od,J,_⟩:=O.look;exact um2 (PySem.W.kitx_own (cl.get _) cl.hd ha hn htk hm) I.kIn J e (λz=>nomatch z) h
end
structure Room(k:Nat)(A:Around):Prop where
 hd:A.handled=none
 dp:A.depth+3*k+5<recursionLimit
 un:A.units+16*k+200<cLine
theorem Room.deeper{k:Nat}{A:Around}(r:Room (k+1) A)(env:Env):Room k (A.deeper env):=
 ⟨r.hd,by have:=r.dp;show A.depth+1+3*k+5<_;lia,by have:=r.un;show A.units+3+16*k+200<_;lia⟩
theorem Room.depth{k:Nat}{A:Around}(r:Room k A):A.depth<recursionLimit:=by have:=r.dp;lia
theorem Room.units{k:Nat}{A:Around}(r:Room k A):A.units+64<cLine:=by have:=r.un;lia
def ZS:TA:=λ_ H Q=>Q [] H
def YK(ta:TE)(tr:TA):TA:=λσ H Q=>ta σ H λx H1=>tr σ H1 λxs H2=>Q (x::xs) H2
section
variable{X:Cx}{e:Expr}{es:List Expr}{te:TE}{t:TA}{pos:Pos}
theorem K8:PA X [] ZS:=λ_ _ _ _ H Q I h=>Calls.spliced_nil ⟨[],H,I,.nil,h⟩
theorem Ji(ha:PE X e te)(hr:PA X es t)(hs:autoParam (starEach (e::es) X.env=(false,eval e X.env)::starEach es X.env) q3T):PA X (e::es) (YK te t):=by
 intro pos bO s σ H Q I h;rw[hs];show wpAny _ _ (spliced ((false,eval e X.env)::backTo pos (starEach es X.env))) _ _ s;refine Calls.spliced_cons (thn (ha bO s σ H _ I h) λu s1 z9=>?_);clear 5 z9 x H1 I1 r1 q1;exact thn (hr pos bO s1 σ H1 _ I1 q1) λus s2 ⟨xs,H2,I2,r2,q2⟩=>⟨x::xs,H2,I2,.cons r1 r2,q2⟩
def ZY(t:TA):TE:=λσ H Q=>t σ H λxs H1=>xs.length<=sizeLine/\∀p,H1 p=none->Q (.ref p) (upd H1 p (.tup xs))
def ZR(t:TA):TE:=λσ H Q=>t σ H λxs H1=>xs.length<=sizeLine/\∀p,H1 p=none->Q (.ref p) (upd H1 p (.lst xs))
theorem Xj{x1}(h:PA X es t):PE X (.Tuple es x1 pos) (ZY t):=by
 intro bO s σ H Q I hq;refine wpAny_Tuple_spliced (thn (h pos bO s σ H _ I hq) λus s1 z9=>?_);clear 5 z9 xs H1 I1 r z q;refine⟨by rw[<-r.length];exact z,?_⟩;have hf:H1 s1.heap.objs.size=none:=I1.hok.fresh (uq9 _);refine⟨.ref s1.heap.objs.size,upd H1 s1.heap.objs.size (.tup xs),I1.laid (t':=s1.toks) (λb u e=>uc4 _ e) (uq9 _) ?_,rfl,q _ hf⟩;exact⟨z,us,r,⟨_,uf8 _ rfl,rfl,_,rfl⟩⟩
theorem Xg(h:PA X es t):PE X (.List es pos) (ZR t):=by
 intro bO s σ H Q I hq;refine wpAny_List_spliced (thn (h pos bO s σ H _ I hq) λus s1 z9=>?_);clear 5 z9 xs H1 I1 r z q;refine⟨by rw[<-r.length];exact z,?_⟩;have hf:H1 s1.heap.objs.size=none:=I1.hok.fresh (uq9 _);refine⟨.ref s1.heap.objs.size,upd H1 s1.heap.objs.size (.lst xs),I1.laid (t':=s1.toks) (λb u e=>uc4 _ e) (uq9 _) ?_,rfl,q _ hf⟩;exact⟨z,us,0,r,uf8 _ rfl⟩
end
abbrev Sp:=List V->Hp->VK->XK->Prop
abbrev CXT:=List Env->Hp->bR->XK->bP->bR->Prop
structure Env0(P:bS)(w:bT)(K:bN)(mg:Str->Option bP)(base:Heap)(A:Around)(outer:List Env)(s:bR)(H:Hp):Prop where
 frames:A.frames=some outer
 mod:Mod K mg base
 bs:∀b o,base.get? b=some o->s.heap.get? b=some o/\H b=none
 bsz:base.objs.size<=s.heap.objs.size
 funs:s.heap.FunFrames base outer
 frf:∀b∈frs outer,H b=none
 hok:HOk P w H s.heap
 bare:AllBare s.gens
def CE(outer:List Env)(P:bS)(w:bT)(H:Hp)(s:bR)(Q:VK)(u:bP)(s':bR):Prop:=
 ∃v H',s'.os=s.os/\AllBare s'.gens/\Un (frs outer) [] H H' s.heap s'.heap/\HOk P w H' s'.heap/\RelV v u/\Q v H'
def CR(CX:CXT)(outer:List Env)(P:bS)(w:bT)(H:Hp)(s:bR)(Q:VK)(E:XK)(r:Result)(s':bR):Prop:=
 match r with
 |.ok (.ret u)=>CE outer P w H s Q u s'
 |.ok _=>False
 |.error e=>CX outer H s E e s'
structure FnOk(P:bS)(w:bT)(K:bN)(mg:Str->Option bP)(base:Heap)(CX:CXT)(k:Nat)(f:bQ)(fd:bU)(ps:List Str)(sp:Sp):Prop where
 len:∀vs H Q E,sp vs H Q E->vs.length=ps.length
 run:∀(A:Around) (outer:List Env) (s:bR) (H:Hp) (args:Args) (us:List bP) (vs:List V) (Q:VK) (E:XK),Room k A->Env0 P w K mg base A outer s H->BindsTo s fd args (ps.zip us)->Vals vs us->sp vs H Q E->
  codeAny (model P w) A (.call (.ref f) args) (CR CX outer P w H s Q E) s
section
variable{X:Cx}{bO:List (bQ×Obj)}{σ:St}{H:Hp}{s s':bR}
theorem Inv.env0(I:Inv X bO σ H s):Env0 X.prog X.w X.K X.mg X.base X.A X.stack s H:=
 ⟨I.ok.frames,I.ok.mod,I.bs,up6 I.ok.bsz I.sz,I.stack,I.stkFree,I.hok,I.bare⟩
theorem Inv.after{Q:VK}(I:Inv X bO σ H s)(h:CE X.stack X.prog X.w H s Q u s'):EP X bO σ Q u s':=by
 clear 5 h v H' os bare un hok r q;clear 5 s' hh g d t os';obtain rfl:os'=s.os:=os;exact⟨v,H',I.call (h':=hh) (g':=g) (d':=d) (t':=t) (ch:=[]) un hok bare (λb z=>absurd z (by simp)),r,q⟩
end
def YJ(sp:Sp)(dvs:List V)(E:XK)(t:TA):TE:=λσ H Q=>t σ H λvs H1=>sp (vs++dvs) H1 Q E
def Binds(K:bN)(fd:bU)(ps:List Str)(ds:List bP):Prop:=
 ∀(s:bR) (us:List bP),K.In s.heap->(us++ds).length=ps.length->BindsTo s fd ⟨us,[]⟩ (ps.zip (us++ds))
theorem Binds.all{fd:bU}{ps:List Str}(h:∀us:List bP,us.length=ps.length->bindArgs fd ⟨us,[]⟩=pure (ps.zip us)):Binds K fd ps []:=λs us _ hl=>by
 rw[um3] at hl⊢;exact .of_eq (h us hl)
def Kl(CX:CXT)(X:Cx)(E:XK):Prop:=∀(bO:List (bQ×Obj)) (σ:St) (H:Hp) (s:bR) (e:bP) (s':bR),Inv X bO σ H s->CX X.stack H s E e s'->X.xe e s'
section
variable{X:Cx}{CX:CXT}{k:Nat}{f C:bQ}{fd:bU}{ps:List Str}{sp:Sp}{dvs:List V}{ds:List bP}{E:XK}{x m:Str}{p pos apos:Pos}{e o:Expr}{es:List Expr}{ta:TE}{t:TA}
theorem XH{Q:VK}{vs:List V}(F:FnOk X.prog X.w X.K X.mg X.base CX k f fd ps sp)(hr:Room k X.A)(hb:Binds X.K fd ps ds)(hd:Vals dvs ds)(hx:Kl CX X E)
 (I:Inv X bO σ H s) (r:Vals vs us) (h:sp (vs++dvs) H Q E):wpAny (model X.prog X.w) X.A (call (.ref f) us) (EP X bO σ Q) X.xe s:=by
 have r2:Vals (vs++dvs) (us++ds):=r.append hd;have hl:(us++ds).length=ps.length:=by rw[<-r2.length];exact F.len _ _ _ _ h
 refine wpAny_call (codeAny_mono (F.run X.A X.stack s H ⟨us,[]⟩ (us++ds) (vs++dvs) Q E hr I.env0 (hb s us I.kIn hl) r2 h) λr s' hq=>?_)
 cases r with
 |error e=>exact hx bO σ H s e s' I hq
 |ok fl=>
   cases fl with
   |ret u=>exact I.after hq
   |next=>exact False.elim hq
   |brk=>exact False.elim hq
   |cont=>exact False.elim hq
theorem Mw(F:FnOk X.prog X.w X.K X.mg X.base CX k f fd ps sp)(hr:Room k X.A)(hg:Gl X x)(hm:X.mg x=some (.ref f))(hk:PySem.W.keepIn X.K (.ref f)=true)(hb:Binds X.K fd ps ds)(hd:Vals dvs ds)(hx:Kl CX X E)
 (ha:PA X (e::es) t) (hdb:autoParam ((x==("__debug__":Str))=false) q1T) (he:autoParam (starEach (e::es) X.env=(false,eval e X.env)::starEach es X.env) q3T) (hpl:autoParam ((backTo pos (starEach es X.env)).any (·.1)=false) q3T) :
 PE X (.Call (.Name x p) (e::es) [] pos) (YJ sp dvs E t):=by
 intro bO s σ H Q I h;refine cQ (Um I hg hm ?_ hdb);refine PySem.W.callWith_K (h₀:=X.base) I.ok.mod.kin hk (thn (ha pos bO s σ H _ I h) λus s1 z9=>?_) he hpl;clear 5 z9 vs H1 I1 r q;refine⟨I1.kIn,?_⟩;exact XH F hr hb hd hx I1 r q
structure Mk(K:bN)(C f:bQ):Prop where
 makes:PySem.W.makesIn K C=true
 init:PySem.W.findIn K (.ref C) "__init__" = some (some (.ref f))
 fn:PySem.W.isFn K (.ref f)=true
 kp:PySem.W.keepIn K (.ref C)=true
end
section
variable{X:Cx}{CX:CXT}{k:Nat}{f C:bQ}{fd:bU}{ps ks:List Str}{sp:Sp}{E:XK}{x m:Str}{p pos apos kpos:Pos}{e o:Expr}{es:List Expr}{kws:List Keyword}{te ta:TE}{t tk:TA}{nm:Option Str}
structure KBinds(K:bN)(fd:bU)(ps ks:List Str)(g:List bP->List bP->List bP)(gV:List V->List V->List V):Prop where
 to:∀(s:bR) (us ws:List bP),K.In s.heap->(g us ws).length=ps.length->BindsTo s fd ⟨us,ks.zip ws⟩ (ps.zip (g us ws))
 rel:∀{vs:List V}{us:List bP}{zs:List V}{ws:List bP},Vals vs us->Vals zs ws->Vals (gV vs zs) (g us ws)
variable{g:List bP->List bP->List bP}{gV:List V->List V->List V}
end
structure FnScope(N P:List Str)(sc:Scope):Prop where
 kind:sc.kind=.function
 co:sc.isCoroutine=false
 gen:sc.isGenerator=false
 nd:N.Nodup
 pre:N.take P.length=P
 par:∀x∈P,sc.names.lookup x=some .local\/sc.names.lookup x=some .cell
 nofree:∀y∈sc.names,y.2≠.free
theorem JB{kindOf:Str->Option NameKind}{x:Str}:∀{binds:List (Str×bP)}{m:Str->Option bP},(∀v,(x,v)∉binds)->bindL kindOf binds m x=m x
 |[],_,_=>rfl
 |(n,v)::r,m,h=>by
   unfold bindL;rw[JB λw hw=>h w (ue3 _ hw)]
   split
   .have:x≠n:=by rintro rfl;exact h v ug5
    simp[this]
   .rfl
theorem Jz{kindOf:Str->Option NameKind}{x:Str}:∀{binds:List (Str×bP)}{m:Str->Option bP},(∀v,(x,v)∉binds)->bindC kindOf binds m x=m x
 |[],_,_=>rfl
 |(n,v)::r,m,h=>by
   unfold bindC;rw[Jz λw hw=>h w (ue3 _ hw)]
   split
   .rfl
   .have:x≠n:=by rintro rfl;exact h v ug5
    simp[this]
theorem JA{kindOf:Str->Option NameKind}{x:Str}{v:bP}:∀{P:List Str}{vs:List bP}{i:Nat}{m:Str->Option bP},P.Nodup->P[i]?=some x->vs[i]?=some v->kindOf x=some .local->
 bindL kindOf (P.zip vs) m x=some v
 |[],_,_,_,_,h,_,_=>by simp at h
 |_::_,[],_,_,_,_,h,_=>by simp at h
 |p::P,w::vs,0,m,nd,h1,h2,hk=>by
   simp at h1 h2;subst h1;subst h2;show bindL kindOf ((p,w)::P.zip vs) m p=_;unfold bindL;rw[JB λv hv=>(um4.mp nd).1 (um5 hv).1,eB hk];simp
 |p::P,w::vs,i+1,m,nd,h1,h2,hk=>by
   show bindL kindOf ((p,w)::P.zip vs) m x=_;unfold bindL;exact JA (i:=i) (um4.mp nd).2 (by simpa using h1) (by simpa using h2) hk
theorem Jy{kindOf:Str->Option NameKind}{x:Str}{v:bP}:∀{P:List Str}{vs:List bP}{i:Nat}{m:Str->Option bP},P.Nodup->P[i]?=some x->vs[i]?=some v->kindOf x≠some .local->
 bindC kindOf (P.zip vs) m x=some v
 |[],_,_,_,_,h,_,_=>by simp at h
 |_::_,[],_,_,_,_,h,_=>by simp at h
 |p::P,w::vs,0,m,nd,h1,h2,hk=>by
   simp at h1 h2;subst h1;subst h2;show bindC kindOf ((p,w)::P.zip vs) m p=_;unfold bindC;rw[Jz λv hv=>(um4.mp nd).1 (um5 hv).1,eC hk];simp
 |p::P,w::vs,i+1,m,nd,h1,h2,hk=>by
   show bindC kindOf ((p,w)::P.zip vs) m x=_;unfold bindC;exact Jy (i:=i) (um4.mp nd).2 (by simpa using h1) (by simpa using h2) hk
noncomputable def start(N:List Str)(vs:List V):St:=vs.map some++List.replicate (N.length-vs.length) none
noncomputable def FN(CX:CXT)(P:bS)(w:bT)(K:bN)(mg:Str->Option bP)(base:Heap)(N:List Str)(qual:Str)(scope:Scope)(f:bQ)(cd:bP)(A:Around)(outer:List Env)(s:bR)(H:Hp)(E:XK):Cx where
 prog:=P
 w:=w
 K:=K
 mg:=mg
 base:=base
 A:=A.deeper (envOfC qual scope s.heap.objs.size f cd)
 N:=N
 s₀:=s
 H₀:=H
 env:=envOfC qual scope s.heap.objs.size f cd
 outer:=outer
 stack:=envOfC qual scope s.heap.objs.size f cd::outer
 ex:=[]
 calm:=true
 fn:=λ_=>true
 pn:=[]
 xe:=λe s'=>wpAny (model P w) (A.deeper (envOfC qual scope s.heap.objs.size f cd)) (leaving (envOfC qual scope s.heap.objs.size f cd) e) (λ_ s''=>CX outer H s E e s'') (λe' s''=>CX outer H s E e' s'') s'
theorem Kw{sc:Scope}{n:Nat}(h:sc.names.lookup x=some .cell):∃c,(cellsFrom n sc.names []).lookup x=some c:=by
 have q:=cD sc.names n [] (.inl h);exact Option.isSome_iff_exists.mp q
theorem OP{CX:CXT}{mg:Str->Option bP}{base:Heap}{N ps:List Str}{qual:Str}{scope:Scope}{f:bQ}{cd:bP}{A:Around}{outer:List Env}{s1:bR}{E:XK}{vs:List V}
 (S:FnScope N ps scope) (hd:A.handled=none) (e0:Env0 P w K mg base A outer s H) (hl:vs.length=ps.length) (r:Vals vs us)
 (x:InCallC s s.heap.objs.size (bindL (envOfC qual scope s.heap.objs.size f cd).kindOf (ps.zip us) λ_=>none) (cellsFrom (s.heap.objs.size+1) scope.names []) (bindC (envOfC qual scope s.heap.objs.size f cd).kindOf (ps.zip us) λ_=>none) s1) :
 Inv (FN CX P w K mg base N qual scope f cd A outer s H E) [] (start N vs) H s1:=by
 have hpl:ps.length<=N.length:=by have:=dQ List.length S.pre;rw[uj5] at this;lia
 clear 5 x.done h1 tk rfl hk;have noA:∀b:bQ,b∉(FN CX P w K mg base N qual scope f cd A outer s H E).ex:=λb z=>absurd (show b∈([]:List bQ) from z) (by simp);refine⟨⟨e0.mod,S.kind,rfl,rfl,uq9 _,λy z c h1 h2=>?_,λy hy=>?_,λy c _ h=>?_,λ_=>hd,Around.frames_deeper e0.frames,.inr ⟨rfl,rfl⟩,λb z=>absurd z (noA b),e0.bs,e0.bsz,λb _ _=>noA b,λb z=>absurd z (noA b),e0.funs,e0.frf⟩,
  rfl,e0.bare,Un.kept hk,⟨_,x.toInCall.ns,λi y v h1 h2 h3=>?_⟩,λy c h=>⟨_,x.cell y c h⟩,e0.hok.fresh (uq9 _),λy c h=>?_,λp hp=>absurd (show p∈([]:List (bQ×Obj)) from hp) (by simp),e0.hok.kept hk,?_⟩
 .exact name_of_addr x.apart (cM h1) (cM h2)
 .have hy:scope.names.lookup y=some .cell\/scope.names.lookup y=some .free:=hy;rcases hy with hy|hy
  .exact Kw hy
  .exact absurd rfl (S.nofree _ (cM hy))
 .exact up7 (x.above y c (cM h))
 .have hi:i<vs.length:=by
   unfold start at h2
   by_cases hi:i<vs.length
   .exact hi
   .rw[ua6 (by simpa using hi)] at h2;rw[ub6] at h2
    split at h2<;>cases h2
  have ha:vs[i]?=some v:=by
   unfold start at h2;rw[ub1 (by simpa using hi),uh6] at h2
   cases e:vs[i]? with
   |none=>rw[e] at h2;cases h2
   |some a=>rw[e] at h2;cases h2;rfl
  clear 5(r.get ha)u hu rv;have hp:ps[i]?=some y:=by
   rw[<-S.pre,List.getElem?_take_of_lt ∅];exact h1
  have ndP:ps.Nodup:=by rw[<-S.pre];exact S.nd.sublist (uh7 _ _)
  refine⟨u,rv,?_⟩;rcases S.par y (ue6 hp) with k|k
  .exact .inl ⟨k,JA ndP hp hu k⟩
  .clear 5(Kw (n:=s.heap.objs.size+1) k)c e;refine .inr ⟨.inl k,c,e,?_⟩;have q:=x.cell y c e;rw[Jy ndP hp hu (by show scope.names.lookup y≠_;rw[k];decide)] at q;exact q
 .exact e0.hok.fresh (up7 (x.above y c (cM h)))
 .unfold start;show _=N.length;rw[ug7,um6,ud2];lia
theorem Yo{CX:CXT}{mg:Str->Option bP}{base:Heap}{k:Nat}{f:bQ}{name qual:Str}{params:Arguments}{body:List Stmt}{scope:Scope}{dV kV doc pm cdv ct oc:bP}{an od:Option bQ}
 {osl:Array (Option bP)}{N ps:List Str}{sp:Sp} (lk:K.lookup f=some ⟨oc,od,.func (PySem.W.fnOf name qual params body scope dV kV doc pm an cdv ct),osl⟩) (hcd:codeIn K cdv qual=true) (S:FnScope N ps scope)
 (len:∀vs H Q E,sp vs H Q E->vs.length=ps.length)
 (hbody:∀(A:Around) (outer:List Env) (s:bR) (H:Hp) (vs:List V) (Q:VK) (E:XK),Room k (A.deeper (envOfC qual scope s.heap.objs.size f cdv))->sp vs H Q E->
   ∃t,PSs (FN CX P w K mg base N qual scope f cdv A outer s H E) body t/\t {nx:=λ_ H'=>Q .non H',rt:=Q} (start N vs) H) :
 FnOk P w K mg base CX (k+1) f (PySem.W.fnOf name qual params body scope dV kV doc pm an cdv ct) ps sp:=by
 refine⟨len,λA outer s H args us vs Q E hr e0 hb r hsp=>?_⟩;have hl:=len _ _ _ _ hsp;have KX:K.In s.heap:=e0.mod.kin.keeps λb o e=>(e0.bs b o e).1;have lim:s.heap.NoLimit:=e0.mod.nolimit.keeps λb o e=>(e0.bs b o e).1;have hkind:∀y∈ps.zip us,scope.names.lookup y.1=some .local\/(scope.names.lookup y.1=some .cell/\((cellsFrom (s.heap.objs.size+1) scope.names []).lookup y.1).isSome=true):=λz9 hy=>by
  clear 5 z9 n v;rcases S.par n (um5 hy).1 with q|q
  .exact .inl q
  .exact .inr ⟨q,cD _ _ _ (.inl q)⟩
 refine codeAny_call_function hr.depth (KX _ _ lk) rfl S.co S.gen rfl (PySem.W.codeRec_of KX hcd) (hb _ _ _ _ ?_);refine wpAny_newFunctionEnv_cells S.kind hkind λenv he s1 x=>?_;subst he;refine⟨lim.keeps x.toInCall.keep,codeAny_func ?_⟩;clear 5(hbody A outer s H vs Q E (hr.deeper _) hsp)t ht hq;have I:Inv (FN CX P w K mg base N qual scope f cdv A outer s H E) [] (start N vs) H s1:=OP S hr.hd e0 hl r x;refine ur6 (ht [] s1 (start N vs) H _ I hq) (λfl s' hs=>?_) λe s' hs=>hs;have fin:∀{σ':St}{H':Hp}{v:V}{u:bP},Inv (FN CX P w K mg base N qual scope f cdv A outer s H E) [] σ' H' s'->RelV v u->Q v H'->CE outer P w H s Q u s':=
  λ{σ' H' v u} J rv q=>⟨v,H',J.os,J.bare,J.base,J.hok,rv,q⟩
 cases fl with
 |ret u=>
   clear 5 hs v σ' H' J rv q;exact fin J rv q
 |next=>
   clear 5 hs σ' H' J q;exact fin (v:=V.non) (u:=Value.none) J rfl q
 |brk=>
   obtain⟨_,_,_,q⟩:=hs;exact False.elim q
 |cont=>
   obtain⟨_,_,_,q⟩:=hs;exact False.elim q
section
variable{X:Cx}{x:Str}{p pos:Pos}{e:Expr}{es:List Expr}{t:TA}{id T:String}{r:List V->Hp->VK->Prop}
def tCB(r:List V->Hp->VK->Prop)(t:TA):TE:=λσ H Q=>t σ H λvs H1=>r vs H1 Q
theorem HF(hc:Bs X (.builtin id) r)(hg:Gl X x)(hm:X.mg x=none)(hv:bootBuiltins x=some (.builtin id))(ha:PA X (e::es) t)(hn:autoParam (x≠"__name__") q1T)(hdb:autoParam ((x==("__debug__":Str))=false) q1T)
 (he:autoParam (starEach (e::es) X.env=(false,eval e X.env)::starEach es X.env) q3T) (hpl:autoParam ((backTo pos (starEach es X.env)).any (·.1)=false) q3T):PE X (.Call (.Name x p) (e::es) [] pos) (tCB r t):=by
 intro bO s σ H Q I h;refine cQ (Gx I hg hm hv ?_ hn hdb);exact PyProof.Rows.callWith_builtin1 (thn (ha pos bO s σ H _ I h) λus s1 z9=>by clear 5 z9 vs H1 I1 r1 q1;exact hc bO s1 σ H1 vs us Q I1 r1 q1) he hpl
theorem DS(hc:Bs X (.type T) r)(hg:Gl X x)(hm:X.mg x=none)(hv:bootBuiltins x=some (.type T))(ha:PA X (e::es) t)(hn:autoParam (x≠"__name__") q1T)(hdb:autoParam ((x==("__debug__":Str))=false) q1T)
 (he:autoParam (starEach (e::es) X.env=(false,eval e X.env)::starEach es X.env) q3T) (hpl:autoParam ((backTo pos (starEach es X.env)).any (·.1)=false) q3T):PE X (.Call (.Name x p) (e::es) [] pos) (tCB r t):=by
 intro bO s σ H Q I h;refine cQ (Gx I hg hm hv ?_ hn hdb);exact ua3 (thn (ha pos bO s σ H _ I h) λus s1 z9=>by clear 5 z9 vs H1 I1 r1 q1;exact hc bO s1 σ H1 vs us Q I1 r1 q1) he hpl
end
end
end L2
namespace HT
open PySem PyProof.Rows
section
open PySem.SeqAt
open PySem.AutoSeq1 (wpAny_loadPart')
open PySem.MeetsSeq PySem.MeetsSeq2 PySem.MeetsSeq3
end
section
variable{prog:bS}{w:bT}{A:Around}{E:bP->bR->Prop}{s:bR}
theorem TD{t b:bQ}{vs ws:List bP}{Q:bP->bR->Prop}(ht:IsTup s.heap t vs.toArray)(hb:IsTup s.heap b ws.toArray)(hv:vs≠[])
 (h1:ws=[]->Q (.ref t) s) (h2:ws≠[]->Q (.ref s.heap.objs.size) {s with heap:=s.heap.push {cls:=.type "tuple",data:=.seq (vs++ws).toArray} })
 (hsz:vs.length+ws.length<=sizeLine):wpAny (model prog w) A (binaryOp .Add (.ref t) (.ref b)) Q E s:=by
 obtain⟨⟨cls,dd,data,sl⟩,ho,hc,n,hd⟩:=id ht;obtain⟨⟨cls2,dd2,data2,sl2⟩,ho2,hc2,n2,hd2⟩:=id hb;simp only at hc hd hc2 hd2;subst hc hd hc2 hd2;have e:vs.toArray++ws.toArray=(vs++ws).toArray:=by simp
 by_cases hw:ws=[]
 .exact concat_meets ⟨_,ho,rfl⟩ ⟨_,ho2,rfl⟩ cY seq_tuple_add uc5 ub7 (ub4 _ _)
   (tuple_addW1 t b vs.toArray ws.toArray n n2 dd dd2 sl sl2 (by simpa using hv) (by simp[hw])) ⟨ho,ho2,h1 hw⟩
 .refine concat_meets ⟨_,ho,rfl⟩ ⟨_,ho2,rfl⟩ cY seq_tuple_add uc5 ub7 (ub4 _ _)
   (tuple_addW2 t b vs.toArray ws.toArray n n2 dd dd2 sl sl2 (by simpa using hv) (by simpa using hw) (by rw[uh5,uh5];exact hsz)) ⟨ho,ho2,?_⟩
  rw[e];exact h2 hw
noncomputable def sIx(n d:Nat):Option Int->Nat
 |none=>d
 |some v=>if v<0 then(v+(n:Int)).toNat else min v.toNat n
theorem MG(n d k:Nat):sIx n d (some (k:Int))=min k n:=by
 show(if (k:Int)<0 then((k:Int)+(n:Int)).toNat else min (k:Int).toNat n)=min k n;rw[eC ∅,uh8]
theorem XJ(n d:Nat)(hd:d<=n)(o:Option Int):sIx n d o<=n:=by
 cases o with
 |none=>exact hd
 |some v=>
   show(if v<0 then(v+(n:Int)).toNat else min v.toNat n)<=n
   by_cases hv:v<0
   .rw[eB hv];lia
   .rw[eC hv];exact Nat.min_le_right _ _
theorem Me(v:Int)(n d:Nat):(if v<0 then max (v+(n:Int)) 0 else min v (n:Int))=((sIx n d (some v):Nat):Int):=by
 show(if v<0 then max (v+(n:Int)) 0 else min v (n:Int))=(((if v<0 then(v+(n:Int)).toNat else min v.toNat n):Nat):Int)
 by_cases hv:v<0
 .simp only[eB hv];lia
 .simp only[eC hv];lia
theorem Na(lo hi:Option Int)(n:Nat):Builtin.Slice.sliceAdjust lo hi 1 (n:Int)=(((sIx n 0 lo:Nat):Int),((sIx n n hi:Nat):Int)):=by
 have h1:¬((1:Int)<0):=by lia
 unfold Builtin.Slice.sliceAdjust;simp only[h1,dR];refine dS ?_ ?_
 .cases lo with
  |none=>rfl
  |some v=>exact Me v n 0
 .cases hi with
  |none=>rfl
  |some v=>exact Me v n n
theorem NE(i j:Nat):Builtin.Slice.slicePlaces (i:Int) (j:Int) 1=j-i:=by
 unfold Builtin.Slice.slicePlaces;have h1:(1:Int) > 0:=by lia
 simp only[h1,d7,Int.ediv_one]
 split<;>lia
theorem IH{v:bP}{o:Option Int}{Q:Option Int->bR->Prop}(p:IsPart v o)(h:Q o s):wpAny (model prog w) A (Builtin.Slice.slicePartIndex v) Q E s:=by
 cases p with
 |none=>exact slicePart_none h
 |int i t=>exact slicePart_int h
theorem EG{sl:bQ}{vl vu:bP}{lo hi:Option Int}{n:Nat}{Q:Int×Int×Nat->bR->Prop}(hs:s.heap.IsSliceOf sl vl vu .none)(pl:IsPart vl lo)(pu:IsPart vu hi)
 (h:Q (((sIx n 0 lo:Nat):Int),1,sIx n n hi-sIx n 0 lo) s):wpAny (model prog w) A (Builtin.Slice.sliceApplied (.ref sl) (pure (n:Int))) Q E s:=by
 clear 5(id hs)os hos hcs hds;unfold Builtin.Slice.sliceApplied Builtin.Slice.sliceFields;refine ur4 (ur4 (wpAny_field hos hds (x:=vl) rfl (ur4 (wpAny_field hos hds (x:=vu) rfl (ur4 (wpAny_field hos hds (x:=.none) rfl (ur5 ?_)))))));refine ur4 (slicePart_none ?_);show wpAny _ _ (if ((1:Int)==0)=true then _ else _) _ _ s;rw[eC (by decide)];refine ur4 (IH pl (ur4 (IH pu (ur4 (ur5 ?_)))));show wpAny _ _ (match Builtin.Slice.sliceAdjust lo hi 1 (n:Int) with|(lo,hi)=>pure (lo,(1:Int),Builtin.Slice.slicePlaces lo hi 1)) _ _ s;rw[Na lo hi n];show wpAny _ _ (pure (((sIx n 0 lo:Nat):Int),(1:Int),Builtin.Slice.slicePlaces ((sIx n 0 lo:Nat):Int) ((sIx n n hi:Nat):Int) 1)) _ _ s;rw[NE];exact ur5 h
theorem Rg(xs:Array bP)(i k:Nat):((List.range k).filterMap λ(m:Nat)=>xs[((i:Int)+(m:Int)*1).toNat]?).toArray=((xs.toList.drop i).take k).toArray:=by
 have e:(λ(m:Nat)=>xs[((i:Int)+(m:Int)*1).toNat]?)=λm=>xs[i+m]?:=by
  funext m
  have:((i:Int)+(m:Int)*1).toNat=i+m:=by lia
  rw[this]
 rw[e];have:=pick_run xs i k;rw[List.filterMap_map] at this;have e2:((λx=>xs[x]?) ∘ λx=>i+x)=λm=>xs[i+m]?:=rfl;rw[e2] at this;rw[this]
theorem Hg{t sl:bQ}{items:Array bP}{vl vu:bP}{lo hi:Option Int}{Q:bP->bR->Prop}(ht:IsTup s.heap t items)(hs:s.heap.IsSliceOf sl vl vu .none)(pl:IsPart vl lo)(pu:IsPart vu hi)
 (hw:¬(sIx items.size 0 lo=0/\sIx items.size items.size hi=items.size))
 (h:Q (.ref s.heap.objs.size) {s with heap:=s.heap.push {cls:=.type "tuple",data:=.seq ((items.toList.drop (sIx items.size 0 lo)).take (sIx items.size items.size hi-sIx items.size 0 lo)).toArray} })
 (hsz:items.size<=sizeLine):wpAny (model prog w) A (getItem (.ref t) (.ref sl)) Q E s:=by
 have htake:sizeOk (.seq ((items.toList.drop (sIx items.size 0 lo)).take (sIx items.size items.size hi-sIx items.size 0 lo)).toArray):=by
  show((items.toList.drop (sIx items.size 0 lo)).take (sIx items.size items.size hi-sIx items.size 0 lo)).toArray.size<=sizeLine;rw[uh5,uj5,uj6,uf7];lia
 have hj:sIx items.size items.size hi<=items.size:=XJ _ _ (uq9 _) hi;clear 5(id hs)os hos hcs hds;have hTs:s.TypeIs (.ref sl) "slice":=⟨os,hos,hcs⟩;unfold getItem
 try with_reducible refine up3 ?_
 first|refine ur4 (ur5 ?_)|skip
 refine ur4 (wpAny_sequenceKey ht.typeIs (by decide) ?_);refine ur4 (wpAny_callSpecial?_slot (name:=Str.ofString "__getitem__") ht.typeIs ua0
  (cZ ua0 ht.typeIs entry_tuple_getitem ?_ (args_tuple_getitem _ _)))
 show wpAny _ _ (Builtin.Tuple.tupleItemsOf (.ref t) >>= _) _ _ s;refine ur4 (tupleItemsOf_ ht ?_);refine ur4 (wpAny_typeOf hTs ?_);rw[eB (by decide)];refine ur4 (EG hs pl pu ?_);have hno:¬((((sIx items.size 0 lo:Nat):Int)==0&&(1:Int)==1&&(sIx items.size items.size hi-sIx items.size 0 lo)==items.size)=true):=by
  intro q;rw[uj7,uj7] at q;have q1:((sIx items.size 0 lo:Nat):Int)=0:=eq_of_beq q.1.1;have q2:sIx items.size items.size hi-sIx items.size 0 lo=items.size:=eq_of_beq q.2;exact hw ⟨by lia,by lia⟩
 show wpAny _ _ (if (((sIx items.size 0 lo:Nat):Int)==0&&(1:Int)==1&&(sIx items.size items.size hi-sIx items.size 0 lo)==items.size)=true then _ else _) _ _ s;rw[eC hno,Rg]
 first
  |exact ur4 (m:=Builtin.Tuple.tupleExact _) (cU (ur5 ⟨_,rfl,ur5 h⟩) htake)
  |exact ur4 (m:=Builtin.Tuple.tupleExact _) (cU (ur4 (ur5 (ur5 ⟨_,rfl,ur5 h⟩))) htake)
  |exact ur4 (ur4 (m:=Builtin.Tuple.tupleExact _) (cU (ur5 (ur5 ⟨_,rfl,ur5 h⟩)) htake))
  |exact ur4 (ur4 (m:=Builtin.Tuple.tupleExact _) (cU (ur5 ⟨_,rfl,ur5 h⟩) htake))
end
end HT
namespace L2
open PySem PySem.Spec PyProof.Rows
abbrev TO:=St->Hp->(Option Int->Hp->Prop)->Prop
def PO(X:Cx)(e:Option Expr)(t:TO):Prop:=
 ∀(bO:List (bQ×Obj)) (s:bR) (σ:St) (H:Hp) (Q:Option Int->Hp->Prop),Inv X bO σ H s->t σ H Q->
  wpAny (model X.prog X.w) X.A (evalPart e X.env) (λu s'=>∃o H',Inv X bO σ H' s'/\IsPart u o/\Q o H') X.xe s
def VC:TO:=λ_ H Q=>Q none H
def YN(t:TE):TO:=λσ H Q=>t σ H λx H1=>∃i,x=.int i/\Q (some i) H1
theorem Ir{ns:List Int}:∀{us:List bP},Vals (ns.map V.int) us->IntsAre us ns:=by
 induction ns with
 |nil=>intro us r;rw[up9] at r;cases r;exact .nil
 |cons n ns ih=>
   intro us r;rw[uo6] at r
   cases r with
   |cons r1 r2=>
     clear 5 r1 t e;subst e;exact .cons n t (ih r2)
section
variable{X:Cx}{e:Expr}{te:TE}{lo hi:Option Expr}{tl th:TO}{pos p2:Pos}
theorem UU:PO X none VC:=by
 intro bO s σ H Q I h;rw[evalPart_none];exact ur5 ⟨none,H,I,.none,h⟩
theorem UV(h:PE X e te):PO X (some e) (YN te):=by
 intro bO s σ H Q I hw;rw[evalPart_some];refine thn (h bO s σ H _ I hw) λu s1 z9=>?_;clear 5 z9 x H1 I1 r1 q1;clear 5 q1 i rfl q;clear 5 r1 t rfl;exact⟨some i,H1,I1,.int i t,q⟩
def SlR(X:Cx)(r:V->Option Int->Option Int->Hp->VK->Prop):Prop:=
 ∀(bO:List (bQ×Obj)) (s:bR) (σ:St) (H:Hp) (x:V) (v vl vu:bP) (lo hi:Option Int) (sl:bQ) (Q:VK),Inv X bO σ H s->RelV x v->s.heap.IsSliceOf sl vl vu .none->IsPart vl lo->IsPart vu hi->r x lo hi H Q->
  ∃T id,typeLookup (.type T) "__getitem__" = pure (some (.builtin id))/\s.TypeIs v T/\wpAny (model X.prog X.w) X.A (getItem v (.ref sl)) (EP X bO σ Q) X.xe s
theorem SlR.or{r r':V->Option Int->Option Int->Hp->VK->Prop}(h:SlR X r)(h':SlR X r'):SlR X (λx lo hi H Q=>r x lo hi H Q\/r' x lo hi H Q):=by
 intro bO s σ H x v vl vu lo hi sl Q I rx hs pl pu q;rcases q with q|q
 .exact h bO s σ H x v vl vu lo hi sl Q I rx hs pl pu q
 .exact h' bO s σ H x v vl vu lo hi sl Q I rx hs pl pu q
def tSl(r:V->Option Int->Option Int->Hp->VK->Prop)(te:TE)(tl th:TO):TE:=λσ H Q=>te σ H λx H1=>tl σ H1 λl H2=>th σ H2 λu H3=>r x l u H3 Q
theorem K9{r:V->Option Int->Option Int->Hp->VK->Prop}(hr:SlR X r)(he:PE X e te)(hl:PO X lo tl)(hu:PO X hi th):PE X (.Subscript e (.Slice lo hi none p2) pos) (tSl r te tl th):=by
 intro bO s σ H Q I h;refine Subscript_ (thn (he bO s σ H _ I h) λv s1 z9=>?_);clear 5 z9 x H1 I1 r1 q1;refine wpAny_Slice (thn (hl bO s1 σ H1 _ I1 q1) λvl s2 ⟨l,H2,I2,pl,q2⟩=>thn (hu bO s2 σ H2 _ I2 q2) λvu s3 z9=>?_);clear 5 z9 u H3 I3 pu q3;rw[evalPart_none];refine ur5 ?_;have I4:Inv X bO σ H3 {s3 with heap:=s3.heap.push {cls:=.type "slice",data:=.fields #[vl,vu,.none]} }:=I3.kept (t':=s3.toks) λb ob q=>uc4 _ q;clear 5(hr bO {s3 with heap:=s3.heap.push {cls:=.type "slice",data:=.fields #[vl,vu,.none]} } σ H3 x v vl vu l u s3.heap.objs.size Q I4 r1 (Heap.IsSliceOf.new ..) pl pu q3)T id hT ht hg;show wpAny (model X.prog X.w) X.A (subscriptTail e (.Slice lo hi none p2) v (.ref s3.heap.objs.size)) (EP X bO σ Q) X.xe {s3 with heap:=s3.heap.push {cls:=.type "slice",data:=.fields #[vl,vu,.none]} };exact tail_any (ops:=[.ref s3.heap.objs.size,v]) ht hT hg (by with_unfolding_all rfl)
def FM(xs:List V)(lo hi:Option Int):List V:=(xs.drop (HT.sIx xs.length 0 lo)).take (HT.sIx xs.length xs.length hi-HT.sIx xs.length 0 lo)
theorem Hj(xs:List V)(lo hi:Option Int):(FM xs lo hi).length<=xs.length:=by
 unfold FM;rw[uj5,uj6];lia
def XF(K:bN):V->Option Int->Option Int->Hp->VK->Prop:=λx lo hi H Q=>∃a xs,x=.ref a/\SqT K H a xs/\
 ¬(HT.sIx xs.length 0 lo=0/\HT.sIx xs.length xs.length hi=xs.length)/\∀p,H p=none->Q (.ref p) (upd H p (.tup (FM xs lo hi)))
theorem XS:SlR X (XF X.K):=by
 intro bO s σ H x v vl vu lo hi sl Q I rx hs pl pu h;clear 5 h a xs rfl hx hw q
 cases rx
 clear 5(I.tuple hx)its r ht hz;have hlen:its.toArray.size=xs.length:=by rw[uh5];exact r.length.symm
 refine⟨"tuple",_,ua0.lookup,ht.typeIs,?_⟩;refine HT.Hg ht hs pl pu (by rw[hlen];exact hw) ?_ (by rw[hlen];exact hz);rw[hlen];refine⟨.ref s.heap.objs.size,_,I.laid (t':=s.toks) (o:=.tup (FM xs lo hi)) (λb ob q=>uc4 _ q) (uq9 _) ?_,rfl,q _ (I.hok.fresh (uq9 _))⟩;exact⟨up6 (Hj xs lo hi) hz,_,(r.drop (HT.sIx xs.length 0 lo)).take (HT.sIx xs.length xs.length hi-HT.sIx xs.length 0 lo),IsTup.new _ _⟩
def Ta(K:bN):R2:=λx y H Q=>∃a b xs ys,x=.ref a/\y=.ref b/\SqT K H a xs/\SqT K H b ys/\xs≠[]/\xs.length+ys.length<=sizeLine/\
 (ys=[]->Q (.ref a) H)/\(ys≠[]->∀p,H p=none->Q (.ref p) (upd H p (.tup (xs++ys))))
theorem Vals.nil_iff{xs:List V}{us:List bP}(r:Vals xs us):us=[]↔xs=[]:=by
 cases r with
 |nil=>simp
 |cons _ _=>simp
theorem UD:OpR X (binaryOp .Add) (Ta X.K):=by
 intro bO s σ H x y v u Q I rx ry h;clear 5 h a b xs ys rfl rfl ha hb hx hz q1 q2
 cases rx
 cases ry
 obtain⟨its,r1,p1,_⟩:=I.tuple ha;obtain⟨its2,r2,p2,_⟩:=I.tuple hb;refine HT.TD p1 p2 (λz=>hx (r1.nil_iff.mp z)) (λz=>⟨.ref a,H,I,rfl,q1 (r2.nil_iff.mp z)⟩) (λz=>?_) (by rw[<-r1.length,<-r2.length];exact hz);refine⟨.ref s.heap.objs.size,_,I.laid (t':=s.toks) (o:=.tup (xs++ys)) (λb ob q=>uc4 _ q) (uq9 _) ?_,rfl,q2 (λw=>z (r2.nil_iff.mpr w)) _ (I.hok.fresh (uq9 _))⟩;exact⟨by rw[ug7];exact hz,_,r1.append r2,IsTup.new _ _⟩
end
noncomputable def ixN(n:Nat)(i:Int):Option Nat:=if 0<=i then(if i<n then some i.toNat else none) else if -(n:Int)<=i then some (i+n).toNat else none
def atI{α:Type}(xs:List α)(i:Int):Option α:=(ixN xs.length i).bind λj=>xs[j]?
section
variable{n:Nat}
theorem Mp{i:Int}{j:Nat}(h:ixN n i=some j):seqIndex? i n=some j/\j<n/\-(n:Int)<=i/\i<n:=by
 unfold ixN at h
 by_cases h0:0<=i
 .rw[eB h0] at h
  by_cases h1:i<n
  .rw[eB h1] at h;have e:i.toNat=j:=ul9 h;exact⟨by rw[seqIndex_of h0 h1,e],by lia,by lia,h1⟩
  .rw[eC h1] at h;cases h
 .rw[eC h0] at h
  by_cases h1 : -(n:Int)<=i
  .rw[eB h1] at h;have e:(i+n).toNat=j:=ul9 h;exact⟨by rw[seqIndex_neg ∅ h1,e],by lia,h1,by lia⟩
  .rw[eC h1] at h;cases h
variable{α:Type}
theorem IW{xs:List α}{i:Int}{v:α}(h:atI xs i=some v):∃j,seqIndex? i xs.length=some j/\xs[j]?=some v/\j<xs.length/\-(xs.length:Int)<=i/\i<xs.length:=by
 unfold atI at h
 cases e:ixN xs.length i with
 |none=>rw[e] at h;cases h
 |some j=>
   rw[e] at h;clear 5(Mp e)h1 h2 h3 h4;exact⟨j,h1,h,h2,h3,h4⟩
def L8(b:Expr):Prop:=∀o i,subscripted b false o i=operate [o,i] (getItem o i)
def IxR(X:Cx)(r:R2):Prop:=
 ∀(value slice:Expr) (bO:List (bQ×Obj)) (s:bR) (σ:St) (H:Hp) (x y:V) (v u:bP) (Q:VK),Inv X bO σ H s->RelV x v->RelV y u->r x y H Q->
  subscripted slice false v u=operate [v,u] (getItem v u)->wpAny (model X.prog X.w) X.A (subscriptTail value slice v u) (EP X bO σ Q) X.xe s
def MtR(X:Cx)(id:String)(r:V->List V->Hp->VK->Prop):Prop:=
 ∀(bO:List (bQ×Obj)) (s:bR) (σ:St) (H:Hp) (x:V) (xs:List V) (v:bP) (us:List bP) (Q:VK),Inv X bO σ H s->RelV x v->Vals xs us->r x xs H Q->
  wpAny (model X.prog X.w) X.A (call (.builtin id) (v::us)) (EP X bO σ Q) X.xe s
variable{s:bR}{its:List bP}{x:V}
section
variable{X:Cx}{a b:Expr}{ta tb:TE}{pos:Pos}
theorem IxR.or{r r':R2}(h:IxR X r)(h':IxR X r'):IxR X (λx y H Q=>r x y H Q\/r' x y H Q):=by
 intro value slice bO s σ H x y v u Q I rx ry q hs;rcases q with q|q
 .exact h value slice bO s σ H x y v u Q I rx ry q hs
 .exact h' value slice bO s σ H x y v u Q I rx ry q hs
theorem Yz{r:R2}(hr:IxR X r)(ha:PE X a ta)(hb:PE X b tb)(hs:L8 b):PE X (.Subscript a b pos) (tOp r ta tb):=by
 intro bO s σ H Q I h;exact Subscript_ (Qg ha hb I h λv u s2 x y H2 I2 rx ry q=>hr a b bO s2 σ H2 x y v u Q I2 rx ry q (hs _ _))
def Xz(K:bN):R2:=λx y H Q=>∃p xs i v,x=.ref p/\y=.int i/\SqL K H p xs/\atI xs i=some v/\Q v H
def XB(K:bN):R2:=λx y H Q=>∃p xs i v,x=.ref p/\y=.int i/\SqT K H p xs/\atI xs i=some v/\Q v H
def XA:R2:=λx y H Q=>∃z i c,x=.str z/\y=.int i/\z.length<=sizeLine/\atI z.cps.toList i=some c/\Q (.str ⟨#[c]⟩) H
theorem ix_list:IxR X (Xz X.K):=by
 intro value slice bO s σ H x y v u Q I rx ry h hs;clear 5 h p xs i z rfl rfl hq he q
 cases rx
 clear 5 ry t rfl;clear 5(I.list hq)its r pl hz;clear 5(IW he)j h1 h2 h3 h4 h5;clear 5(r.get h2)w ew rw';have hl:=r.length;have hn:=Fi;have fin:EP X bO σ Q w s:=⟨z,H,I,rw',q⟩
 by_cases h0:0<=i
 .have hj:i.toNat=j:=by
   rw[seqIndex_of h0 h5] at h1;exact ul9 h1
  exact item_listR pl.isList h0 ∅ (by rw[hj];simpa using ew) fin hs
 .have hj:(i+(its.toArray.size:Int)).toNat=j:=by
   rw[seqIndex_neg ∅ h4] at h1;rw[uh5,<-hl];exact ul9 h1
  exact subscriptTail_builtinR (x:=w) pl.isList.typeIs slot_list_getitem.lookup
   (wpAny_getItem_list_neg (Q:=λr s'=>r=w/\EP X bO σ Q r s') pl.isList ∅ (by rw[uh5]<;>lia) ∅ (by rw[hj];simpa using ew) ⟨rfl,fin⟩) hs
theorem ix_tup:IxR X (XB X.K):=by
 intro value slice bO s σ H x y v u Q I rx ry h hs;clear 5 h p xs i z rfl rfl hq he q
 cases rx
 clear 5 ry t rfl;clear 5(I.tuple hq)its r pl hz;clear 5(IW he)j h1 h2 h3 h4 h5;clear 5(r.get h2)w ew rw';have hl:=r.length;have hn:=Fi;have fin:EP X bO σ Q w s:=⟨z,H,I,rw',q⟩;exact subscriptTail_builtinR (x:=w) pl.typeIs slot_tuple_getitem.lookup
  (getItem_tuple (j:=j) (Q:=λr s'=>r=w/\EP X bO σ Q r s') pl ∅ ∅ (by rw[uh5,<-hl];exact h1) (by simpa using ew) ⟨rfl,fin⟩) hs
theorem WJ:IxR X XA:=by
 intro value slice bO s σ H x y v u Q I rx ry h hs;clear 5 h z i c rfl rfl hz he q;clear 5 rx t rfl;clear 5 ry t' rfl;clear 5(IW he)j h1 h2 h3 h4 h5;have hl:z.cps.toList.length=z.length:=by simp[Str.length]
 rw[hl] at h1 h4 h5;have hn:=Fi;exact tail_any (typeIs_str s z t) slot_str_getitem.lookup (getItem_str (c:=c) (by
  have e1:decide (i < -(2 ^ 63:Int))=false:=un7 ∅;have e2:decide (i ≥ 2 ^ 63)=false:=un7 ∅;rw[e1,e2,Bool.or_false]) (by rw[h1];simpa using h2) ⟨.str ⟨#[c]⟩,H,I.tok _,⟨_,rfl⟩,q⟩) hs
def rIx(K:bN):R2:=λx y H Q=>Xz K x y H Q\/XB K x y H Q\/XA x y H Q
theorem WI:IxR X (rIx X.K):=ix_list.or (ix_tup.or WJ)
theorem Nw(its:List bP)(n j:Nat)(u:bP):Obj.mapSeq (·.setIfInBounds j u) {cls:=.type "list",data:=.seq its.toArray n} = {cls:=.type "list",data:=.seq (its.set j u).toArray n}:=by
 simp[Obj.mapSeq]
theorem Inv.lst{bO:List (bQ×Obj)}{σ:St}{H:Hp}{s:bR}{p:bQ}{xs:List V}(I:Inv X bO σ H s)(h:H p=some (.lst xs)) :
 ∃(its:List bP) (n:Nat),Vals xs its/\s.heap.get? p=some {cls:=.type "list",data:=.seq its.toArray n}/\xs.length<=sizeLine:=by
 clear 5(I.hok p _ h)z its n r e;exact⟨its,n,r,e,z⟩
theorem Inv.lstUpd{bO:List (bQ×Obj)}{σ:St}{H:Hp}{p:bQ}{xs ys:List V}{its':List bP}{n':Nat}{f:Obj->Obj}(I:Inv X bO σ H s)(h:H p=some (.lst xs))
 (ho:s.heap.get? p=some {cls:=.type "list",data:=.seq its.toArray n}) (hf:f {cls:=.type "list",data:=.seq its.toArray n} = {cls:=.type "list",data:=.seq its'.toArray n'}) (r:Vals ys its') (hz:ys.length<=sizeLine) (t:Nat) :
 Inv X bO σ (upd H p (.lst ys)) {s with heap:=s.heap.update p f,toks:=t}:=by
 have e:(s.heap.update p f).get? p=some {cls:=.type "list",data:=.seq its'.toArray n'}:=by
  rw[Heap.get?_update_self f ho (by rw[hf]<;>rfl),hf]
 refine I.write (x:=p) (e:=p) (by rw[h];trivial) (.inl rfl) (λb u hb q=>(Heap.get?_update_other _ _ (Ne.symm hb)).trans q) ⟨_,e⟩ ?_;exact⟨hz,its',n',r,e⟩
def YF:V->V->V->Hp->(Hp->Prop)->Prop:=λo i v H Q=>∃p xs k j,o=.ref p/\i=.int k/\H p=some (.lst xs)/\ixN xs.length k=some j/\Q (upd H p (.lst (xs.set j v)))
theorem RZ:M3 X YF:=by
 intro bO s σ H o i v ov iv u Q I ro ri rv h;clear 5 h p xs k j rfl rfl hp hj q
 cases ro
 clear 5 ri t rfl;clear 5(I.lst hp)its n r ho hz;clear 5(Mp hj)h1 h2 h3 h4;have hl:=r.length;have hn:=Fi;have I':Inv X bO σ (upd H p (.lst (xs.set j v))) {s with heap:=s.heap.update p (Obj.mapSeq (·.setIfInBounds j u))}:=
  I.lstUpd hp ho (Nw its n j u) (r.set rv j) (by rw[um7];exact hz) s.toks
 by_cases h0:0<=k
 .have hk:k.toNat=j:=by
   rw[seqIndex_of h0 h4] at h1;exact ul9 h1
  exact PySem.W.ki_setAt ho h0 ∅ (by rw[uh5,<-hl];exact h4) (by rw[hk];exact⟨_,I',q⟩)
 .have hk:(k+(its.toArray.size:Int)).toNat=j:=by
   rw[seqIndex_neg ∅ h3] at h1;rw[uh5,<-hl];exact ul9 h1
  exact PySem.W.ki_setBack ho ∅ (by rw[uh5,<-hl];exact h3) ∅ (by rw[hk];exact⟨_,I',q⟩)
theorem Lv(lo hi:Option Int)(n:Nat):(sliceBounds lo hi none n).1=((HT.sIx n 0 lo:Nat):Int)/\(sliceBounds lo hi none n).2.1=((HT.sIx n n hi:Nat):Int)/\(sliceBounds lo hi none n).2.2=1:=by
 refine⟨?_,?_,rfl⟩
 .cases lo with
  |none=>simp[sliceBounds,HT.sIx]
  |some i=>
    simp only[sliceBounds,HT.sIx,Option.getD_none,show(1:Int) > 0 by decide,d7]
    by_cases h:i<0
    .simp only[h,d7]<;>lia
    .simp only[h,dR]<;>lia
 .cases hi with
  |none=>simp[sliceBounds,HT.sIx]
  |some i=>
    simp only[sliceBounds,HT.sIx,Option.getD_none,show(1:Int) > 0 by decide,d7]
    by_cases h:i<0
    .simp only[h,d7]<;>lia
    .simp only[h,dR]<;>lia
theorem J4(its:List bP)(lo hi:Option Int):slicePick its.toArray lo hi none=((its.drop (HT.sIx its.length 0 lo)).take (HT.sIx its.length its.length hi-HT.sIx its.length 0 lo)).toArray:=by
 clear 5(Lv lo hi its.toArray.size)h1 h2 h3;unfold slicePick;rw[h1,h2,h3];simp only[sliceRange_one,pick_run,uh5]<;>rfl
def XC(K:bN):V->Option Int->Option Int->Hp->VK->Prop:=λx lo hi H Q=>∃a xs,x=.ref a/\SqL K H a xs/\∀p,H p=none->Q (.ref p) (upd H p (.lst (FM xs lo hi)))
theorem sl_list:SlR X (XC X.K):=by
 intro bO s σ H x v vl vu lo hi sl Q I rx hs pl pu h;clear 5 h a xs rfl hx q
 cases rx
 clear 5(I.list hx)its r ht hz;have hlen:=r.length;refine⟨"list",_,slot_list_getitem.lookup,ht.isList.typeIs,?_⟩;refine wpAny_getItem_list_slice ht.isList hs pl pu .none (by simp) ?_ (by rw[uh5]<;>lia);rw[J4,<-hlen];refine⟨.ref s.heap.objs.size,_,I.laid (t':=s.toks) (o:=.lst (FM xs lo hi)) (λb ob q=>uc4 _ q) (uq9 _) ?_,rfl,q _ (I.hok.fresh (uq9 _))⟩;exact⟨up6 (Hj xs lo hi) hz,_,0,(r.drop (HT.sIx xs.length 0 lo)).take (HT.sIx xs.length xs.length hi-HT.sIx xs.length 0 lo),uf8 _ rfl⟩
noncomputable def D9:V->Bool
 |.non=>true
 |.bl _=>true
 |.int _=>true
 |.str _=>true
 |_=>false
noncomputable def eqV:V->V->Bool
 |.non,.non=>true
 |.bl a,.bl b=>a==b
 |.bl a,.int b=>(if a then 1 else 0)==b
 |.int a,.bl b=>a==(if b then 1 else 0)
 |.int a,.int b=>a==b
 |.str a,.str b=>a==b
 |_,_=>false
theorem Wg{A:Around}{y:V}{u v:bP}(ry:RelV y u)(rx:RelV x v)(fy:D9 y=true)(fx:D9 x=true):SeqAt.EqAt A s u v (eqV y x):=by
 cases y with
 |non=>
   cases ry
   cases x with
   |non=>cases rx;exact SeqAt.EqAt.same _
   |bl b=>cases rx;exact SeqAt.EqAt.none_bool b
   |int b=>clear 5 rx t rfl;exact SeqAt.EqAt.none_int b t
   |str b=>clear 5 rx t rfl;exact SeqAt.EqAt.none_str b t
   |_=>exact absurd (show false=true from fx) ug6
 |bl a=>
   cases ry
   cases x with
   |non=>cases rx;exact SeqAt.EqAt.bool_none a
   |bl b=>cases rx;exact SeqAt.EqAt.bool_bool a b
   |int b=>clear 5 rx t rfl;exact SeqAt.EqAt.bool_int a b t
   |str b=>clear 5 rx t rfl;exact SeqAt.EqAt.bool_str a b t
   |_=>exact absurd (show false=true from fx) ug6
 |int a=>
   clear 5 ry t' rfl
   cases x with
   |non=>cases rx;exact SeqAt.EqAt.int_none a t'
   |bl b=>cases rx;exact SeqAt.EqAt.int_bool a t' b
   |int b=>clear 5 rx t rfl;exact SeqAt.EqAt.int_int a t' b t
   |str b=>clear 5 rx t rfl;exact SeqAt.EqAt.int_str a t' b t
   |_=>exact absurd (show false=true from fx) ug6
 |str a=>
   clear 5 ry t' rfl
   cases x with
   |non=>cases rx;exact SeqAt.EqAt.str_none a t'
   |bl b=>cases rx;exact SeqAt.EqAt.str_bool a t' b
   |int b=>clear 5 rx t rfl;exact SeqAt.EqAt.str_int a t' b t
   |str b=>clear 5 rx t rfl;exact SeqAt.EqAt.str_str a t' b t
   |_=>exact absurd (show false=true from fx) ug6
 |_=>exact absurd (show false=true from fy) ug6
def eqU(x:V)(u:bP):Bool:=match u with
 |.none=>eqV .non x
 |.bool b=>eqV (.bl b) x
 |.int i _=>eqV (.int i) x
 |.str z _=>eqV (.str z) x
 |_=>false
theorem Os{y:V}{u:bP}(r:RelV y u)(f:D9 y=true):eqU x u=eqV y x:=by
 cases y with
 |non=>cases r;rfl
 |bl b=>cases r;rfl
 |int i=>clear 5 r t rfl;rfl
 |str z=>clear 5 r t rfl;rfl
 |_=>exact absurd (show false=true from f) ug6
theorem IU{x:V}:∀{xs:List V}{us:List bP},Vals xs us->xs.all D9=true->us.any (eqU x)=xs.any λy=>eqV y x
 |_,_,.nil,_=>rfl
 |y::xs,u::us,.cons r t,f=>by
   rw[uo7,uj7] at f;rw[uo8,uo8,Os r f.1,IU t f.2]
theorem HB{A:Around}{s:bR}{x:V}{v:bP}(rx:RelV x v)(fx:D9 x=true):∀{xs:List V}{us:List bP},Vals xs us->xs.all D9=true->∀u∈us,SeqAt.EqAt A s u v (eqU x u)
 |_,_,.nil,_=>λu hu=>by cases hu
 |y::xs,u::us,.cons r t,f=>λu' hu=>by
   rw[uo7,uj7] at f;rcases uo5.mp hu with rfl|hu
   .rw[Os r f.1];exact Wg r rx f.1 fx
   .exact HB rx fx t f.2 u' hu
def inV(x:V)(xs:List V):Bool:=xs.any λy=>eqV y x
def rIn(K:bN)(neg:Bool):R2:=λx y H Q=>∃p xs,y=.ref p/\(SqL K H p xs\/SqT K H p xs)/\D9 x=true/\xs.all D9=true/\Q (.bl (if neg then !inV x xs else inV x xs)) H
theorem K4:OpR X (compareOp .NotIn) (rIn X.K true):=by
 intro bO s σ H x y v u Q I rx ry h;clear 5 h p xs rfl hq fx fs q
 cases ry
 rcases hq with hq|hq
 .clear 5(I.list hq)its r pl hz;refine SeqAt.notIn_listAt (eqU x) pl.isList (λw hw=>HB rx fx r fs w (by simpa using hw)) ⟨.bl _,H,I,rfl,?_⟩;rw[show its.toArray.any (eqU x)=its.any (eqU x) by simp,IU r fs];exact q
 .clear 5(I.tuple hq)its r pl hz;refine SeqAt.notIn_tupleAt (eqU x) pl (λw hw=>HB rx fx r fs w (by simpa using hw)) ⟨.bl _,H,I,rfl,?_⟩;rw[show its.toArray.any (eqU x)=its.any (eqU x) by simp,IU r fs];exact q
theorem Ku:Bs X (.builtin "len") (λxs H Q=>∃p ys,xs=[.ref p]/\(SqL X.K H p ys\/SqT X.K H p ys)/\Q (.int ys.length) H):=by
 intro bO s σ H xs us Q I r h;clear 5 h p ys rfl hq q;clear 5(Dx r)u rfl rx
 cases rx
 have hn:=Fi;rcases hq with hq|hq
 .clear 5(I.list hq)its r' pl hz;have hlen:=r'.length;exact Calls.call_len_list pl.isList (by simp only[uh5]<;>lia) ⟨.int ys.length,H,I.tok _,⟨s.toks+1,by rw[uh5,hlen]⟩,q⟩
 .clear 5(I.tuple hq)its r' pl hz;have hlen:=r'.length;exact len_tuple pl (by simp only[uh5]<;>lia) ⟨.int ys.length,H,I.tok _,⟨s.toks+1,by rw[uh5,hlen]⟩,q⟩
theorem Kv:Bs X (.type "list") (λxs H Q=>∃p ys,xs=[.ref p]/\(SqL X.K H p ys\/SqT X.K H p ys)/\∀l,H l=none->Q (.ref l) (upd H l (.lst ys))):=by
 intro bO s σ H xs us Q I r h;clear 5 h p ys rfl hq q;clear 5(Dx r)u rfl rx
 cases rx
 have fin:∀(its:List bP),Vals ys its->ys.length<=sizeLine->∀(h':Heap) (c':Nat),(∀b o',s.heap.get? b=some o'->h'.get? b=some o')->
  h'.get? s.heap.objs.size=some {cls:=.type "list",dict:=none,data:=.seq its.toArray c',slots:=#[]}->EP X bO σ Q (.ref s.heap.objs.size) {s with heap:=h'}:=λits r' hz h' c' kp e=>
  ⟨.ref s.heap.objs.size,_,I.laid (t':=s.toks) kp (uq9 _) (show ObjOk X.prog X.w _ h' _ (.lst ys) from⟨hz,its,c',r',e⟩),rfl,q _ (I.hok.fresh (uq9 _))⟩
 rcases hq with hq|hq
 .clear 5(I.list hq)its r' pl hz;have hlen:=r'.length;clear 5 pl.isList o ho hc n hd;exact call_list_seq p (.inl rfl) ho hc hd (λh' c' kp e=>fin its r' hz h' c' kp e) (by simp only[uh5]<;>lia)
 .clear 5(I.tuple hq)its r' pl hz;have hlen:=r'.length;clear 5 pl o ho hc n hd;exact call_list_seq p (.inr rfl) ho hc hd (λh' c' kp e=>fin its r' hz h' c' kp e) (by simp only[uh5]<;>lia)
theorem J1:Bs X (.type "tuple") (λxs H Q=>∃p ys,xs=[.ref p]/\((SqL X.K H p ys/\∀l,H l=none->Q (.ref l) (upd H l (.tup ys)))\/(SqT X.K H p ys/\Q (.ref p) H))):=by
 intro bO s σ H xs us Q I r h;clear 5 h p ys rfl h;clear 5(Dx r)u rfl rx
 cases rx
 rcases h with⟨hq,q⟩|⟨hq,q⟩
 .clear 5(I.list hq)its r' pl hz;have hlen:=r'.length;refine call_tuple_list pl.isList (λh' kp=>?_) (by simp only[uh5]<;>lia);have I1:Inv X bO σ H {s with heap:=h'}:=I.kept (t':=s.toks) kp;have I2:Inv X bO σ (upd H h'.objs.size (.tup ys)) {s with heap:=h'.push {cls:=.type "tuple",data:=.seq its.toArray} }:=
   I1.laid (t':=s.toks) (λb o e=>uc4 _ e) (uq9 _) (show ObjOk X.prog X.w _ _ _ (.tup ys) from⟨hz,its,r',IsTup.new _ _⟩)
  exact⟨.ref h'.objs.size,_,I2,rfl,q _ (I1.hok.fresh (uq9 _))⟩
 .clear 5(I.tuple hq)its r' pl hz;exact call_tuple_same pl ⟨.ref p,H,I,rfl,q⟩
def tyV(K:bN)(T:String)(x:V)(H:Hp):Prop:=match x with
 |.str _=>T = "str"
 |.int _=>T = "int"
 | .ref p=>(T = "list"/\∃xs,SqL K H p xs)\/(T = "tuple"/\∃o,K.lookup p=some o/\o.cls = .type "tuple"/\o.dict=none)\/
    (T = "dict"/\((∃kvs,H p=some (.dK kvs))\/∃kvs,H p=some (.dT kvs)))\/(T = "set"/\∃S n,H p=some (.set S n))
 |_=>False
theorem P1{bO:List (bQ×Obj)}{σ:St}{H:Hp}{T:String}{v:bP}(I:Inv X bO σ H s)(r:RelV x v)(ty:tyV X.K T x H) :
 s.TypeIs v T/\∀a,v=.ref a->∃ob,s.heap.get? a=some ob/\ob.dict=none:=by
 cases x with
 |str z=>
   clear 5 r t rfl
   cases (show T = "str" from ty)
   exact⟨typeIs_str s z t,λ_ e=>nomatch e⟩
 |int i=>
   clear 5 r t rfl
   cases (show T = "int" from ty)
   exact⟨dI s i t,λ_ e=>nomatch e⟩
 |ref p=>
   cases r
   rcases ty with⟨rfl,xs,hq⟩|⟨rfl,o,hk,hc,hd⟩|⟨rfl,hk⟩|⟨rfl,S,n,hk⟩
   .obtain⟨its,_,pl,_⟩:=I.list hq;refine⟨pl.isList.typeIs,λa e=>?_⟩
    cases e
    obtain⟨o,n,e,c,hd,_⟩:=pl;exact⟨o,e,hd⟩
   .refine⟨⟨o,I.kIn p o hk,hc⟩,λa e=>?_⟩
    cases e
    exact⟨o,I.kIn _ o hk,hd⟩
   .have z:∃o,s.heap.get? p=some o/\o.ExactDict:=by
     rcases hk with⟨kvs,hk⟩|⟨kvs,hk⟩
     .obtain⟨_,_,_,_,o,_,_,e,ex,_⟩:=I.hok p _ hk;exact⟨o,e,ex⟩
     .obtain⟨_,_,_,_,o,_,_,e,ex,_⟩:=I.hok p _ hk;exact⟨o,e,ex⟩
    clear 5 z o e ex;refine⟨⟨o,e,ex.1⟩,λa e2=>?_⟩
    cases e2
    exact⟨o,e,ex.2.1⟩
   .obtain⟨o,_,_,_,e,ex,_⟩:=I.hok p _ hk;refine⟨⟨o,e,ex.1⟩,λa e2=>?_⟩
    cases e2
    exact⟨o,e,ex.2.1⟩
 |_=>exact False.elim ty
def ZP(K:bN)(T:String)(r:V->List V->Hp->VK->Prop)(to:TE):TE:=λσ H Q=>to σ H λx H1=>tyV K T x H1/\r x [] H1 Q
def tBM(K:bN)(T:String)(r:V->List V->Hp->VK->Prop)(to:TE)(t:TA):TE:=λσ H Q=>to σ H λx H1=>tyV K T x H1/\t σ H1 λxs H2=>r x xs H2 Q
variable{o e:Expr}{es:List Expr}{to:TE}{t:TA}{name:Str}{apos cpos:Pos}{T id:String}{r:V->List V->Hp->VK->Prop}
theorem Xe(pa:PlainAttrs T)(slot:Slot T name id)(hty:typeOf (.builtin id)=pure (.type "method_descriptor"))(hm:MtR X id r)(ho:PE X o to)
 (hbase:autoParam (attributeBase o name X.env (eval o X.env)=eval o X.env) q3T) (hline:autoParam ((apos.endLine==cpos.line)=true) q3T):PE X (.Call (.Attribute o name apos) [] [] cpos) (ZP X.K T r to):=by
 intro bO s σ H Q I h;refine wpAny_Call_method0_late hbase hline (thn (ho bO s σ H _ I h) λv s1 z9=>?_);clear 5 z9 x H1 I1 r1 ty q1;clear 5(P1 I1 r1 ty)h1 h2;exact⟨T,id,pa,slot,hty,h1,h2,Calls.callWith_builtin rfl (PySem.evalArgs_none (hm bO s1 σ H1 x [] v [] Q I1 r1 .nil q1))⟩
theorem IE(pa:PlainAttrs T)(slot:Slot T name id)(hty:typeOf (.builtin id)=pure (.type "method_descriptor"))(hm:MtR X id r)(ho:PE X o to)(ha:PA X (e::es) t)
 (hbase:autoParam (attributeBase o name X.env (eval o X.env)=eval o X.env) q3T)
 (hfew:((backTo cpos (starEach (e :: es) X.env)).all (λx=>!x.1) && (backToKw cpos (keywordEach [] X.env)).all (λx=>x.1.isSome)
   && decide ((e::es).length+([]:List Keyword).length+(if ([]:List Keyword).isEmpty then 0 else 1)<30))=true:=by rfl)
 (hline:autoParam ((apos.endLine==cpos.line)=true) q3T) (hs:autoParam (starEach (e::es) X.env=(false,eval e X.env)::starEach es X.env) q3T) (hplain:autoParam ((backTo cpos (starEach es X.env)).any (·.1)=false) q3T) :
 PE X (.Call (.Attribute o name apos) (e::es) [] cpos) (tBM X.K T r to t):=by
 intro bO s σ H Q I h;refine wpAny_Call_method_late hbase hfew hline rfl (thn (ho bO s σ H _ I h) λv s1 z9=>?_);clear 5 z9 x H1 I1 r1 ty q1;clear 5(P1 I1 r1 ty)h1 h2;refine⟨T,id,pa,slot,hty,h1,h2,?_⟩;have hA:=ha cpos bO s1 σ H1 _ I1 q1;rw[hs] at hA⊢;refine Calls.callWith_builtin (by show(false||(backTo cpos (starEach es X.env)).any (·.1))=false;rw[hplain]<;>rfl) (Calls.evalArgs_plain ?_);exact thn hA λus s2 ⟨vs,H2,I2,r2,q2⟩=>hm bO s2 σ H2 x vs v us Q I2 r1 r2 q2
/- xs.append(e),list.index on a module's tuple .. are MtR facts of 06m -/
end
def MtM(X:Cx)(id:String)(r:V->List V->Hp->VK->Prop):Prop:=
 ∀(bO:List (bQ×Obj)) (s:bR) (σ:St) (H:Hp) (x:V) (xs:List V) (v:bP) (us:List bP) (Q:VK),Inv X bO σ H s->RelV x v->Vals xs us->r x xs H Q->
  wpAny (model X.prog X.w) X.A (call (.builtin id) (v::us)) (EP X bO σ Q) X.xe s
theorem Vals.one{us:List bP}(h:Vals [x] us):∃u,us=[u]/\RelV x u:=by
 cases h with
 |cons r t=>
   cases t
   exact⟨_,rfl,r⟩
theorem Vals.two:∀{x y:V}{us:List bP},Vals [x,y] us->∃u v,us=[u,v]/\RelV x u/\RelV y v
 |_,_,_,.cons r (.cons q .nil)=>⟨_,_,rfl,r,q⟩
theorem Vals.zero:∀{us:List bP},Vals [] us->us=[]
 |_,.nil=>rfl
theorem Vals.dropLast{xs:List V}{us:List bP}(h:Vals xs us):Vals xs.dropLast us.dropLast:=by
 induction h with
 |nil=>exact .nil
 |cons r t ih=>
   cases t with
   |nil=>exact .nil
   |cons q t'=>exact .cons r ih
theorem Vals.rep{xs:List V}{us:List bP}(h:Vals xs us):∀k:Nat,Vals (List.replicate k xs).flatten (List.replicate k us).flatten
 |0=>.nil
 |k+1=>by
   rw[uf9,uf9,uh9,uh9];exact Vals.append h (Vals.rep h k)
theorem Ni(l:List α):l.eraseIdx (l.length-1)=l.dropLast:=by
 induction l with
 |nil=>rfl
 |cons a r ih=>
   cases r with
   |nil=>rfl
   |cons b r=>
     have e:(a::b::r).length-1=((b::r).length-1)+1:=by
      have h1:(a::b::r).length=r.length+2:=rfl;have h2:(b::r).length=r.length+1:=rfl;lia
     rw[e,List.eraseIdx_cons_succ,ih]
     all_goals rfl
theorem Go(its:List bP):∀(k:Nat) (acc:List bP),
 List.foldl (λx1 x2=>x1++x2) acc.toArray (List.replicate k its.toArray)=(acc++(List.replicate k its).flatten).toArray
 |0,acc=>by simp
 |k+1,acc=>by
   have e:acc.toArray++its.toArray=(acc++its).toArray:=by simp
   have e2:(acc++its)++(List.replicate k its).flatten=acc++(List.replicate (k+1) its).flatten:=by
    rw[uf9,uh9,ui0]
   rw[<-e2,<-Go its k (acc++its),<-e,uf9,List.foldl_cons]
section
variable{X:Cx}{bO:List (bQ×Obj)}{σ:St}{H:Hp}{s:bR}{l b:bQ}{xs ys zs:List V}
theorem Inv.lset{its':List bP}{f:Array bP->Array bP}{t':Nat}(I:Inv X bO σ H s)(hH:H l=some (.lst xs))
 (e:s.heap.get? l=some {cls:=.type "list",data:=.seq its.toArray n}) (hf:f its.toArray=its'.toArray) (hv:Vals ys its') (hz:ys.length<=sizeLine) :
 Inv X bO σ (upd H l (.lst ys)) {s with heap:=s.heap.update l (Obj.mapSeq f),toks:=t'}:=by
 have q:=PySem.IsL.update e f;rw[hf] at q;refine I.write (x:=l) (e:=l) (by rw[hH];exact trivial) (.inl rfl) (λb' u hb hu=>(Heap.get?_update_other s.heap (Obj.mapSeq f) (Ne.symm hb)).trans hu) ⟨_,q⟩ ?_;exact⟨hz,its',_,hv,q⟩
theorem Inv.lnew{t':Nat}(I:Inv X bO σ H s)(hv:Vals ys its)(hz:ys.length<=sizeLine) :
 Inv X bO σ (upd H s.heap.objs.size (.lst ys)) {s with heap:=s.heap.push {cls:=.type "list",data:=.seq its.toArray},toks:=t'}:=
 I.laid (λ_ _ q=>uc4 _ q) (uq9 _) ⟨hz,its,0,hv,uf8 _ rfl⟩
theorem Inv.fresh(I:Inv X bO σ H s):H s.heap.objs.size=none:=I.hok.fresh (uq9 _)
theorem Inv.lstM(I:Inv X bO σ H s)(hH:H l=some (.lst xs)):xs.length<=sizeLine/\∃(its:List bP) (n:Nat),Vals xs its/\xs.length=its.length/\s.heap.get? l=some {cls:=.type "list",data:=.seq its.toArray n}:=by
 clear 5(I.hok l _ hH)z its n r e;exact⟨z,its,n,r,r.length,e⟩
theorem KW(h:n<=sizeLine):Builtin.List.listTooLong n=false:=by
 unfold Builtin.List.listTooLong;exact un7 ∅
end
section
variable{X:Cx}
def Mz:V->List V->Hp->VK->Prop:=λx vs H Q=>∃l xs y,x=.ref l/\vs=[y]/\H l=some (.lst xs)/\xs.length<sizeLine/\Q .non (upd H l (.lst (xs++[y])))
theorem JN:MtM X "list.append" Mz:=by
 intro bO s σ H x vs v us Q I rx rv h;clear 5 h l xs y rfl rfl hH hz q
 cases rx
 clear 5 rv.one u rfl ru;clear 5(I.lstM hH)z its n r hl e;refine dJ F.slot_list_append ⟨_,e,rfl⟩ F.entry_list_append (F.args_list_append_2 _ _) (PySem.list_append l its.toArray n u (by rw[uh5];lia)) ⟨e,?_⟩;refine⟨.non,_,I.lset (its':=its++[u]) hH e (by simp) (r.append (.cons ru .nil)) ?_,rfl,q⟩;rw[ug7,ud3];lia
def MA:V->List V->Hp->VK->Prop:=λx vs H Q=>∃l b xs zs,x=.ref l/\vs=[.ref b]/\H l=some (.lst xs)/\H b=some (.lst zs)/\xs.length+zs.length<=sizeLine/\Q .non (upd H l (.lst (xs++zs)))
theorem O5:MtM X "list.extend" MA:=by
 intro bO s σ H x vs v us Q I rx rv h;clear 5 h l b xs zs rfl rfl hH hB hz q
 cases rx
 clear 5 rv.one u rfl ru
 cases ru
 clear 5(I.lstM hH)z its n r hl e;clear 5(I.lstM hB)z2 its2 n2 r2 hl2 e2;have hsz:its.toArray.size+its2.toArray.size<=sizeLine:=by rw[uh5,uh5];lia
 have hlong:¬(!its.toArray.isEmpty&&Builtin.List.listTooLong (its.toArray.size+its2.toArray.size))=true:=by
  rw[KW hsz,Bool.and_false];exact ug6
 refine dJ F.slot_list_extend ⟨_,e,rfl⟩ F.entry_list_extend (F.args_list_extend_2 _ _)
  (AutoSeq1.list_extend_list_list_0 l its.toArray n b its2.toArray n2 hlong (by rw[uh5];lia) ∅) ⟨e,e2,?_⟩
 refine⟨.non,_,I.lset (its':=its++its2) hH e (by simp) (r.append r2) ?_,rfl,q⟩;rw[ug7];lia
def ZM:V->List V->Hp->VK->Prop:=λx vs H Q=>∃l xs y,x=.ref l/\vs=[]/\H l=some (.lst xs)/\xs[xs.length-1]?=some y/\Q y (upd H l (.lst xs.dropLast))
theorem WQ:MtM X "list.pop" ZM:=by
 intro bO s σ H x vs v us Q I rx rv h;clear 5 h l xs y rfl rfl hH hy q
 cases rx
 have hus:=rv.zero;subst hus;clear 5(I.lstM hH)z its n r hl e;clear 5(r.get hy)u hu ru;have hy':its.toArray[its.toArray.size-1]?=some u:=by
  show its.toArray[its.length-1]?=some u;rw[<-ud4,<-hl];exact hu
 refine dJ F.slot_list_pop ⟨_,e,rfl⟩ F.entry_list_pop (F.args_list_pop_1 _) (MeetsSeq.list_pop_last l its.toArray n u hy' (by rw[uh5];lia)) ⟨e,?_⟩;refine⟨y,_,I.lset (its':=its.dropLast) hH e ?_ r.dropLast ?_,ru,q⟩
 .show its.toArray.eraseIdxIfInBounds (its.toArray.size-1)=its.dropLast.toArray;rw[uh5,List.eraseIdxIfInBounds_toArray,Ni]
 .rw[List.length_dropLast];lia
def Xr:R2:=λx y H Q=>∃l b xs zs,x=.ref l/\y=.ref b/\H l=some (.lst xs)/\H b=some (.lst zs)/\xs.length+zs.length<=sizeLine/\∀p,H p=none->Q (.ref p) (upd H p (.lst (xs++zs)))
theorem op_cat:OpR X (binaryOp .Add) Xr:=by
 intro bO s σ H x y v u Q I rx ry h;clear 5 h l b xs zs rfl rfl hH hB hz q
 cases rx
 cases ry
 clear 5(I.lstM hH)z its n r hl e;clear 5(I.lstM hB)z2 its2 n2 r2 hl2 e2;refine PySem.P.add_list e e2 ?_ (by rw[uh5,uh5];lia);have ea:its.toArray++its2.toArray=(its++its2).toArray:=by simp
 rw[ea];exact⟨.ref _,_,I.lnew (t':=s.toks) (r.append r2) (by rw[ug7];lia),rfl,q _ I.fresh⟩
def Rn:R2:=λx y H Q=>∃l k xs,x=.ref l/\y=.int k/\H l=some (.lst xs)/\-(2 ^ 63)<=k/\k<2 ^ 63/\xs.length*k.toNat<=sizeLine/\
 ∀p,H p=none->Q (.ref p) (upd H p (.lst (List.replicate k.toNat xs).flatten))
theorem Jc(xs:List α)(k:Nat):(List.replicate k xs).flatten.length=k*xs.length:=by
 induction k with
 |zero=>simp
 |succ k ih=>rw[uf9,uh9,ug7,ih,Nat.succ_mul,Nat.add_comm]
theorem Pf:OpR X (binaryOp .Mult) Rn:=by
 intro bO s σ H x y v u Q I rx ry h;clear 5 h l k xs rfl rfl hH h1 h2 hz q
 cases rx
 clear 5 ry t rfl;clear 5(I.lstM hH)z its n r hl e;have hlen:its.toArray.size*k.toNat<=sizeLine:=by rw[uh5,<-hl];exact hz
 have hcap:¬its.toArray.size*k.toNat > (2 ^ 63-1)/8:=by
  have:(sizeLine:Nat)<=(2 ^ 63-1)/8:=by decide
  lia
 have hfit:¬(!Builtin.List.listFitsIndex k)=true:=by
  rw[fitsIndex_both h1 h2];exact ug6
 have hlong:¬Builtin.List.listTooLong (its.toArray.size*k.toNat)=true:=by
  rw[KW hlen];exact ug6
 have hnew:List.foldl (λx1 x2=>x1++x2) #[] (List.replicate (if its.toArray.isEmpty=true then 0 else k.toNat) its.toArray)=(List.replicate k.toNat its).flatten.toArray:=by
  have f0:∀m:Nat,List.foldl (λx1 x2=>x1++x2) #[] (List.replicate m its.toArray)=(List.replicate m its).flatten.toArray:=λm=>by
   have:=Go its m [];rw[um8] at this;exact this
  rw[f0]
  cases its with
  |nil=>simp
  |cons a r'=>rw[eC (by simp)]
 refine bY (T:="list") (U:="int") (by decide) ⟨_,e,rfl⟩ (λs'=>dI s' k t) noFill_list_mul F.fills_int_mul de repeat_list F.slot_int_index.lookup
  (dJ de (dI s k t) F.entry_int_rmul (F.args_int_rmul_2 _ _) (int___rmul___int_list k t l its.toArray n)
    ⟨e,rfl,⟨_,e,rfl⟩,dJ F.slot_list_mul ⟨_,e,rfl⟩ F.entry_list_mul (F.args_list_mul_2 _ _) (AutoListH.list___mul___list_int_3 l its.toArray n k t hfit hcap hlong) ⟨e,?_⟩⟩)
 rw[hnew];exact⟨.ref _,_,I.lnew (t':=s.toks) (r.rep k.toNat) (by rw[Jc,uq0];exact hz),rfl,q _ I.fresh⟩
end
section
variable{prog:bS}{w:bT}{A:Around}{E:bP->bR->Prop}{s:bR}
end
section
variable{X:Cx}
end
end
end L2
namespace Att
open PySem PySem.W PySem.Calls PyProof.Rows
theorem Iw{P:Params}{h:Heap}:∀(ns:List Int) (vs:List bP),WellAll P h vs (ns.map WData.int)->IntsAre vs ns:=by
 intro ns
 induction ns with
 |nil=>
   intro vs w;rw[up9] at w
   cases w
   exact .nil
 |cons n ns ih=>
   intro vs w;rw[uo6] at w
   cases w with
   |cons a b=>
     cases a
     exact .cons _ _ (ih _ b)
theorem Py{l:OpenLaw}{n:Nat}(hn:l.most=some n){P:Params}{h:Heap}{args:List WData}{vals:List bP}
 (hpre:l.row.toRowW.claim.pre args=true) (hwl:WellAll P h vals args) :
 ∃a vs ns,vals=[Value.ref a]/\args=[WData.list (ns.map WData.int)]/\h.get? a=some {cls:=.type "list",data:=.seq vs.toArray}/\IntsAre vs ns/\ns.length<=n:=by
 have hsh:WShape.hasAll [] args [.list .int]=true:=(pre_splitW hpre).1;have hc:l.pre.holds [] {args:=args}=true:=(pre_splitW hpre).2;clear 5(hasAllW_cons hsh)d r rfl h1 h2;obtain rfl:=hasAllW_nil h2;clear 5(hasW_list h1)xs rfl h3;clear 5(items_int h3)ns rfl;have hlen:ns.length<=n:=by
  unfold OpenLaw.pre at hc;have h4:(WTm.not (.lt (.lit (.int (n:Int))) (.len (.arg 0)))).holds [] {args:=[.list (ns.map .int)]}=true:=by
   have h4:=(holds_andW hc).1;rw[hn] at h4;exact h4
  have h5:=condW_of h4 (w_not (w_lt w_lit (w_len_list (w_arg rfl))));rw[um6] at h5;refine Nat.le_of_not_lt λq=>?_;have q':(n:Int)<((ns.length:Nat):Int):=by lia
  first
   |(rw[uo3 q'] at h5;exact absurd h5 (by decide))
   |(simp at h5;lia)
 cases hwl with
 |cons w1 w2=>
   cases w2
   cases w1 with
   |list ho hall=>exact⟨_,_,ns,rfl,rfl,ho,Iw ns _ hall,hlen⟩
theorem Pm(l:OpenLaw)(args:List WData):l.row.toRowW.claim.post args (.bool true) args=true:=
 postW_of (r:=l.row.toRowW) (X:=(true==true))
  (show WShape.has [] (.bool true) .bool=true by first|rfl|decide|simp[WShape.has,WShape.arms,WShape.armsAll])
  (show(WTm.eq .res (.lit (.bool true))).value [] {args:=args,res:=some (.bool true),after:=args}=some (.bool (true==true)) from w_eq_bool (w_res rfl) w_lit) rfl
theorem attach_call{l:OpenLaw}{n:Nat}{q:bS}{loose:List Str}{XP:(Str->Option bP)->Heap->Prop}{YP:bT->Heap->Prop}{d:DefRec}
 (hn:l.most=some n) (hdf:d.params.defaults=[])
 (call:∀(w:bT) (s₀ s₁:bR) (mg mb:Str->Option bP) (fa:bQ) (o:Obj) (pm cd doc:bP) (a:bQ) (vs:List bP) (ns:List Int),
   Ground q loose [] XP w s₀ mg mb s₁.heap->YP w s₁.heap->
   s₁.heap.get? fa=some o->o.data=.func (docDef d.name d.params d.body d.scope pm cd doc)->s₁.heap.CodeRec cd d.name->mg d.name=some (.ref fa)->
   s₁.heap.get? a=some {cls:=.type "list",data:=.seq vs.toArray}->IntsAre vs ns->ns.length<=n->s₁.gens=#[]->
   codeAny (model l.prog w) callerA (.call (.ref fa) ⟨[.ref a],[]⟩) (λr s'=>r=.ok (.ret (.bool true))/\OldK s₁.heap s'.heap/\s'.os=s₁.os/\AllBare s'.gens) s₁) :
 WalkO q loose XP YP l.row.toRowW d [] (λf vs=>PySem.call f vs):=by
 intro w s₀ s₁ mg mb G Y fa o pm cd doc dV kV ho hd hcd hD hmg hg args vals as hpre hlay hrd hwl hlo;obtain rfl:dV=.none:=Dflts.none hD hdf;obtain rfl:kV=.none:=Dflts.noKw hD;clear 5(Py hn hpre hwl)a vs ns rfl rfl hobj hints hlen;refine enter_call (codeAny_mono (call w s₀ s₁ mg mb fa o pm cd doc a vs ns G Y ho (fd_plain hd) hcd hmg hobj hints hlen hg) λr s' hq=>?_);clear 5 hq rfl h2 h3 h4;exact⟨.inl ⟨.bool true,.bool true,[],rfl,λ_=>rfl,.bool true,Pm l _,λ_=>⟨List.Pairwise.nil,λ_ hm=>(nomatch hm)⟩⟩,h2,h3,h4⟩
section
variable{prog:bS}{w:bT}{A:Around}{E:bP->bR->Prop}{s:bR}{K:Frag}
end
end Att
namespace L2
open PySem PySem.Spec PyProof.Rows
theorem GL:∀{vs:List bP}{ns:List Int},IntsAre vs ns->Vals (ns.map V.int) vs
 |_,_,.nil=>.nil
 |_,_,.cons n t h=>.cons ⟨t,rfl⟩ (GL h)
def M1(H:Hp):Prop:=∀b,H b=none\/∃o xs,H b=some (.frz o (.lst xs))
section
variable{P:bS}{w:bT}{a:bQ}{fd:bU}{x:Str}
theorem QP{K:bN}{mg mb:Str->Option bP}{CX:CXT}{k:Nat}{fa:bQ}{sp:Sp}{s₁:bR}{vs:List bP}{ns:List Int}
 (KX:K.In s₁.heap) (hns:s₁.heap.Ns mainGlobals mg) (hb:s₁.heap.Ns builtinsNs mb) (hbb:∀x:Str,x≠"__name__"->mb x=bootBuiltins x) (hlim:s₁.heap.NoLimit) (hg:s₁.gens=#[])
 (ha:s₁.heap.get? a=some {cls:=.type "list",data:=.seq vs.toArray}) (hi:IntsAre vs ns) (hl:ns.length<=sizeLine) (hr:Room k callerA)
 (F:∀base:Heap,K.In base->base.Ns mainGlobals mg->FnOk P w K mg base CX k fa fd [x] sp) (hbind:∀(s:bR) (u:bP),BindsTo s fd ⟨[u],[]⟩ [(x,u)])
 (hsp:∀H:Hp,M1 H->SqL K H a (ns.map V.int)->sp [.ref a] H (λv _=>v=.bl true) λ_ _ _=>False)
 (hCX:∀H e s',CX [] H s₁ (λ_ _ _=>False) e s'->False) :
 codeAny (model P w) callerA (.call (.ref fa) ⟨[.ref a],[]⟩) (λr s'=>r=.ok (.ret (.bool true))/\OldK s₁.heap s'.heap/\s'.os=s₁.os/\AllBare s'.gens) s₁:=by
 have rv:=GL hi;have lenV:=hi.length
 -- from an abstract heap in which nothing but the script may be tracked
 have core:∀H:Hp,M1 H->SqL K H a (ns.map V.int)->HOk P w H s₁.heap->(∀b,H b≠none->b=a)->(H a≠none->K.lookup a=none)->
  codeAny (model P w) callerA (.call (.ref fa) ⟨[.ref a],[]⟩) (λr s'=>r=.ok (.ret (.bool true))/\OldK s₁.heap s'.heap/\s'.os=s₁.os/\AllBare s'.gens) s₁:=by
  intro H hO hS hok hA hK;have base_of:∀{b:bQ}{o:Obj},s₁.heap.get? b=some o->H b=none->(FS s₁.heap H).get? b=some o:=λe n=>QL e n;have noA:∀{b:bQ}{o:Obj}{es:Array DictEntry}{ep:Nat},s₁.heap.get? b=some o->o.data=.dict es ep->H b=none:=λ{b o es ep} e d=>by
   cases q:H b with
   |none=>rfl
   |some u=>
     have e':b=a:=hA b (by rw[q];simp);subst e';rw[ha] at e;cases e
     have d':Data.seq vs.toArray _=Data.dict es ep:=d
     cases d'
  have nsK:∀{b:bQ}{m:Str->Option bP},s₁.heap.Ns b m->(FS s₁.heap H).Ns b m:=λ{b m} ⟨o,es,ep,e,d,r⟩=>⟨o,es,ep,base_of e (noA e d),d,r⟩;have hKb:K.In (FS s₁.heap H):=λb o e=>base_of (KX b o e) (by
   cases q:H b with
   |none=>rfl
   |some u=>
     have e':b=a:=hA b (by rw[q];simp);subst e';rw[hK (by rw[q];simp)] at e;cases e)
  have hM:Mod K mg (FS s₁.heap H):=⟨hKb,nsK hns,⟨mb,nsK hb,hbb⟩,let ⟨mc,h1,h2⟩:=hlim;⟨mc,nsK h1,h2⟩⟩;have e0:Env0 P w K mg (FS s₁.heap H) callerA [] s₁ H:=⟨rfl,hM,λb o e=>UA e,dA (OO _ _),trivial,λb hb=>absurd (show b∈([]:List bQ) from hb) (by simp),hok,.of_eq hg⟩;refine codeAny_mono ((F _ hKb (nsK hns)).run callerA [] s₁ H ⟨[.ref a],[]⟩ [.ref a] [.ref a] _ _ hr e0 (hbind s₁ (.ref a)) (.cons rfl .nil) (hsp H hO hS)) λr s' h=>?_
  cases r with
  |error e=>exact(hCX H e s' h).elim
  |ok fl=>
    cases fl with
    |next=>exact False.elim h
    |brk=>exact False.elim h
    |cont=>exact False.elim h
    |ret u=>
      clear 5 h v H' os bare un hok' r' q;have q':v=.bl true:=q;subst q';obtain rfl:u=Value.bool true:=r';refine⟨rfl,OldK.of_keep λb o e=>?_,os,bare⟩
      cases q:H b with
      |none=>exact un.keep b o e q (by intro z;exact absurd (show b∈([]:List bQ) from z) (by simp)) (by simp)
      |some u=>
        rcases hO b with z|⟨ob,xs,z⟩
        .rw[q] at z;cases z
        .have z2:=un.frzs b ob _ z;obtain⟨e1,_⟩:=hok b _ z;obtain⟨e2,_⟩:=hok' b _ z2;rw[e] at e1;cases e1
         exact e2
 cases hk:K.lookup a with
 |some o=>
   -- the script is one of the module's own objects
   have e:=KX a o hk;rw[ha] at e
   cases e
   refine core (λ_=>none) (λ_=>.inl rfl) (.inr ⟨_,vs.toArray,_,hk,rfl,rfl,rfl,by rw[uh5,lenV];exact hl,by simpa using rv⟩) (λb u z=>by have z':(none:Option HO)=some u:=z;cases z') (λb z=>absurd rfl z) λz=>absurd rfl z
 |none=>
   refine core (λb=>if b=a then some (.frz {cls:=.type "list",data:=.seq vs.toArray} (.lst (ns.map V.int))) else none) (λb=>?_) (.inl (.inr ⟨{cls:=.type "list",data:=.seq vs.toArray},eB rfl⟩)) (λb u z=>?_) (λb z=>?_) λ_=>hk
   .by_cases hb:b=a
    .exact .inr ⟨_,_,eB hb⟩
    .exact .inl (eC hb)
   .by_cases hb:b=a
    .have z':=(eB hb).symm.trans z
     cases z'
     subst hb;exact⟨ha,by rw[um6];exact hl,vs,_,rv,ha⟩
    .have z':=(eC hb).symm.trans z
     cases z'
   .by_cases hb:b=a
    .exact hb
    .exact absurd (eC hb) z
theorem VQ{l:PySem.W.OpenLaw}{n k:Nat}{q:bS}{loose:List Str}{XP:(Str->Option bP)->Heap->Prop}{YP:bT->Heap->Prop}{d:DefRec}{K:Params->bN}{CX:bT->CXT}{sp:bT->Sp}
 (hn:l.most=some n) (hn2:n<=sizeLine) (hdf:d.params.defaults=[]) (hr:Room k callerA)
 (hY:∀(w:bT) (h:Heap),YP w h->(K w.params).In h)
 (F:∀(w:bT) (mg:Str->Option bP) (fa:bQ) (h:Heap),(K w.params).In h->h.Ns mainGlobals mg->mg d.name=some (.ref fa)->
   ∃fd:bU,(∀(s:bR) (u:bP),BindsTo s fd ⟨[u],[]⟩ [(x,u)])/\
    ∀base:Heap,(K w.params).In base->base.Ns mainGlobals mg->FnOk l.prog w (K w.params) mg base (CX w) k fa fd [x] (sp w))
 (hsp:∀(w:bT) (H:Hp) (a:bQ) (ns:List Int),ns.length<=n->M1 H->SqL (K w.params) H a (ns.map V.int)->sp w [.ref a] H (λv _=>v=.bl true) λ_ _ _=>False)
 (hCX:∀(w:bT) (H:Hp) (s:bR) (e:bP) (s':bR),CX w [] H s (λ_ _ _=>False) e s'->False) :
 PySem.W.WalkO q loose XP YP l.row.toRowW d [] (λf vs=>PySem.call f vs):=by
 refine Att.attach_call hn hdf λw s₀ s₁ mg mb fa o pm cd doc a vs ns G Y ho hd hcd hmg hobj hints hlen hg=>?_;have KX:=hY w _ Y;clear 5(F w mg fa _ KX G.T.g hmg)fd hb hF;exact QP KX G.T.g G.T.b G.T.builtins G.T.nolimit hg hobj hints (up6 hlen hn2) hr hF hb (λH hO hS=>hsp w H a ns hlen hO hS) λH e s'=>hCX w H s₁ e s'
noncomputable def Fb(s:Stmt):Arguments:=match s with
 |.FunctionDef _ a _ _ _ _ _ _ _ _=>a
 |_=>{posonlyargs:=[],args:=[],vararg:=none,kwonlyargs:=[],kw_defaults:=[],kwarg:=none,defaults:=[]}
noncomputable def CY(s:Stmt):List Stmt:=match s with
 |.FunctionDef _ _ b _ _ _ _ _ _ _=>b
 |_=>[]
noncomputable def AO(s:Stmt):Scope:=match s with
 |.FunctionDef _ _ _ _ _ _ sc _ _ _=>sc
 |_=>{kind:=.function,names:=[],isGenerator:=false,isCoroutine:=false}
abbrev CX0:CXT:=λ_ _ _ _ _ _=>False
abbrev E0:XK:=λ_ _ _=>False
variable{X:Cx}
theorem SW:Kl CX0 X E0:=λ_ _ _ _ _ _ _ h=>h.elim
structure Fun(K:bN)(x qual:Str)(st:Stmt)(f:bQ)(fd:bU):Prop where
 ex:∃(oc:bP) (od:Option bQ) (kV doc pm:bP) (an:Option bQ) (cdv ct:bP) (osl:Array (Option bP)),
  fd=PySem.W.fnOf x qual (Fb st) (CY st) (AO st) .none kV doc pm an cdv ct/\K.lookup f=some ⟨oc,od,.func fd,osl⟩/\codeIn K cdv qual=true
 kp:PySem.W.keepIn K (.ref f)=true
variable{qual:Str}{f:bQ}
section
variable{P:bS}{w:bT}{K:bN}{mg:Str->Option bP}{base:Heap}
theorem Fun.ok{st:Stmt}{N ps:List Str}{k:Nat}{sp:Sp}(F:Fun K x qual st f fd)(S:FnScope N ps (AO st))(len:∀vs H Q E,sp vs H Q E->vs.length=ps.length)
 (hbody:∀(cdv:bP) (A:Around) (outer:List Env) (s:bR) (H:Hp) (vs:List V) (Q:VK) (E:XK),Room k (A.deeper (envOfC qual (AO st) s.heap.objs.size f cdv))->sp vs H Q E->
   ∃t,PSs (FN CX0 P w K mg base N qual (AO st) f cdv A outer s H E).nox (CY st) t/\t {nx:=λ_ H'=>Q .non H',rt:=Q} (start N vs) H):FnOk P w K mg base CX0 (k+1) f fd ps sp:=by
 clear 5 F.ex oc od kV doc pm an cdv ct osl rfl lk hcd;refine Yo lk hcd S len λA outer s H vs Q E hr hsp=>?_;clear 5(hbody cdv A outer s H vs Q E hr hsp)t h q;exact⟨t,h.nox,q⟩
theorem Fun.binds{st:Stmt}{ps:List Str}(F:Fun K x qual st f fd)
 (h:∀(kV doc pm:bP) (an:Option bQ) (cdv ct:bP) (us:List bP),us.length=ps.length->bindArgs (PySem.W.fnOf x qual (Fb st) (CY st) (AO st) .none kV doc pm an cdv ct) ⟨us,[]⟩=pure (ps.zip us)):Binds K fd ps []:=by
 clear 5 F.ex oc od kV doc pm an cdv ct osl rfl lk hcd;exact .all (h kV doc pm an cdv ct)
theorem OK{st:Stmt}{oc:bP}{od an:Option bQ}{osl:Array (Option bP)}{kV doc pm cdv ct:bP}(l:K.lookup f=some ⟨oc,od,.func (PySem.W.fnOf x qual (Fb st) (CY st) (AO st) .none kV doc pm an cdv ct),osl⟩)
 (c:codeIn K cdv qual=true) (k:PySem.W.keepIn K (.ref f)=true):Fun K x qual st f (PySem.W.fnOf x qual (Fb st) (CY st) (AO st) .none kV doc pm an cdv ct):=⟨⟨oc,od,kV,doc,pm,an,cdv,ct,osl,rfl,l,c⟩,k⟩
end
section
variable{X:Cx}
end
def Same(H H':Hp):Prop:=∀b o,H b=some o->H' b=some o
section
variable{κ:Type}[DecidableEq κ]
noncomputable def Br(kvs:List (κ×V))(k:κ):Option V:=(kvs.find? λkv=>decide (kv.1=k)).map (·.2)
noncomputable def BP(kvs:List (κ×V))(k:κ)(v:V):List (κ×V):=
 if (kvs.any λkv=>decide (kv.1=k))=true then kvs.map (λkv=>if kv.1=k then(kv.1,v) else kv) else kvs++[(k,v)]
def EN(kvs:List (κ×V))(k:κ):List (κ×V):=kvs.filter λkv=>decide (kv.1≠k)
theorem EI{p:κ×V}{r:List (κ×V)}{k:κ}(e:p.1=k):Br (p::r) k=some p.2:=by simp[Br,um9,e]
theorem DJ{p:κ×V}{r:List (κ×V)}{k:κ}(e:¬p.1=k):Br (p::r) k=Br r k:=by simp[Br,um9,e]
theorem LJ(k:κ):∀kvs:List (κ×V),(kvs.any λkv=>decide (kv.1=k))=(Br kvs k).isSome
 |[]=>rfl
 |p::r=>by
   rw[uo8]
   by_cases e:p.1=k
   .simp only[EI e,uo3 e,Bool.true_or,Option.isSome_some]
   .rw[DJ e,un7 e,Bool.false_or];exact LJ k r
theorem DO(kvs:List (κ×V))(k:κ)(v:V):(BP kvs k v).length<=kvs.length+1:=by
 unfold BP
 split
 .rw[um6];lia
 .rw[ug7,uj8,un0];lia
theorem RelO.isSome_eq{o:Option V}{u:Option bP}(r:RelO o u):o.isSome=u.isSome:=by
 cases o with
 |none=>cases u with
   |none=>rfl
   |some _=>exact(show False from r).elim
 |some _=>cases u with
   |none=>exact(show False from r).elim
   |some _=>rfl
theorem KV.val{kvs:List (κ×V)}{vs:List (κ×bP)}(r:KV kvs vs)(k:κ):RelO (Br kvs k) (valueAt vs k):=by
 unfold KV at r
 induction r with
 |nil=>exact True.intro
 |@cons p q ps qs h t ih=>
   clear 5 h h1 h2
   by_cases e:p.1=k
   .have e':q.1=k:=h1.symm.trans e;have b:valueAt (q::qs) k=some q.2:=by simp[valueAt,um9,e']
    rw[EI e,b];exact h2
   .have e':¬q.1=k:=λz=>e (h1.trans z);have b:valueAt (q::qs) k=valueAt qs k:=by simp[valueAt,um9,e']
    rw[DJ e,b];exact ih
theorem KV.any{kvs:List (κ×V)}{vs:List (κ×bP)}(r:KV kvs vs)(k:κ):(kvs.any λkv=>decide (kv.1=k))=vs.any λkv=>decide (kv.1=k):=by
 unfold KV at r
 induction r with
 |nil=>rfl
 |cons h t ih=>rw[uo8,uo8,ih,h.1]
theorem KV.repl{kvs:List (κ×V)}{vs:List (κ×bP)}(r:KV kvs vs)(k:κ){y:V}{u:bP}(ry:RelV y u) :
 KV (kvs.map λkv=>if kv.1=k then(kv.1,y) else kv) (vs.map λkv=>if kv.1=k then(kv.1,u) else kv):=by
 unfold KV at r⊢
 induction r with
 |nil=>exact .nil
 |@cons p q ps qs h t ih=>
   rw[uo6,uo6];refine .cons ?_ ih;clear 5 h h1 h2
   by_cases e:p.1=k
   .rw[eB e,eB (h1.symm.trans e)];exact⟨h1,ry⟩
   .rw[eC e,eC (λz=>e (h1.trans z))];exact⟨h1,h2⟩
theorem KV.put{kvs:List (κ×V)}{vs:List (κ×bP)}(r:KV kvs vs)(k:κ){y:V}{u:bP}(ry:RelV y u):KV (BP kvs k y) (stored vs k u):=by
 unfold BP stored;rw[r.any k]
 by_cases e:(vs.any λkv=>decide (kv.1=k))=true
 .rw[eB e,eB e];exact r.repl k ry
 .rw[eC e,eC e];exact Paired.snoc r ⟨rfl,ry⟩
theorem KV.drop{kvs:List (κ×V)}{vs:List (κ×bP)}(r:KV kvs vs)(k:κ):KV (EN kvs k) (without vs k):=by
 unfold KV at r⊢;unfold EN without
 induction r with
 |nil=>exact .nil
 |@cons p q ps qs h t ih=>
   clear 5 h h1 h2;rw[uj9,uj9]
   by_cases e:p.1=k
   .have a:¬decide (p.1≠k)=true:=by simp[e]
    have b:¬decide (q.1≠k)=true:=by simp[h1.symm.trans e]
    rw[eC a,eC b];exact ih
   .have e':¬q.1=k:=λz=>e (h1.trans z);have a:decide (p.1≠k)=true:=by simp[e]
    have b:decide (q.1≠k)=true:=by simp[e']
    rw[eB a,eB b];exact .cons ⟨h1,h2⟩ ih
theorem KV.length{kvs:List (κ×V)}{vs:List (κ×bP)}(r:KV kvs vs):kvs.length=vs.length:=dq r
theorem Qt(kvs:List (κ×V))(k:κ):(EN kvs k).length<=kvs.length:=ud5 _ _
end
theorem Eb{k:Key}{u:bP}(r:RelV (kV k) u):(A5 P w).is k u=true:=by
 cases k with
 |inl i=>clear 5((show ∃t,u=Value.int i t from r))t e;subst e;exact LP P w i t
 |inr x=>clear 5((show ∃t,u=Value.str x t from r))t e;subst e;exact LQ P w x t
theorem JK{P:bS}{w:bT}:∀{ks:List Key}{us:List bP},Vals (ks.map kV) us->ItemsAre (A5 P w) ks us
 |[],_,r=>by rw[up9] at r;cases r;exact .nil
 |k::ks,_,r=>by
   rw[uo6] at r
   cases r with
   |cons h t=>exact .cons (Eb h) (JK t)
abbrev KT(H:Hp):List (List Key×V)->List (List Key×bQ×bP)->Prop:=Paired λp q=>p.1=q.1/\H q.2.1=some (.tup (p.1.map kV))/\RelV p.2 q.2.2
variable{H:Hp}{kvs:List (List Key×V)}{xs:List (List Key×bQ×bP)}
theorem KT.val(r:KT H kvs xs)(k:List Key):RelO (Br kvs k) ((atKey xs k).map (·.2)):=by
 induction r with
 |nil=>exact True.intro
 |@cons p q ps qs h t ih=>
   obtain⟨h1,_,h2⟩:=h
   by_cases e:p.1=k
   .have e':q.1=k:=h1.symm.trans e;have b:atKey (q::qs) k=some q.2:=by simp[atKey,um9,e']
    rw[EI e,b];exact h2
   .have e':¬q.1=k:=λz=>e (h1.trans z);have b:atKey (q::qs) k=atKey qs k:=by simp[atKey,um9,e']
    rw[DJ e,b];exact ih
theorem KT.repl(r:KT H kvs xs)(k:List Key){y:V}{u:bP}(ry:RelV y u) :
 KT H (kvs.map λkv=>if kv.1=k then(kv.1,y) else kv) (xs.map (putAt k u)):=by
 induction r with
 |nil=>exact .nil
 |@cons p q ps qs h t ih=>
   rw[uo6,uo6];refine .cons ?_ ih;clear 5 h h1 h2 h3;unfold putAt
   by_cases e:p.1=k
   .rw[eB e,eB (h1.symm.trans e)];exact⟨h1,h2,ry⟩
   .rw[eC e,eC (λz=>e (h1.trans z))];exact⟨h1,h2,h3⟩
theorem KT.put(r:KT H kvs xs)(k:List Key){b:bQ}{y:V}{u:bP}(hb:H b=some (.tup (k.map kV)))(ry:RelV y u) :
 KT H (BP kvs k y) (storedH xs k b u):=by
 have e:(kvs.any λkv=>decide (kv.1=k))=(atKey xs k).isSome:=by
  rw[LJ,(r.val k).isSome_eq,Option.isSome_map]
 unfold BP storedH;rw[e]
 by_cases q:(atKey xs k).isSome=true
 .rw[eB q,eB q];exact r.repl k ry
 .rw[eC q,eC q];exact Paired.snoc r ⟨rfl,hb,ry⟩
variable{H':Hp}
theorem KT.keeps(r:KT H kvs xs)(ht:∀b ys,H b=some (.tup ys)->H' b=some (.tup ys)):KT H' kvs xs:=
 Paired.mapP r λ_ _ z=>⟨z.1,ht _ _ z.2.1,z.2.2⟩
section
variable{P:bS}{w:bT}{H:Hp}{h:Heap}{a:bQ}
theorem Tf{u:HO}(ok:HOk P w H h)(e:Rd H a u):ObjOk P w H h a u:=e.ok ok
theorem SE{kvs:List (Key×V)}(ok:HOk P w H h)(e:Rd H a (.dK kvs)):kvs.length<=sizeLine/\(a==sysModules)=false/\∃vs,KV kvs vs/\h.DictOf (A5 P w) a vs:=
 show ObjOk P w H h a (.dK kvs) from Tf ok e
theorem D6{kvs:List (Key×V)}(ok:HOk P w H h)(e:H a=some (.dK kvs)):kvs.length<=sizeLine/\(a==sysModules)=false/\∃vs,KV kvs vs/\h.DictOf (A5 P w) a vs:=SE ok (.inl e)
theorem Ix{ks:List Key}(ok:HOk P w H h)(e:H a=some (.tup (ks.map kV))):(tupleKind (A5 P w)).is h ks a:=by
 obtain⟨_,its,r,o,h1,h2,n,h3⟩:=(show ObjOk P w H h a (.tup (ks.map kV)) from ok a _ e);exact⟨o,its.toArray,n,h1,h2,h3,by simpa using JK r⟩
theorem SG(ok:HOk P w H h)(e:Rd H a (.dT kvs)):kvs.length<=sizeLine/\(a==sysModules)=false/\
 ∃xs,KT H kvs xs/\h.DictOfH (tupleKind (A5 P w)) a xs:=by
 clear 5((show ObjOk P w H h a (.dT kvs) from Tf ok e))z y xs r o es ep h1 h2 h3 h4 h5;refine⟨z,y,xs,r,o,es,ep,h1,h2,h3,h4,λx hx=>?_,h5⟩;have all:∀{l:List (List Key×V)}{m:List (List Key×bQ×bP)},KT H l m->∀x∈m,(tupleKind (A5 P w)).is h x.1 x.2.1:=by
  intro l m q
  induction q with
  |nil=>intro x hx;exact nomatch hx
  |@cons p q ps qs hq t ih=>
    intro x hx;rcases uo5.mp hx with e|hx
    .subst e;exact Ix ok (by rw[<-hq.1];exact hq.2.1)
    .exact ih x hx
 exact all r x hx
theorem SF(ok:HOk P w H h)(e:H a=some (.dT kvs)):kvs.length<=sizeLine/\(a==sysModules)=false/\
 ∃xs,KT H kvs xs/\h.DictOfH (tupleKind (A5 P w)) a xs:=SG ok (.inl e)
end
def DGet(H:Hp)(a:bQ)(y:V)(r:Option V):Prop:=
 (∃kvs k,Rd H a (.dK kvs)/\y=kV k/\r=Br kvs k)\/∃kvs k b,Rd H a (.dT kvs)/\y=.ref b/\H b=some (.tup (k.map kV))/\r=Br kvs k
def Zh(H:Hp)(a:bQ)(y v:V)(H':Hp):Prop:=
 (∃kvs k,H a=some (.dK kvs)/\y=kV k/\kvs.length<sizeLine/\H'=upd H a (.dK (BP kvs k v)))\/
 ∃kvs k b,H a=some (.dT kvs)/\y=.ref b/\H b=some (.tup (k.map kV))/\kvs.length<sizeLine/\H'=upd H a (.dT (BP kvs k v))
theorem DGet.k{kvs:List (Key×V)}{k:Key}(e:H a=some (.dK kvs)):DGet H a (kV k) (Br kvs k):=.inl ⟨kvs,k,.inl e,rfl,rfl⟩
theorem DGet.t{b:bQ}{k:List Key}(e:H a=some (.dT kvs))(eb:H b=some (.tup (k.map kV))):DGet H a (.ref b) (Br kvs k):=.inr ⟨kvs,k,b,.inl e,rfl,eb,rfl⟩
section
variable{X:Cx}{bO:List (bQ×Obj)}{σ:St}{H:Hp}{s:bR}{a:bQ}{y v:V}{u r:bP}{o:Option V}{A:Around}{E:bP->bR->Prop}
theorem Inv.big(I:Inv X bO σ H s):sysModules<s.heap.objs.size:=by
 have h:mainGlobals<s.heap.objs.size:=(I.mod.glob.keeps I.bk).lt;exact dB (by decide) h
theorem TH{Q:bP->bR->Prop}(hu:A.units+1<cLine)(I:Inv X bO σ H s)(g:DGet H a y o)(ry:RelV y u)(h:∀s',Inv X bO σ H s'->Q (.bool (!o.isSome)) s') :
 wpAny (model X.prog X.w) A (compareOp .NotIn u (.ref a)) Q E s:=by
 rcases g with⟨kvs,k,e,ey,l⟩|⟨kvs,k,b,e,ey,eb,l⟩
 .subst ey;clear 5(SE I.hok e)z hd vs rel dd;refine wpAny_notIn_of (Eb ry) hd dd.mapOf ?_;rw[<-(rel.val k).isSome_eq,<-l];exact h _ (I.tok _)
 .subst ey
  cases (show u=Value.ref b from ry)
  clear 5(SG I.hok e)z hd xs rel dd;refine wpAny_notIn_heap (tupleKind_room_in1 hu) (Ix I.hok eb) hd dd ?_;have q:=(rel.val k).isSome_eq;rw[Option.isSome_map] at q;rw[<-q,<-l];exact h _ (I.tok _)
theorem Ee{h':Heap}{t':Nat}{ob:HO}(I:Inv X bO σ H s)(mu:Mut (H a))(hs:Heap.SameBut a s.heap h')(he:∃q,h'.get? a=some q)(new:ObjOk X.prog X.w (upd H a ob) h' a ob) :
 Inv X bO σ (upd H a ob) {s with heap:=h',toks:=t'}:=
 I.write (x:=a) (e:=a) mu (.inl rfl) (λb q hb z=>(hs.2 b hb).trans z) he new
theorem Gc{h':Heap}{kvs:List (Key×V)}{vs:List (Key×bP)}(z:kvs.length<=sizeLine)(hd:(a==sysModules)=false)(rel:KV kvs vs)(dd:h'.DictOf (A5 P w) a vs) :
 ObjOk P w H' h' a (.dK kvs):=⟨z,hd,vs,rel,dd⟩
theorem Op{Q:Unit->bR->Prop}(hu:A.units+1<cLine)(I:Inv X bO σ H s)(g:Zh H a y v H')(ry:RelV y u)(rv:RelV v r)(h:∀s',Inv X bO σ H' s'->Q () s') :
 wpAny (model X.prog X.w) A (setItem (.ref a) u r) Q E s:=by
 rcases g with⟨kvs,k,e,ey,l,eH⟩|⟨kvs,k,b,e,ey,eb,l,eH⟩
 .subst ey eH;clear 5(D6 I.hok e)z hd vs rel dd;have hz:vs.length<=sizeLine:=by rw[<-rel.length];exact z
  have hl:(BP kvs k v).length<=sizeLine:=by have:=DO kvs k v;lia
  refine wpAny_setItem_pairs (hsz:=hz) (Eb ry) dd λh' dd' hs=>h _ ?_;have he:∃q,h'.get? a=some q:=let ⟨q,_,_,hq,_⟩:=dd';⟨q,hq⟩;exact Ee I (by rw[e];exact True.intro) hs he (Gc hl hd (rel.put k rv) dd')
 .subst ey eH
  cases (show u=Value.ref b from ry)
  clear 5(SF I.hok e)z hd xs rel dd;have hz:xs.length<=sizeLine:=by rw[<-dq rel];exact z
  have hl:(BP kvs k v).length<=sizeLine:=by have:=DO kvs k v;lia
  refine wpAny_setItem_heap (hsz:=hz) (tupleKind_room_in1 hu) (Ix I.hok eb) dd λh' dd' hs=>h _ ?_;obtain⟨q,es,ep,hq,h2,h3,h4,_,h5⟩:=dd';refine Ee I (by rw[e];exact True.intro) hs ⟨q,hq⟩ ⟨hl,hd,_,(rel.put k eb rv).keeps λc ys ec=>?_,q,es,ep,hq,h2,h3,h4,h5⟩;rw[Ar (SV ec e (λz=>nomatch z))];exact ec
end
section
variable{X:Cx}{bO:List (bQ×Obj)}{σ:St}{H:Hp}{s:bR}{a:bQ}{kvs:List (Key×V)}{k:Key}{u:bP}{A:Around}{E:bP->bR->Prop}
theorem Yh{v:V}{more:List bP}{Q:bP->bR->Prop}(I:Inv X bO σ H s)(e:H a=some (.dK kvs))(ry:RelV (kV k) u)(l:Br kvs k=some v)(hm:more=[]\/∃x,more=[x])
 (h:∀w' s',Inv X bO σ (upd H a (.dK (EN kvs k))) s'->RelV v w'->Q w' s'):wpAny (model X.prog X.w) A (call (.builtin "dict.pop") (.ref a::u::more)) Q E s:=by
 clear 5(D6 I.hok e)z hd vs rel dd;clear 5(RelO.some_of (v:=v) (o:=valueAt vs k) (by rw[<-l];exact rel.val k))w' hw rw';have hp:(keyPart u).isSome=true:=by
  cases k with
  |inl i=>clear 5((show ∃t,u=Value.int i t from ry))t q;subst q;rfl
  |inr x=>clear 5((show ∃t,u=Value.str x t from ry))t q;subst q;rfl
 have ha:argsOk "dict.pop" ⟨.ref a::u::more,[]⟩:=by
  rcases hm with q|⟨x,q⟩
  .subst q;exact PySem.F.args_dict_pop_2 _ _
  .subst q;exact PySem.F.args_dict_pop_3 _ _ _
 refine dC cJ dd.typeIs PySem.F.entry_dict_pop ha (meets_dict_pop_there (A5 X.prog X.w) a (Eb ry) more hm hp)
  ⟨vs,w',dd,by rw[<-rel.length];exact z,hw,λh' dd' hs=>h w' _ ?_ rw'⟩
 have he:∃q,h'.get? a=some q:=let ⟨q,_,_,hq,_⟩:=dd';⟨q,hq⟩;exact Ee I (by rw[e];exact True.intro) hs he (Gc (up6 (Qt kvs k) z) hd (rel.drop k) dd')
end
section
variable{X:Cx}{o i e value:Expr}{pos pos' tpos:Pos}{td ty tv:TE}
end
theorem KC(h:Heap)(hb:sysModules<h.objs.size):ObjOk P w H (h.push {cls:=.type "dict",data:=.dict #[]}) h.objs.size (.dK []):=
 ⟨ur0 _,cL.mpr (Ne.symm (up5 hb)),[],.nil,Heap.DictOf.new h⟩
theorem Qu(h:Heap)(hb:sysModules<h.objs.size):ObjOk P w H (h.push {cls:=.type "dict",data:=.dict #[]}) h.objs.size (.dT []):=
 ⟨ur0 _,cL.mpr (Ne.symm (up5 hb)),[],.nil,_,#[],0,uf8 _ rfl,⟨rfl,rfl,rfl⟩,rfl,rfl,un9⟩
def XV:TE:=λ_ H Q=>∀p,H p=none->Q (.ref p) (upd H p (.dK []))
section
variable{X:Cx}{pos:Pos}
theorem Rc:PE X (.Dict [] [] pos) XV:=λbO s σ H Q I h=>
 wpAny_Dict_empty ⟨.ref s.heap.objs.size,_,I.laid (a:=s.heap.objs.size) (o:=.dK []) (t':=s.toks) (λ_ _ q=>uc4 _ q) (uq9 _) (KC s.heap I.big),rfl,h _ (I.hok.fresh (uq9 _))⟩
end
def IJ:List (TE×TE)->St->Hp->(List (V×V)->Hp->Prop)->Prop
 |[],_,H,Q=>Q [] H
 |(tk,tv)::r,σ,H,Q=>tk σ H λx H1=>tv σ H1 λy H2=>IJ r σ H2 λps H3=>Q ((x,y)::ps) H3
abbrev VV:List (V×V)->List (bP×bP)->Prop:=Paired λp q=>RelV p.1 q.1/\RelV p.2 q.2
def PPs(X:Cx)(pos:Pos)(keys:List (Option Expr))(values:List Expr)(trs:List (TE×TE)):Prop:=
 ∀(bO:List (bQ×Obj)) (s:bR) (σ:St) (H:Hp) (Q:List (V×V)->Hp->Prop),Inv X bO σ H s->IJ trs σ H Q->
  wpAny (model X.prog X.w) X.A (evalPairs (pairTrees keys values X.env pos)) (λvs s'=>∃ps H',Inv X bO σ H' s'/\VV ps vs/\Q ps H') X.xe s
theorem My{pos:Pos}:PPs X pos [] [] []:=λbO s σ H Q I h=>pairTrees_nil_walk ⟨[],H,I,.nil,h⟩
theorem Lf{pos:Pos}{k v:Expr}{ks:List (Option Expr)}{vs:List Expr}{tk tv:TE}{trs:List (TE×TE)}(hk:PE X k tk)(hv:PE X v tv)(hr:PPs X pos ks vs trs) :
 PPs X pos (some k::ks) (v::vs) ((tk,tv)::trs):=λbO s σ H Q I h=>
 pairTrees_cons_walk (thn (hk bO s σ H _ I h) λu s1 ⟨x,H1,I1,rx,q1⟩=>thn (hv bO s1 σ H1 _ I1 q1) λw2 s2 ⟨y,H2,I2,ry,q2⟩=>
  thn (hr bO s2 σ H2 _ I2 q2) λws s3 ⟨ps,H3,I3,rel,q3⟩=>⟨(x,y)::ps,H3,I3,.cons ⟨rx,ry⟩ rel,q3⟩)
def EB(kvs more:List (Key×V)):List (Key×V):=more.foldl (λacc kv=>BP acc kv.1 kv.2) kvs
theorem KV.merge:∀{more:List (Key×V)}{rs:List (Key×bP)}{kvs:List (Key×V)}{vs:List (Key×bP)},KV more rs->KV kvs vs->KV (EB kvs more) (merged vs rs):=by
 intro more rs kvs vs r;unfold KV at r
 induction r generalizing kvs vs with
 |nil=>intro q;exact q
 |@cons p q ps qs h t ih=>
   intro r0;have e:KV (BP kvs p.1 p.2) (stored vs q.1 q.2):=by
    have:=r0.put p.1 h.2;rw[<-h.1];exact this
   exact ih e
theorem F6:∀(more kvs:List (Key×V)),(EB kvs more).length<=kvs.length+more.length
 |[],kvs=>by show kvs.length<=kvs.length+0;lia
 |p::r,kvs=>by
   have h1:=F6 r (BP kvs p.1 p.2);have h2:=DO kvs p.1 p.2;show(EB (BP kvs p.1 p.2) r).length<=_;rw[uj8];lia
theorem Ib{P:bS}{w:bT}:∀{kvs:List (Key×V)}{ws:List (bP×bP)},VV (kvs.map λkv=>(kV kv.1,kv.2)) ws->∃rs,Carries (A5 P w) ws rs/\KV kvs rs
 |[],_,r=>by rw[up9] at r;cases r;exact⟨[],True.intro,.nil⟩
 |p::kvs,_,r=>by
   rw[uo6] at r
   cases r with
   |@cons a b as bs h t=>
     clear 5(Ib (P:=P) (w:=w) t)rs c q;clear 5 b b1 b2;exact⟨(p.1,b2)::rs,⟨Eb h.1,rfl,c⟩,.cons ⟨rfl,h.2⟩ q⟩
def YL(trs:List (TE×TE)):TE:=λσ H Q=>∀p,H p=none->IJ trs σ (upd H p (.dK [])) λps H2=>H2 p=some (.dK [])/\∃kvs:List (Key×V),ps=kvs.map (λkv=>(kV kv.1,kv.2))/\kvs.length<=15/\Q (.ref p) (upd H2 p (.dK (EB [] kvs)))
theorem UN{pos:Pos}{keys:List (Option Expr)}{values:List Expr}{trs:List (TE×TE)}(h:PPs X pos keys values trs)(hall:keys.all (·.isSome)=true)(hl:keys.length=values.length)(h0:keys≠[])
 (h15:keys.length<=15):PE X (.Dict keys values pos) (YL trs):=by
 intro bO s σ H Q I q;have hn:=I.hok.fresh (uq9 s.heap.objs.size);have I1:=I.laid (a:=s.heap.objs.size) (o:=.dK []) (h':=s.heap.push {cls:=.type "dict",data:=.dict #[]}) (t':=s.toks) (λ_ _ q=>uc4 _ q) (uq9 _) (KC s.heap I.big);refine wpAny_Dict_walk (knd:=A5 X.prog X.w) hall hl h0 h15 (thn (h bO _ σ _ _ I1 (q _ hn)) λws s2 z9=>?_);clear 5 z9 ps H2 I2 rel e kvs ep lk q2;subst ep;clear 5(Ib (P:=X.prog) (w:=X.w) rel)rs c rk;clear 5(D6 I2.hok e)z hd vs0 r0 dd
 cases r0
 refine⟨rs,c,dd,λh' dd' hs=>⟨.ref s.heap.objs.size,_,?_,rfl,q2⟩⟩;have hz:(EB [] kvs).length<=sizeLine:=by
  have h1:=F6 kvs [];rw[un0] at h1;rw[dH];lia
 have he:∃q,h'.get? s.heap.objs.size=some q:=let ⟨q,_,_,hq,_⟩:=dd';⟨q,hq⟩;exact Ee I2 (by rw[e];exact True.intro) hs he (Gc hz hd (rk.merge .nil) dd')
theorem Ep{env:Env}:∀(l:List (Str×NameKind)) (cs:List (Str×bQ)),(∀x c,cs.lookup x=some c->env.cells.lookup x=some c)->(∀y∈l,y.2=.free->∃c,env.cells.lookup y.1=some c)->
 ∃cl,(forIn l cs λ(x:Str×NameKind) r=>(match x with|(name,kind)=>if (kind==NameKind.free)=true then do let c <-cellOf env name;pure (ForInStep.yield ((name,c)::r)) else pure (ForInStep.yield r):Sem (ForInStep (List (Str×bQ)))))=pure cl/\
  (∀x c,cl.lookup x=some c->env.cells.lookup x=some c)/\(∀x c,cs.lookup x=some c->∃c',cl.lookup x=some c')/\∀y∈l,y.2=.free->∃c,cl.lookup y.1=some c
 |[],cs,h,_=>⟨cs,rfl,h,λ_ c e=>⟨c,e⟩,λ_ z=>nomatch z⟩
 |(n,k)::l,cs,h,hf=>by
   by_cases hk:k=.free
   .subst hk;clear 5(hf (n,.free) ug5 rfl)c hc;have hc':env.cells.lookup n=some c:=hc;have e:cellOf env n=pure c:=by unfold cellOf;rw[hc']
    obtain⟨cl,e1,e2,e3,e4⟩:=Ep l ((n,c)::cs) (λx c' q=>by
     rw[uk0] at q
     by_cases hx:(x==n)=true
     .rw[hx] at q;cases q;rw[eq_of_beq hx];exact hc'
     .rw[ui1.mpr hx] at q;exact h x c' q) (λy hy=>hf y (ue3 _ hy))
    have self:((n,c)::cs).lookup n=some c:=by rw[uk0,ul8]
    refine⟨cl,?_,e2,λx c' q=>?_,λy hy hyf=>?_⟩
    .rw[un1];simp only[ul8,d7,e];exact e1
    .by_cases hx:(x==n)=true
     .rw[eq_of_beq hx];exact e3 n c self
     .exact e3 x c' (by rw[uk0,ui1.mpr hx];exact q)
    .rcases uo5.mp hy with z|z
     .subst z;exact e3 n c self
     .exact e4 y z hyf
   .have hb:(k==NameKind.free)=false:=by simpa using hk
    clear 5(Ep l cs h (λy hy=>hf y (ue3 _ hy)))cl e1 e2 e3 e4;refine⟨cl,?_,e2,e3,λy hy hyf=>?_⟩
    .rw[un1];simp only[hb,ug8,dR];exact e1
    .rcases uo5.mp hy with z|z
     .subst z;exact absurd hyf hk
     .exact e4 y z hyf
theorem Ie{scope:Scope}{env:Env}(h:∀y∈scope.names,y.2=.free->∃c,env.cells.lookup y.1=some c) :
 ∃cl,closureFor scope env=pure cl/\(∀x c,cl.lookup x=some c->env.cells.lookup x=some c)/\∀y∈scope.names,y.2=.free->∃c,cl.lookup y.1=some c:=by
 obtain⟨cl,e1,e2,_,e4⟩:=Ep (env:=env) scope.names [] (λ_ _ q=>nomatch q) h;refine⟨cl,?_,e2,e4⟩;simp only[closureFor]
 first|(rw[e1];rfl)|(simp only[e1];rfl)|(trace_state;exact e1)
theorem Kz{prog:bS}{A:Around}{R:Result->bR->Prop}{s:bR}{elt target iter:Expr}{ifs:List Expr}{scope:Scope}{pos:Pos}{it acc:bP}{env:Env}(I:Nat->bR->Prop)
 (turn:∀n s,I n s->wpAny (model prog w) A (pyNext it) (λr s₁=>match r with
   |none=>R (.ok .next) s₁
   | some v=>wpAny (model prog w) A (letOwnedTupleGo target it v) (λ_ s₁'=>wpAny (model prog w) A (assign target env v) (λ_ s₂=>
      wpAny (model prog w) A (forIn ifs true λc r=>if r=true then do let ok <-isTrue c env (eval c env);pure (ForInStep.yield ok) else pure (ForInStep.yield r)) (λok s₃=>
       if ok=true then wpAny (model prog w) A (eval elt env) (λx s₄=>
        wpAny (model prog w) A (call (.builtin "list.append") [acc,x]) (λ_ s₅=>∃m,m<n/\I m s₅) (λ_ _=>False) s₄) (λ_ _=>False) s₃
       else ∃m,m<n/\I m s₃) (λ_ _=>False) s₂) (λ_ _=>False) s₁') (λ_ _=>False) s₁) (λ_ _=>False) s)
 (n:Nat) (h:I n s) :
 codeAny (model prog w) A (.compLoop (.ListComp elt [⟨target,iter,ifs,0⟩] scope pos) 0 it acc env) R s:=by
 refine codeAny_loop rfl I (λn s hI=>?_) n h;show wpAny _ A ((compTurn (.ListComp elt [⟨target,iter,ifs,0⟩] scope pos) 0 it acc env).onRaise (λx=>do noteFrame x env;theTreesLotGoes x)) _ _ s;refine wpAny_noted ?_;rw[compTurn_list];refine ur4 (dr (ur4 (ur6 (turn n s hI) (λr s₁ h₁=>?_) λ_ _ h'=>h'.elim)))
 cases r with
 |none=>exact ur5 h₁
 |some v=>
   refine ur4 (ur6 h₁ (λ_ s₁' h₁'=>?_) λ_ _ h'=>h'.elim);refine ur4 (ur6 h₁' (λ_ s₂ h₂=>ur4 (ur6 h₂ (λok s₃ h₃=>?_) λ_ _ h'=>h'.elim)) λ_ _ h'=>h'.elim)
   cases ok with
   |false=>exact ur5 ⟨rfl,h₃⟩
   |true=>
     exact ur4 (ur4 (ur6 h₃ (λx s₄ h₄=>ur4 (ur6 h₄ (λ_ s₅ h₅=>ur5 (ur5 ⟨rfl,h₅⟩)) λ_ _ h'=>h'.elim)) λ_ _ h'=>h'.elim))
end
noncomputable def Bq(X:Cx)(N':List Str)(scope:Scope)(cl:List (Str×bQ))(C:bQ)(s2:bR)(H2:Hp)(fp:List bQ):Cx where
 prog:=X.prog
 w:=X.w
 K:=X.K
 mg:=X.mg
 base:=X.base
 A:=X.A
 N:=N'
 s₀:=s2
 H₀:=H2
 env:=compEnvC scope cl C X.env
 outer:=X.stack
 stack:=X.stack
 ex:=fp
 fn:=λ_=>false
 calm:=X.calm
 pn:=[]
 xe:=λ_ _=>False
theorem Hl(h:Str->NameKind->NameKind)(x:Str):∀l:List (Str×NameKind),(l.map λp=>(p.1,h p.1 p.2)).lookup x=(l.lookup x).map (h x)
 |[]=>rfl
 |(n,k)::l=>by
   show List.lookup x ((n,h n k)::_)=_;rw[uk0,uk0]
   by_cases hx:(x==n)=true
   .rw[hx,eq_of_beq hx];rfl
   .rw[ui1.mpr hx];exact Hl h x l
theorem Fm(scope:Scope)(env:Env)(x:Str):(relabel scope env).names.lookup x=(scope.names.lookup x).map λk=>if (k==.free&&env.scope.kind==.function&&env.kindOf x==some .cell)=true then .cell else k:=by
 rw[<-Hl (λn k=>if (k==NameKind.free&&env.scope.kind==.function&&env.kindOf n==some .cell)=true then .cell else k) x scope.names];unfold relabel;dsimp only
 congr 1
 apply ug0;intro p _;clear 5 p n k;dsimp only
 split<;>rfl
theorem Cg{x:Str}{k:NameKind}:∀{l:List (Str×NameKind)},l.lookup x=some k->(x,k)∈l
 |(n,k')::l,h=>by
   rw[uk0] at h
   by_cases hx:(x==n)=true
   .rw[hx] at h;cases h;rw[eq_of_beq hx];exact ug5
   .rw[ui1.mpr hx] at h;exact ue3 _ (Cg h)
theorem Lh{scope:Scope}{env:Env}{x:Str}(hcell:∀y∈scope.names,y.2≠.cell)(h:(relabel scope env).names.lookup x=some .cell\/(relabel scope env).names.lookup x=some .free):scope.names.lookup x=some .free:=by
 rw[Fm] at h
 cases e:scope.names.lookup x with
 |none=>rw[e] at h;rcases h with h|h<;>cases h
 |some k=>
   by_cases hk:k=.free
   .rw[hk]
   .have hb:(k==NameKind.free)=false:=by simpa using hk
    rw[e] at h;simp only[un2,hb,Bool.false_and,ug8,dR] at h;rcases h with h|h
    .cases h;exact absurd rfl (hcell _ (Cg e))
    .cases h;exact absurd rfl hk
def PIf(X:Cx)(ifs:List Expr)(t:TT):Prop:=
 ∀(bO:List (bQ×Obj)) (s:bR) (σ:St) (H:Hp) (Q:Bool->Hp->Prop),Inv X bO σ H s->t σ H Q->
  wpAny (model X.prog X.w) X.A (forIn ifs true λc r=>if r=true then do let ok <-isTrue c X.env (eval c X.env);pure (ForInStep.yield ok) else pure (ForInStep.yield r)) (TP X bO σ Q) X.xe s
def YQ:TT:=λ_ H Q=>Q true H
theorem US{X:Cx}:PIf X [] YQ:=λ_ _ _ H _ I h=>wpAny_tests_nil ⟨H,I,h⟩
theorem UT{X:Cx}{c:Expr}{t:TT}(h:PT X c t):PIf X [c] t:=λbO s σ H Q I q=>wpAny_tests_one (h bO s σ H Q I q)
def Lz(J:It)(g:TG)(tt:TT)(te:TE)(σ₀:St)(H1:Hp)(Fin:List V->Hp->Prop):Prop:=
 ∃W:Nat->Nat->List V->St->Hp->Prop,(∃m,W 0 m [] σ₀ H1)/\∀i m acc σ' H',W i m acc σ' H'->acc.length<=sizeLine/\
  ((J.stop i H'/\Fin acc H')\/
    (J.go i H'/\∀x H2,J.yld i H' x H2->g x σ' H2 λσ3 H3=>tt σ3 H3 λb H4=>if b=true then te σ3 H4 λv H5=>∃m',m'<m/\W (i+1) m' (acc++[v]) σ3 H5 else ∃m',m'<m/\W (i+1) m' acc σ3 H4))
def Kf(wi:TI)(g:TG)(tt:TT)(te:TE)(σf:St->St):TE:=λσ H Q=>wi σ H λJ H1=>Lz J g tt te (σf σ) H1 λacc H'=>∀p,H' p=none->acc.length<=sizeLine->Q (.ref p) (upd H' p (.lst acc))
structure CmpOk(X:Cx)(scope:Scope)(N':List Str)(σf:St->St):Prop where
 kind:scope.kind=.function
 cell:∀y∈scope.names,y.2≠.cell
 loc:∀y∈scope.names,y.2=.local->scope.names.lookup y.1=some .local
 free:∀y∈scope.names,y.2=.free->X.env.kindOf y.1=some .cell\/X.env.kindOf y.1=some .free
 len:∀σ:St,σ.length=X.N.length->(σf σ).length=N'.length
 vals:∀(σ:St) (j:Nat) (x:Str) (v:V),N'[j]?=some x->(σf σ)[j]?=some (some v)->∃i:Nat,X.N[i]?=some x/\σ[i]?=some (some v)/\scope.names.lookup x=some .free
section
variable{bO:List (bQ×Obj)}{σ:St}{H2:Hp}{s2:bR}{cl:List (Str×bQ)}{fp:List bQ}
section
variable{X:Cx}{tg elt iter:Expr}{ifs:List Expr}{scope:Scope}{pos:Pos}{N':List Str}{wi:TI}{g:TG}{tt:TT}{te:TE}{σf:St->St}
theorem We{C:bQ}(O:CmpOk X scope N' σf)(I2:Inv X bO σ H2 s2)(f2:∀b∈fp,FpOk X bO H2 b)(hC:s2.heap.objs.size<=C)
 (hlt:∀b∈fp,b<s2.heap.objs.size) (e2:∀x c,cl.lookup x=some c->X.env.cells.lookup x=some c) (e4:∀y∈scope.names,y.2=.free->∃c,cl.lookup y.1=some c):(Bq X N' scope cl C s2 H2 fp).Ok where
 mod:=I2.ok.mod
 kind:=O.kind
 glob:=I2.ok.glob
 blt:=I2.ok.blt
 above:=hC
 inj:=λx y c h1 h2=>I2.ok.inj x y c (e2 x c h1) (e2 y c h2)
 has:=λx h=>by
  have q:=Lh (env:=X.env) (x:=x) O.cell h;exact e4 _ (Cg q) rfl
 cab:=λx c h _=>nomatch h
 hd:=I2.ok.hd
 frames:=I2.ok.frames
 stk:=.inl rfl
 exf:=λb hb=>⟨up5 (ug4 (hlt b hb) hC),λx c e=>(f2 b hb).2.2.2.2.1 x c (e2 x c e)⟩
 bs:=I2.bs
 bsz:=up6 I2.ok.bsz I2.sz
 noex:=λb o e hb=>by
  rcases (f2 b hb).2.2.2.1 with z|z
  .exact I2.ok.noex b o e z
  .exact absurd (ug4 (up4 (I2.ok.bs b o e).1) z) (uo4 _)
 exfs:=λb hb z=>by
  rcases uo5.mp (I2.stkSub b z) with q|q
  .exact(f2 b hb).2.1 q
  .exact(f2 b hb).2.2.1 q
 funs:=I2.stack
 frf:=I2.stkFree
theorem XU(I2:Inv X bO σ H2 s2){a:bQ}(h:s2.heap.objs.size<=a):a∉frs X.stack:=λhb=>by
 rcases uo5.mp (I2.stkSub a hb) with q|q
 .exact absurd (ug4 I2.lt h) (by rw[q];exact uo4 _)
 .exact I2.nofs h q
theorem Kn{it:bQ}{tn:Nat->Heap->Prop}{J:It}{Fin:List V->Hp->Prop}{RR:bP->bQ->Result->bR->Prop}{E:bP->bR->Prop}(O:CmpOk X scope N' σf)(hc:X.calm=true)
 (I2:Inv X bO σ H2 s2) (T:Turn X.prog X.w X.K tg J fp it tn) (st2:tn 0 s2.heap) (f2:∀b∈fp,FpOk X bO H2 b)
 (e2:∀x c,cl.lookup x=some c->X.env.cells.lookup x=some c) (e4:∀y∈scope.names,y.2=.free->∃c,cl.lookup y.1=some c)
 (hg:∀C,PG (Bq X N' scope cl C s2 H2 fp) tg g) (ht:∀C,PIf (Bq X N' scope cl C s2 H2 fp) ifs tt) (he:∀C,PE (Bq X N' scope cl C s2 H2 fp) elt te)
 (B:Lz J g tt te (σf σ) H2 Fin)
 (fin:∀C s' σ' H' acc m,s2.heap.objs.size<=C->C≠s2.heap.objs.size->Inv (Bq X N' scope cl C s2 H2 fp) [] σ' H' s'->H' s2.heap.objs.size=none->acc.length<=sizeLine->(∃its n,Vals acc its/\s'.heap.get? s2.heap.objs.size=some { cls:=.type "list",data:=.seq its.toArray n })->Fin acc H'->s'.heap.Ns C m->
   RR (.ref s2.heap.objs.size) C (.ok .next) s') :
 wpAny (model X.prog X.w) X.A (newList []) (λacc s₃=>wpAny (model X.prog X.w) X.A (newFunctionEnv scope X.env.globals cl [] X.env.qual none .none (some X.env)) (λcenv s₄=>
  codeAny (model X.prog X.w) X.A (.compStart (.ListComp elt [⟨tg,iter,ifs,0⟩] scope pos) 0 (.ref it) acc {cenv with scope:=relabel scope X.env}) (RR acc cenv.locals) s₄) E s₃) E s2:=by
 refine cU (wpAny_newFunctionEnv O.cell (by intro y hy;simp at hy) (λh₁ hns₁ hsb₁=>?_) O.kind);dsimp only at hns₁ hsb₁⊢;generalize hH2:s2.heap.push {cls:=.type "list",dict:=none,data:=.seq ([]:List bP).toArray}=HP at hns₁ hsb₁⊢;have hC:HP.objs.size=s2.heap.objs.size+1:=by rw[<-hH2,Heap.size_push]
 generalize hDD:s2.heap.objs.size=DD at *;generalize hCC:HP.objs.size=CC at *;have hDC:DD≠CC:=by rw[hC];exact up5 (Nat.lt_succ_self _)
 have hCle:s2.heap.objs.size<=CC:=by rw[hC,hDD];exact ur1 _
 have hlt:∀b∈fp,b<s2.heap.objs.size:=λb hb=>by obtain⟨o,e,_⟩:=T.obj _ _ st2 b hb;exact up4 e
 have hlt':∀b∈fp,b<DD:=λb hb=>by rw[<-hDD];exact hlt b hb
 have below:∀b,b<DD->b≠CC/\b≠DD:=λb hb=>⟨by rw[hC];exact up5 (ui2 hb),up5 hb⟩;have old:∀b o,s2.heap.get? b=some o->h₁.get? b=some o:=λb o e=>hsb₁.extBut b o (below b (by rw[<-hDD];exact up4 e)).1 (uc4 _ (hH2 ▸ uc4 _ e));have hacc:h₁.get? DD=some {cls:=.type "list",data:=.seq ([]:List bP).toArray}:=by
  refine hsb₁.extBut _ _ hDC (uc4 _ ?_);rw[<-hH2,<-hDD];exact uf8 _ rfl
 have ok:=We (cl:=cl) (C:=CC) O I2 f2 hCle hlt e2 e4;have hfs:DD∉frs X.stack:=XU I2 (by rw[hDD];exact uq9 _);obtain⟨W,⟨m0,w0⟩,turn⟩:=B
 let X':Cx:=Bq X N' scope cl CC s2 H2 fp
 have I0:Inv X' [] (σf σ) H2 {s2 with heap:=h₁,toks:=s2.toks+([]:List (Str×bP)).length}:=by
  refine⟨ok,rfl,I2.bare,Un.kept old,⟨_,hns₁,λj x v q1 q2 q3=>?_⟩,λx c e=>?_,I2.hok.fresh hCle,λx c e=>I2.freeC x c (e2 x c e),(λp hp=>nomatch hp),I2.hok.kept old,O.len σ I2.len⟩
  .clear 5(O.vals σ j x v q1 q2)i n1 n2 n3;obtain⟨m,_,hl⟩:=I2.loc;have hfr:=O.free _ (Cg n3) rfl;clear 5(hl i x v n1 n2 (.inr hfr))u r l;refine⟨u,r,?_⟩;rcases l with⟨k,_⟩|⟨_,c,ec,hcell⟩
   .rcases hfr with z|z<;>(have z':=k.symm.trans z;cases z')
   .clear 5(e4 _ (Cg n3) rfl)c' ec';have z:=e2 _ _ ec';have ez:X.env.cells.lookup x=some c':=z;rw[ec] at ez
    cases ez
    refine .inr ⟨?_,c,ec',?_⟩
    .show(relabel scope X.env).names.lookup x=some .cell\/(relabel scope X.env).names.lookup x=some .free;rw[Fm,n3];simp only[un2]
     split
     .exact .inl rfl
     .exact .inr rfl
    .clear 5 hcell o ho hd;exact⟨o,old _ _ ho,hd⟩
  .clear 5(I2.cell x c (e2 x c e))v o ho hd;exact⟨v,o,old _ _ ho,hd⟩
 have loop:∀s₃:bR,s₃ = {s2 with heap:=h₁,toks:=s2.toks+([]:List (Str×bP)).length}->
  codeAny (model X.prog X.w) X.A (.compLoop (.ListComp elt [⟨tg,iter,ifs,0⟩] scope pos) 0 (.ref it) (.ref DD) (compEnvC scope cl CC X.env)) (RR (.ref DD) CC) s₃:=by
  rintro s₃ rfl;refine Kz (λn s'=>XB6 λi acc its nn σ' H'=>AB7 (Inv X' [] σ' H' s') (tn i s'.heap) ((∀b∈fp,H' b=none)) (Vals acc its) (s'.heap.get? DD=some {cls:=.type "list",data:=.seq its.toArray nn}) (H' DD=none) (W i n acc σ' H')) ?_ m0
   ⟨0,[],[],0,σf σ,H2,I0,T.keep _ _ _ st2 (λb _ o e=>old b o e),λb hb=>(f2 b hb).1,.nil,hacc,I2.hok.fresh (by rw[hDD];exact uq9 _),w0⟩
  rintro n s' ⟨i,acc,its,nn,σ3,H3,I3,st3,fr3,hv,hD,hDn,w3⟩;have I3p:Inv X' [(DD,({cls:=.type "list",data:=.seq its.toArray nn}:Obj))] σ3 H3 s':=I3.pins_of λp hp=>by
   have e:p=(DD,({cls:=.type "list",data:=.seq its.toArray nn}:Obj)):=by simpa using hp
   subst e;exact⟨hD,hDn,hDC,hfs,λv z=>nomatch z⟩
  have stat:∀{pins':List (bQ×Obj)}{H':Hp},(∀p∈pins',p.1=DD)->(∀b∈fp,H' b=none)->∀b∈fp,FpOk X' pins' H' b:=λ{pins' H'} hp hn b hb=>
   ⟨hn b hb,(ok.exf b hb).1,ok.exfs b hb,.inl hb,(ok.exf b hb).2,λp hp' z=>by
    have e:p.1=DD:=hp p (by simpa[X',Bq] using hp');exact absurd (hlt' b hb) (by rw[<-z,e];exact uo4 _)⟩
  have one:∀p∈[(DD,({cls:=.type "list",data:=.seq its.toArray nn}:Obj))],p.1=DD:=λp hp=>by
   have e:p=(DD,({cls:=.type "list",data:=.seq its.toArray nn}:Obj)):=by simpa using hp
   rw[e]
  clear 5(turn i n acc σ3 H3 w3)hz tr;rcases tr with⟨stop,qf⟩|⟨go,step⟩
  .refine thn (T.done X' rfl rfl rfl hc i _ s' σ3 H3 (λ_ _=>False) I3p (stat one fr3) st3 stop) λr s4 z9=>?_;clear 5 z9 hr I4;subst hr;obtain⟨m4,hm4,_⟩:=I4.loc;have pD:=(I4.pin (DD,({cls:=.type "list",data:=.seq its.toArray nn}:Obj)) (by simp[X',Bq])).1;have I4':Inv X' [] σ3 H3 s4:=I4.pins_of λp hp=>nomatch hp;exact fin CC s4 σ3 H3 acc m4 (by rw[hDD] at hCle;exact hCle) (Ne.symm hDC) I4' hDn hz ⟨its,nn,hv,pD⟩ qf hm4
  .refine thn (T.item X' rfl rfl rfl hc i _ s' σ3 H3 (λ_ _=>False) I3p (stat one fr3) st3 go) λr s4 z9=>?_;clear 5 z9 u hr h4;subst hr;refine thn h4 λ_ s5 z9=>?_;clear 5 z9 x H5 I5 r5 y5 st5 fr5;have I5':=I5.pinned (stat one fr5) (T.obj _ _ st5);refine thn (hg CC _ s5 σ3 H5 x u _ I5' r5 (step x H5 y5)) λ_ s6 z9=>?_;clear 5 z9 σ6 H6 I6 q6;refine thn (ht CC _ s6 σ6 H6 _ I6 q6) λb s7 z9=>?_;clear 5 z9 H7 I7 q7;have back:∀{H8:Hp}{s8:bR},Inv X' ([(DD,({cls:=.type "list",data:=.seq its.toArray nn}:Obj))]++GF fp s5.heap) σ6 H8 s8->
    s8.heap.get? DD=some {cls:=.type "list",data:=.seq its.toArray nn}/\H8 DD=none/\tn (i+1) s8.heap/\(∀b∈fp,H8 b=none)/\Inv X' [] σ6 H8 s8:=λ{H8 s8} I8=>by
    have p1:=I8.pin (DD,({cls:=.type "list",data:=.seq its.toArray nn}:Obj)) (by simp[X',Bq]);refine⟨p1.1,p1.2.1,T.keep _ _ _ st5 λb hb o e=>(I8.pin (b,o) (ud1 _ (ud1 _ (Ec hb e)))).1,λb hb=>?_,I8.pins_of λp hp=>nomatch hp⟩;obtain⟨o,e,_⟩:=T.obj _ _ st5 b hb;exact(I8.pin (b,o) (ud1 _ (ud1 _ (Ec hb e)))).2.1
   cases b with
   |false=>
     rw[eC ug6] at q7⊢;clear 5 q7 m' hm w7;clear 5(back I7)a1 a2 a3 a4 a5;exact⟨m',hm,i+1,acc,its,nn,σ6,H7,a5,a3,a4,hv,a1,a2,w7⟩
   |true=>
     rw[eB rfl] at q7⊢;refine thn (he CC _ s7 σ6 H7 _ I7 q7) λy s8 z9=>?_;clear 5 z9 v8 H8 I8 r8 m' hm w8;clear 5(back I8)a1 a2 a3 a4 a5;have hsz:its.toArray.size<=sizeLine:=by
      have e:=hv.length;simpa[e] using hz
     refine wpAny_list_append_plain (hsz:=hsz) ⟨nn,a1⟩ λh9 hl9 hs9=>?_;clear 5 hl9 n9 e9;have e9':h9.get? DD=some {cls:=.type "list",data:=.seq (its++[y]).toArray n9}:=by simpa using e9
     refine⟨m',hm,i+1,acc++[v8],its++[y],n9,σ6,H8,a5.turned (t':=s8.toks) (h':=h9) (it:=DD) (λb o hb e=>hs9.extBut b o hb e) a2 hDC (.inr (show s2.heap.objs.size<=DD by rw[hDD];exact uq9 _)) (λx' c e z=>?_) (λp hp=>nomatch hp),T.keep _ _ _ a3 λb hb o e=>hs9.extBut b o (up5 (hlt' b hb)) e,a4,hv.append (.cons r8 .nil),e9',a2,w8⟩;clear 5(I2.cell x' c (e2 x' c e))v o ho hd;have:=up4 ho;rw[hDD,z] at this;exact uo4 _ this
 exact codeAny_compStart_list (loop _ rfl) (T.self _ 0 _ _ _ (T.keep _ _ _ st2 λb _ o e=>old b o e) (loop _ rfl))
end
section
variable{X:Cx}{tg elt iter:Expr}{ifs:List Expr}{scope:Scope}{pos:Pos}{N':List Str}{wi:TI}{g:TG}{tt:TT}{te:TE}{σf:St->St}
theorem JE{σ':St}{H':Hp}{s':bR}{C:bQ}{acc:List V}{its:List bP}{n:Nat}{h':Heap}(I2:Inv X bO σ H2 s2)(f2:∀b∈fp,FpOk X bO H2 b)
 (hC:s2.heap.objs.size<=C) (hCD:C≠s2.heap.objs.size) (I':Inv (Bq X N' scope cl C s2 H2 fp) [] σ' H' s') (hDn:H' s2.heap.objs.size=none) (hz:acc.length<=sizeLine) (hv:Vals acc its)
 (hD:s'.heap.get? s2.heap.objs.size=some {cls:=.type "list",data:=.seq its.toArray n}) (hs:Heap.SameBut C s'.heap h') :
 Inv X bO σ (upd H' s2.heap.objs.size (.lst acc)) {s' with heap:=h'}:=by
 have U:=I'.base;have lt:∀b o,s2.heap.get? b=some o->b≠C/\b≠s2.heap.objs.size:=λb o e=>⟨up5 (ug4 (up4 e) hC),up5 (up4 e)⟩;have neD:∀b u,H' b=some u->b≠s2.heap.objs.size:=λb u e=>Ax e hDn;have neC:∀b u,H' b=some u->b≠C:=λb u e=>Ax e I'.free;refine I2.call' (s':={s' with heap:=h'}) (ch:=fp) I'.os ⟨λb o e n hb hx=>?_,λb o e n hb hx=>?_,λb o e n hx=>?_,λb o e hx=>?_,λb xs e=>?_,λb o u e=>?_,λb ps e=>?_⟩ ?_ I'.bare λb hb=>⟨(f2 b hb).2.2.2.1,(f2 b hb).2.1,(f2 b hb).2.2.2.2.1,(f2 b hb).2.2.2.2.2⟩
 .exact hs.extBut b o (lt b o e).1 (U.keep b o e n hb hx)
 .clear 5(U.slot b o e n hb hx)sl q;exact⟨sl,hs.extBut b _ (lt b o e).1 q⟩
 .rw[Ar (lt b o e).2];exact U.free b o e n hx
 .clear 5(U.there b o e hx)o' q;exact⟨o',hs.extBut b _ (lt b o e).1 q⟩
 .have q:=U.tups b xs e;rw[Ar (neD b _ q)];exact q
 .have q:=U.frzs b o u e;rw[Ar (neD b _ q)];exact q
 .clear 5(U.tbls b ps e)m q;exact⟨m,by rw[Ar (neD b _ q)];exact q⟩
 .intro b u e
  by_cases hb:b=s2.heap.objs.size
  .subst hb;rw[AA] at e
   cases e
   exact⟨hz,its,n,hv,hs.extBut _ _ (Ne.symm hCD) hD⟩
  .rw[Ar hb] at e;refine(I'.hok b u e).stay (λc v hc q=>hs.extBut c v ?_ q) (λc q=>by rw[Ar (neD c _ q)];exact q) λc xs q=>by rw[Ar (neD c _ q)];exact q
   rcases hc with z|z
   .rw[z];exact neC b u e
   .exact neC c _ z
theorem Jj(O:CmpOk X scope N' σf)(hc:X.calm=true)(hi:PI X tg iter wi)
 (hg:∀cl C s2 H2 fp,PG (Bq X N' scope cl C s2 H2 fp) tg g) (ht:∀cl C s2 H2 fp,PIf (Bq X N' scope cl C s2 H2 fp) ifs tt) (he:∀cl C s2 H2 fp,PE (Bq X N' scope cl C s2 H2 fp) elt te)
 (hs:autoParam (∀x,foldedSetIterable iter X.env x=pure x) q2T):PE X (.ListComp elt [⟨tg,iter,ifs,0⟩] scope pos) (Kf wi g tt te σf):=by
 intro bO s σ H Q I h;obtain⟨cl,e1,e2,e4⟩:=Ie (scope:=scope) (env:=X.env) λy hy hf=>I.ok.has y.1 (O.free y hy hf);rw[eval_ListComp];refine wpAny_comprehension_free (use:=none) rfl hs e1 O.kind O.loc (thn (hi bO s σ H _ I h) λv s1 h1=>thn h1 λitv s2 h2=>?_);clear 5 h2 it fp tn J H2 rfl I2 T st2 f2 B;refine Kn (RR:=λacc C=>compPost (model X.prog X.w) X.A X.xe none (EP X bO σ Q) acc C) O hc I2 T st2 f2 e2 e4 (λC=>hg cl C s2 H2 fp) (λC=>ht cl C s2 H2 fp) (λC=>he cl C s2 H2 fp) B ?_;intro C s' σ' H' acc m hC hCD I' hDn hz hL fin hn;clear 5 hL its n hv hD;refine⟨m,hn,λh' hs'=>?_⟩;exact⟨.ref s2.heap.objs.size,upd H' _ (.lst acc),JE I2 f2 hC hCD I' hDn hz hv hD hs',rfl,fin _ hDn hz⟩
set_option tactic.hygienic true in
theorem UW{i:Nat}{y:Str}{py spos:Pos}(O:CmpOk X scope N' σf)(hc:X.calm=true)(hN:X.N.Nodup)(hiN:X.N[i]?=some y)(hx:X.env.scope.names.lookup y=some .local)(hi:PI X tg iter wi)
 (hg:∀cl C s2 H2 fp,PG (Bq X N' scope cl C s2 H2 fp) tg g) (ht:∀cl C s2 H2 fp,PIf (Bq X N' scope cl C s2 H2 fp) ifs tt) (he:∀cl C s2 H2 fp,PE (Bq X N' scope cl C s2 H2 fp) elt te)
 (hsw:autoParam (swapsWith (.ListComp elt [⟨tg,iter,ifs,0⟩] scope pos) (some (.Name y py)) spos.line X.env=pure true) q3T)
 (hs:autoParam (∀x,foldedSetIterable iter X.env x=pure x) q2T):PS X (.Assign [.Name y py] (.ListComp elt [⟨tg,iter,ifs,0⟩] scope pos) spos) (Ly (Kf wi g tt te σf) (Im i)):=by
 intro bO s σ H D I h;obtain⟨cl,e1,e2,e4⟩:=Ie (scope:=scope) (env:=X.env) λy hy hf=>I.ok.has y.1 (O.free y hy hf);rw[exec_Assign_Name_used _ _ _ _ hsw];refine ur4 (dr (ur4 ?_));show wpAny _ X.A (do let _ <-comprehension (.ListComp elt [⟨tg,iter,ifs,0⟩] scope pos) scope X.env _ (newList []) false (eval iter X.env) (some (assign (.Name y py) X.env))) _ _ s;refine ur4 (thn (wpAny_comprehension_free (use:=some (assign (.Name y py) X.env)) (Q:=λ_ s'=>SP X bO D .next s') rfl hs e1 O.kind O.loc (thn (hi bO s σ H _ I h) λv s1 h1=>thn h1 λitv s2 h2=>?_)) (λ_ s' hq=>ur5 (ur5 hq)));clear 5 h2 it fp tn J H2 rfl I2 T st2 f2 B;refine Kn (RR:=λacc C=>compPost (model X.prog X.w) X.A X.xe (some (assign (.Name y py) X.env)) (λ_ s'=>SP X bO D .next s') acc C) O hc I2 T st2 f2 e2 e4 (λC=>hg cl C s2 H2 fp) (λC=>ht cl C s2 H2 fp) (λC=>he cl C s2 H2 fp) B ?_;intro C s' σ' H' acc m hC hCD I' hDn hz hL fin hn;clear 5 hL its n hv hD;show wpAny _ X.A (assign (.Name y py) X.env (.ref s2.heap.objs.size)) _ _ _;have I3:=JE I2 f2 hC hCD I' hDn hz hv hD (Heap.SameBut.refl ..);refine wpAny_assign_Name (JT I3 hN hiN (.inl hx) (v:=.ref s2.heap.objs.size) rfl (λs4 I4 z9=>?_) (.inr hx));clear 5 z9 a hsb ha;have hCL:C≠X.env.locals:=up8 (ug4 I2.lt hC);have hCc:∀x c,X.env.cells.lookup x=some c->c≠C:=λx c e z=>by
  clear 5(I2.cell x c e)v q;exact absurd (ug4 q.lt (by rw[z];exact hC)) (uo4 _)
 have hCa:C≠a:=by
  rcases ha with z|z
  .rw[z];exact hCL
  .exact λq=>hCc _ _ z q.symm
 refine⟨m,hn.sameBut hsb hCa,λh' hs'=>?_⟩;have hnC:(upd H' s2.heap.objs.size (.lst acc)) C=none:=by rw[Ar hCD];exact I'.free
 refine⟨_,_,I4.turned (t':=s4.toks) (h':=h') (it:=C) (λb o hb e=>hs'.extBut b o hb e) hnC hCL (.inr (up6 I2.sz hC)) hCc (λp hp z=>?_),fin _ hDn hz⟩;exact absurd (ug4 (up4 (I2.pin p hp).1) (by rw[z];exact hC)) (uo4 _)
end
end
set_option autoImplicit false
inductive D where
 |non|bl (b:Bool)|int (i:Int)|str (x:Str)|tup (xs:List D)|lst (xs:List D)|scr (ns:List Int)|dic|obj (k:Nat)|ty (n:String)|exc (n:Str) (xs:List D)
structure Cf where
 ι:List bQ
 O:bQ->Prop
def Cf.A(c:Cf)(a:bQ):Prop:=a∈c.ι\/c.O a
def Scr(K:bN)(c:Cf)(H:Hp)(a:bQ)(vs:List V):Prop:=
 ((∃o,H a=some (.frz o (.lst vs)))/\¬c.A a)\/
   ∃(o:Obj) (its:Array bP) (n:Nat),K.lookup a=some o/\o.cls=.type "list"/\o.dict=none/\o.data=.seq its n/\its.size<=sizeLine/\Vals vs its.toList
def XIs(qx:Bool)(x C:bQ)(dx:Option bQ)(h:Heap):Prop:=∃(o:Obj) (vs:Array bP),h.get? x=some o/\o.cls=.ref C/\o.dict=dx/\o.data=.fields vs/\(qx=true->vs[2]?=some .none/\4<vs.size)
noncomputable def Wv(n:Str):List Str:=if n = "NoTalk" then ["at"] else if n = "Broken" then ["at", "side"] else []
def XFld(c:Cf)(H:Hp)(dx:Option bQ)(ns:List Str)(vs:List V):Prop:=match dx with
 |none=>vs=[]
 |some d=>H d=some (.xd (ns.zip vs))/\¬c.A d
mutual
inductive Rep(K:bN)(c:Cf)(H:Hp):V->D->Prop where
 |non:Rep K c H .non .non
 |bl (b:Bool):Rep K c H (.bl b) (.bl b)
 |int (i:Int):Rep K c H (.int i) (.int i)
 |str (x:Str):Rep K c H (.str x) (.str x)
 |ty (n:String):Rep K c H (.ty n) (.ty n)
 |tup {a:bQ}{vs:List V}{ds:List D}:H a=some (.tup vs)->¬c.A a->Reps K c H vs ds->Rep K c H (.ref a) (.tup ds)
 |lst {a:bQ}{vs:List V}{ds:List D}:H a=some (.lst vs)->¬c.A a->Reps K c H vs ds->Rep K c H (.ref a) (.lst ds)
 |scr {a:bQ}{ns:List Int}:Scr K c H a (ns.map V.int)->Rep K c H (.ref a) (.scr ns)
 |dic {a:bQ}:H a=some (.dK [])->¬c.A a->Rep K c H (.ref a) .dic
 |obj {a:bQ}{k:Nat}:c.ι[k]?=some a->Rep K c H (.ref a) (.obj k)
 |exc {qx:Bool}{x C:bQ}{dx:Option bQ}{n:Str}{vs:List V}{ds:List D}:PySem.W.nsIn K mainGlobals n=some (some (.ref C))->H x=some (.ext (XIs qx x C dx))->¬c.A x->XFld c H dx (Wv n) vs->Reps K c H vs ds->Rep K c H (.ref x) (.exc n ds)
inductive Reps(K:bN)(c:Cf)(H:Hp):List V->List D->Prop where
 |nil:Reps K c H [] []
 |cons {v:V}{d:D}{vs:List V}{ds:List D}:Rep K c H v d->Reps K c H vs ds->Reps K c H (v::vs) (d::ds)
end
def Rpv(K:bN)(c:Cf)(H:Hp)(v:V):D->Prop
 |.non=>v=.non
 |.bl b=>v=.bl b
 |.int i=>v=.int i
 |.str x=>v=.str x
 |.ty n=>v=.ty n
 |.tup ds=>∃a vs,v=.ref a/\H a=some (.tup vs)/\¬c.A a/\Reps K c H vs ds
 |.lst ds=>∃a vs,v=.ref a/\H a=some (.lst vs)/\¬c.A a/\Reps K c H vs ds
 |.scr ns=>∃a,v=.ref a/\Scr K c H a (ns.map V.int)
 |.dic=>∃a,v=.ref a/\H a=some (.dK [])/\¬c.A a
 |.obj k=>∃a,v=.ref a/\c.ι[k]?=some a
 |.exc _ _=>True
theorem Rep.rv{K:bN}{c:Cf}{H:Hp}{v:V}{d:D}(h:Rep K c H v d):Rpv K c H v d:=by cases h<;>first|rfl|trivial|exact⟨_,rfl,by assumption⟩|exact⟨_,rfl,by assumption,by assumption⟩|exact⟨_,_,rfl,by assumption,by assumption,by assumption⟩
structure Ext(c:Cf)(H:Hp)(c':Cf)(H':Hp):Prop where
 keep:∀b o,H b=some o->¬c.A b->H' b=some o
 av:∀b o,H b=some o->c'.A b->c.A b
 io:∀(k:Nat) (a:bQ),c.ι[k]?=some a->c'.ι[k]?=some a
section
variable{c:Cf}{H:Hp}
theorem Ext.refl:Ext c H c H:=⟨λ_ _ h _=>h,λ_ _ _ h=>h,λ_ _ h=>h⟩
theorem Ext.trans{c1 c2:Cf}{H1 H2:Hp}(a:Ext c H c1 H1)(b:Ext c1 H1 c2 H2):Ext c H c2 H2:=by
 refine⟨λx o h n=>?_,λx o h n=>?_,λk x h=>b.io k x (a.io k x h)⟩
 .exact b.keep x o (a.keep x o h n) λz=>n (a.av x o h z)
 .by_cases q:c.A x
  .exact q
  .exact a.av x o h (b.av x o (a.keep x o h q) n)
variable{K:bN}{a:bQ}{vs:List V}
theorem Scr.mono{c':Cf}{H':Hp}(e:Ext c H c' H')(h:Scr K c H a vs):Scr K c' H' a vs:=by
 rcases h with⟨⟨o,h⟩,n⟩|h
 .exact .inl ⟨⟨o,e.keep _ _ h n⟩,λz=>n (e.av _ _ h z)⟩
 .exact .inr h
theorem Scr.sq(h:Scr K c H a vs):SqL K H a vs:=by
 rcases h with⟨h,_⟩|h
 .exact .inl (.inr h)
 .exact .inr h
theorem XFld.mono{c':Cf}{H':Hp}{dx:Option bQ}{ns:List Str}(e:Ext c H c' H')(h:XFld c H dx ns vs):XFld c' H' dx ns vs:=by
 cases dx with
 |none=>exact h
 |some d=>exact⟨e.keep _ _ h.1 h.2,λz=>h.2 (e.av _ _ h.1 z)⟩
mutual
theorem Rep.mono{K:bN}{c c':Cf}{H H':Hp}(e:Ext c H c' H'){v:V}{d:D}(r:Rep K c H v d):Rep K c' H' v d:=by
 cases r with
 |non=>exact .non
 |bl b=>exact .bl b
 |int i=>exact .int i
 |str x=>exact .str x
 |ty n=>exact .ty n
 |tup h n r=>exact .tup (e.keep _ _ h n) (λz=>n (e.av _ _ h z)) (Reps.mono e r)
 |lst h n r=>exact .lst (e.keep _ _ h n) (λz=>n (e.av _ _ h z)) (Reps.mono e r)
 |scr h=>exact .scr (h.mono e)
 |dic h n=>exact .dic (e.keep _ _ h n) (λz=>n (e.av _ _ h z))
 |obj h=>exact .obj (e.io _ _ h)
 |exc g h n f r=>exact .exc g (e.keep _ _ h n) (λz=>n (e.av _ _ h z)) (f.mono e) (Reps.mono e r)
theorem Reps.mono{K:bN}{c c':Cf}{H H':Hp}(e:Ext c H c' H'){vs:List V}{ds:List D}(r:Reps K c H vs ds):Reps K c' H' vs ds:=by
 cases r with
 |nil=>exact .nil
 |cons h t=>exact .cons (Rep.mono e h) (Reps.mono e t)
end
section
variable{K:bN}{c:Cf}{H:Hp}
theorem Reps.length:∀{vs:List V}{ds:List D},Reps K c H vs ds->vs.length=ds.length
 |_,_,.nil=>rfl
 |_,_,.cons _ t=>by simp[Reps.length t]
theorem Reps.get:∀{vs:List V}{ds:List D}{i:Nat}{v:V}{d:D},Reps K c H vs ds->vs[i]?=some v->ds[i]?=some d->Rep K c H v d
 |_,_,_,_,_,.nil,e,_=>by simp at e
 |_,_,0,_,_,.cons r _,e,e'=>by simp at e e';subst e e';exact r
 |_,_,i+1,_,_,.cons _ t,e,e'=>Reps.get (i:=i) t (by simpa using e) (by simpa using e')
theorem Reps.at:∀{vs:List V}{ds:List D}{i:Nat}{d:D},Reps K c H vs ds->ds[i]?=some d->∃v,vs[i]?=some v/\Rep K c H v d
 |_,_,_,_,.nil,e=>by simp at e
 |_,_,0,_,.cons r _,e=>by simp at e;subst e;exact⟨_,rfl,r⟩
 |_,_,i+1,_,.cons _ t,e=>by
   clear 5(Reps.at (i:=i) t (by simpa using e))v h1 h2;exact⟨v,by simpa using h1,h2⟩
theorem Reps.append{vs ws:List V}{ds es:List D}(r:Reps K c H vs ds)(s:Reps K c H ws es):Reps K c H (vs++ws) (ds++es):=by
 cases r with
 |nil=>exact s
 |cons r t=>exact .cons r (Reps.append t s)
theorem Reps.take:∀{vs:List V}{ds:List D} (n:Nat),Reps K c H vs ds->Reps K c H (vs.take n) (ds.take n)
 |_,_,0,_=>.nil
 |_,_,_+1,.nil=>.nil
 |_,_,n+1,.cons r t=>.cons r (Reps.take n t)
theorem Reps.drop:∀{vs:List V}{ds:List D} (n:Nat),Reps K c H vs ds->Reps K c H (vs.drop n) (ds.drop n)
 |_,_,0,r=>r
 |_,_,_+1,.nil=>.nil
 |_,_,n+1,.cons _ t=>Reps.drop n t
theorem Reps.set{v:V}{d:D}(r:Rep K c H v d):∀{vs:List V}{ds:List D} (i:Nat),Reps K c H vs ds->Reps K c H (vs.set i v) (ds.set i d)
 |_,_,_,.nil=>.nil
 |_,_,0,.cons _ t=>.cons r t
 |_,_,i+1,.cons q t=>.cons q (Reps.set r i t)
theorem Reps.ints:∀ns:List Int,Reps K c H (ns.map V.int) (ns.map D.int)
 |[]=>.nil
 |n::r=>.cons (.int n) (Reps.ints r)
theorem Reps.rep{vs:List V}{ds:List D}(h:Reps K c H vs ds):∀k:Nat,Reps K c H (List.replicate k vs).flatten (List.replicate k ds).flatten
 |0=>.nil
 |k+1=>by
   rw[uf9,uf9,uh9,uh9];exact h.append (Reps.rep h k)
end
inductive Ob where
 |lst (xs:List D)
 |dct (kvs:List (Key×D))
 |ins (n:Str) (fs:List (Str×D))
 |dtu (ks:List (Int×Int))
inductive Sl where
 |val (d:D)
 |own (xs:List D)
structure T where
 env:List (Option Sl)
 S:List Ob
def KVR(K:bN)(c:Cf)(H:Hp):List (Key×V)->List (Key×D)->Prop:=Paired λp q=>p.1=q.1/\Rep K c H p.2 q.2
noncomputable def Wd:List Str:=["Reader", "Side", "Lasting", "Parley", "Listener", "Relay", "Desk"]
noncomputable def atN:List Str:=["grammar", "standing", "wires", "places", "side", "said", "taken", "handed", "left", "right", "under_way", "grammars", "standings", "heard", "left_grammar", "right_grammar", "rows", "pair", "broken", "parley"]
def Zi(K:bN)(c:Cf)(H:Hp):List (Str×V)->List (Str×D)->Prop:=Paired λp q=>p.1=q.1/\Rep K c H p.2 q.2
def ObR(K:bN)(c:Cf)(H:Hp)(a:bQ):Ob->Prop
 |.lst ds=>∃vs,H a=some (.lst vs)/\Reps K c H vs ds
 |.dct kvs=>∃us,H a=some (.dK us)/\KVR K c H us kvs
 |.dtu ks=>∃us:List (List Key×V),H a=some (.dT us)/\us.map (·.1)=ks.map λp=>[Sum.inl p.1,Sum.inl p.2]
 |.ins n fs=>(n∈Wd/\∀p∈fs,p.1∈atN)/\∃C dx us,PySem.W.nsIn K mainGlobals n=some (some (.ref C))/\H a=some (.ins C dx us)/\Zi K c H us fs
theorem ObR.mono{K:bN}{c c':Cf}{H H':Hp}{a:bQ}{o:Ob}(e:Ext c H c' H')(h:ObR K c H a o)(ha:H' a=H a):ObR K c' H' a o:=by
 cases o with
 |lst ds=>clear 5 h vs h1 h2;exact⟨vs,ha.trans h1,h2.mono e⟩
 |dct kvs=>clear 5 h us h1 h2;exact⟨us,ha.trans h1,Paired.mapP h2 λ_ _ z=>⟨z.1,z.2.mono e⟩⟩
 |dtu ks=>clear 5 h us h1 h2;exact⟨us,ha.trans h1,h2⟩
 |ins n fs=>clear 5 h h0 C dx us g h1 h2;exact⟨h0,C,dx,us,g,ha.trans h1,Paired.mapP h2 λ_ _ z=>⟨z.1,z.2.mono e⟩⟩
theorem ObR.some{o:Ob}(h:ObR K c H a o):∃u,H a=some u:=by
 cases o with
 |lst ds=>obtain⟨vs,h1,_⟩:=h;exact⟨_,h1⟩
 |dct kvs=>obtain⟨us,h1,_⟩:=h;exact⟨_,h1⟩
 |dtu ks=>obtain⟨_,h1,_⟩:=h;exact⟨_,h1⟩
 |ins n fs=>obtain⟨_,_,_,_,_,h1,_⟩:=h;exact⟨_,h1⟩
structure SInv(K:bN)(c:Cf)(S:List Ob)(H:Hp):Prop where
 len:c.ι.length=S.length
 nd:c.ι.Nodup
 obs:∀(k:Nat) (a:bQ) (o:Ob),c.ι[k]?=some a->S[k]?=some o->ObR K c H a o
 trk:∀b,c.O b->∃o,H b=some o
 dis:∀b,c.O b->b∉c.ι
variable{S:List Ob}
theorem SInv.trkA(s:SInv K c S H){b:bQ}(h:c.A b):∃o,H b=some o:=by
 rcases h with h|h
 .clear 5(ue7.mp h)k hk e;have e1:c.ι[k]?=some b:=by rw[ub5 hk,e]
  have hk':k<S.length:=by rw[<-s.len];exact hk
  exact(s.obs k b _ e1 (ub5 hk')).some
 .exact s.trk b h
theorem SInv.free(s:SInv K c S H){b:bQ}(h:H b=none):¬c.A b:=λz=>by
 clear 5(s.trkA z)o e;rw[h] at e;cases e
structure FInv(K:bN)(Oo:bQ->Prop)(c:Cf)(t:T)(σ:St)(H:Hp):Prop where
 s:SInv K c t.S H
 len:t.env.length=σ.length
 sub:∀b,Oo b->c.O b
 val:∀(i:Nat) (d:D),t.env[i]?=some (some (.val d))->∃v,σ[i]?=some (some v)/\Rep K c H v d
 own:∀(i:Nat) (ds:List D),t.env[i]?=some (some (.own ds))->∃a vs,σ[i]?=some (some (.ref a))/\c.O a/\¬Oo a/\H a=some (.lst vs)/\Reps K c H vs ds
 inj:∀(i j:Nat) (ds es:List D) (a:bQ),t.env[i]?=some (some (.own ds))->t.env[j]?=some (some (.own es))->σ[i]?=some (some (.ref a))->σ[j]?=some (some (.ref a))->i=j
structure Stp(Oo:bQ->Prop)(c:Cf)(H:Hp)(c':Cf)(H':Hp):Prop where
 ext:Ext c H c' H'
 oo:∀b,Oo b->H' b=H b
theorem Stp.refl{Oo:bQ->Prop}{c:Cf}{H:Hp}:Stp Oo c H c H:=⟨.refl,λ_ _=>rfl⟩
theorem Stp.trans{Oo:bQ->Prop}{c c1 c2:Cf}{H H1 H2:Hp}(a:Stp Oo c H c1 H1)(b:Stp Oo c1 H1 c2 H2):Stp Oo c H c2 H2:=
 ⟨a.ext.trans b.ext,λx h=>(b.oo x h).trans (a.oo x h)⟩
section
variable{K:bN}{Oo:bQ->Prop}{c:Cf}{t:T}{σ:St}{H:Hp}
theorem Ext.laid(s:SInv K c S H){p:bQ}{o:HO}(h:H p=none):Ext c H c (upd H p o):=
 ⟨λb u e _=>by rw[Ar (Ax e h)];exact e,λ_ _ _ z=>z,λ_ _ e=>e⟩
theorem SInv.laid{S:List Ob}(s:SInv K c S H){p:bQ}{o:HO}(h:H p=none):SInv K c S (upd H p o):=
 ⟨s.len,s.nd,λk a u e1 e2=>by
  have q:=s.obs k a u e1 e2;clear 5 q.some w hw;exact q.mono (Ext.laid s h) (Ar (Ax hw h)),
  λb z=>by clear 5(s.trk b z)u e;exact⟨u,by rw[Ar (Ax e h)];exact e⟩,s.dis⟩
theorem FInv.laid(f:FInv K Oo c t σ H){p:bQ}{o:HO}(h:H p=none):FInv K Oo c t σ (upd H p o):=by
 have e:=Ext.laid (o:=o) f.s h;refine⟨f.s.laid h,f.len,f.sub,λi d q=>?_,λi ds q=>?_,f.inj⟩
 .clear 5(f.val i d q)v h1 h2;exact⟨v,h1,h2.mono e⟩
 .clear 5(f.own i ds q)a vs h1 h2 h3 h4 h5;exact⟨a,vs,h1,h2,h3,by rw[Ar (Ax h4 h)];exact h4,h5.mono e⟩
theorem FInv.stp_laid(f:FInv K Oo c t σ H){p:bQ}{o:HO}(h:H p=none):Stp Oo c H c (upd H p o):=
 ⟨Ext.laid f.s h,λb z=>by clear 5(f.s.trk b (f.sub b z))u e;exact Ar (Ax e h)⟩
set_option tactic.hygienic true
theorem FInv.set(f:FInv K Oo c t σ H){i:Nat}{v:V}{d:D}(r:Rep K c H v d):FInv K Oo c {t with env:=t.env.set i (some (.val d))} (σ.set i (some v)) H:=by
 have neq:∀{j:Nat}{x:Sl},(t.env.set i (some (.val d)))[j]?=some (some x)->(j=i/\x=.val d/\j<t.env.length)\/(j≠i/\t.env[j]?=some (some x)):=λ{j x} q=>by
  by_cases h:j=i
  .subst h;rw[ui3] at q
   split at q
   .split at q
    .next h1=>injection q with q;injection q with q;exact .inl ⟨rfl,q.symm,h1⟩
    .cases q
   .next h1=>exact absurd rfl h1
  .rw[ue5 (Ne.symm h)] at q;exact .inr ⟨h,q⟩
 refine⟨f.s,by simp[f.len],f.sub,λj e q=>?_,λj ds q=>?_,λj k ds es a q1 q2 q3 q4=>?_⟩
 .rcases neq q with⟨rfl,z,hl⟩|⟨h,q⟩
  .cases z
   exact⟨v,by rw[uc3 (by rw[<-f.len];exact hl)],r⟩
  .clear 5(f.val j e q)u h1 h2;exact⟨u,by rw[ue5 (Ne.symm h)];exact h1,h2⟩
 .rcases neq q with⟨rfl,z,_⟩|⟨h,q⟩
  .cases z
  .clear 5(f.own j ds q)a vs h1 h2;exact⟨a,vs,by rw[ue5 (Ne.symm h)];exact h1,h2⟩
 .rcases neq q1 with⟨_,z,_⟩|⟨h,q1⟩
  .cases z
  rcases neq q2 with⟨_,z,_⟩|⟨h',q2⟩
  .cases z
  rw[ue5 (Ne.symm h)] at q3;rw[ue5 (Ne.symm h')] at q4;exact f.inj j k ds es a q1 q2 q3 q4
theorem FInv.setOwn(f:FInv K Oo c t σ H){i:Nat}{p:bQ}{vs:List V}{ds:List D}(h:H p=none)(r:Reps K c H vs ds) :
 ∃c',FInv K Oo c' {t with env:=t.env.set i (some (.own ds))} (σ.set i (some (.ref p))) (upd H p (.lst vs))/\Stp Oo c H c' (upd H p (.lst vs)):=by
 let c':Cf:=⟨c.ι,λb=>c.O b\/b=p⟩
 have nA:¬c.A p:=f.s.free h;have ext:Ext c H c' (upd H p (.lst vs)):=by
  refine⟨λb u e _=>by rw[Ar (Ax e h)];exact e,λb u e z=>?_,λ_ _ e=>e⟩;rcases z with z|z|z
  .exact .inl z
  .exact .inr z
  .subst z;rw[h] at e;cases e
 have stp:Stp Oo c H c' (upd H p (.lst vs)):=⟨ext,λb z=>by clear 5(f.s.trk b (f.sub b z))u e;exact Ar (Ax e h)⟩;have sinv:SInv K c' t.S (upd H p (.lst vs)):=by
  refine⟨f.s.len,f.s.nd,λk a u e1 e2=>?_,λb z=>?_,λb z hb=>?_⟩
  .have q:=f.s.obs k a u e1 e2;clear 5 q.some w hw;exact q.mono ext (Ar (Ax hw h))
  .rcases z with z|z
   .clear 5(f.s.trk b z)u e;exact⟨u,by rw[Ar (Ax e h)];exact e⟩
   .subst z;exact⟨_,AA⟩
  .rcases z with z|z
   .exact f.s.dis b z hb
   .subst z;exact nA (.inl hb)
 have neq:∀{j:Nat}{x:Sl},(t.env.set i (some (.own ds)))[j]?=some (some x)->(j=i/\x=.own ds/\j<t.env.length)\/(j≠i/\t.env[j]?=some (some x)):=λ{j x} q=>by
  by_cases h:j=i
  .subst h;rw[ui3] at q
   split at q
   .split at q
    .next h1=>injection q with q;injection q with q;exact .inl ⟨rfl,q.symm,h1⟩
    .cases q
   .next h1=>exact absurd rfl h1
  .rw[ue5 (Ne.symm h)] at q;exact .inr ⟨h,q⟩
 have fresh:∀(j:Nat) (es:List D),t.env[j]?=some (some (.own es))->σ[j]?≠some (some (.ref p)):=λj es q z=>by
  obtain⟨a,vs',h1,_,_,h4,_⟩:=f.own j es q;rw[h1] at z;injection z with z;injection z with z;injection z with z;subst z;rw[h] at h4;cases h4
 refine⟨c',⟨sinv,by simp[f.len],λb z=>.inl (f.sub b z),λj e q=>?_,λj es q=>?_,λj k ds' es a q1 q2 q3 q4=>?_⟩,stp⟩
 .rcases neq q with⟨_,z,_⟩|⟨hn,q⟩
  .cases z
  .clear 5(f.val j e q)u h1 h2;exact⟨u,by rw[ue5 (Ne.symm hn)];exact h1,h2.mono ext⟩
 .rcases neq q with⟨rfl,z,hl⟩|⟨hn,q⟩
  .cases z
   refine⟨p,vs,by rw[uc3 (by rw[<-f.len];exact hl)],.inr rfl,λz=>?_,AA,r.mono ext⟩;clear 5(f.s.trk p (f.sub p z))u e;rw[h] at e;cases e
  .clear 5(f.own j es q)a ws h1 h2 h3 h4 h5;exact⟨a,ws,by rw[ue5 (Ne.symm hn)];exact h1,.inl h2,h3,by rw[Ar (Ax h4 h)];exact h4,h5.mono ext⟩
 .rcases neq q1 with⟨z1,z2,l1⟩|⟨n1,r1⟩
  .rcases neq q2 with⟨y1,_,_⟩|⟨n2,r2⟩
   .rw[z1,y1]
   .subst z1;rw[uc3 (by rw[<-f.len];exact l1)] at q3;injection q3 with q3;injection q3 with q3;injection q3 with q3;subst q3
    rw[ue5 (Ne.symm n2)] at q4;exact absurd q4 (fresh k es r2)
  .rcases neq q2 with⟨y1,y2,l2⟩|⟨n2,r2⟩
   .subst y1;rw[uc3 (by rw[<-f.len];exact l2)] at q4;injection q4 with q4;injection q4 with q4;injection q4 with q4;subst q4
    rw[ue5 (Ne.symm n1)] at q3;exact absurd q3 (fresh j ds' r1)
   .rw[ue5 (Ne.symm n1)] at q3;rw[ue5 (Ne.symm n2)] at q4;exact f.inj j k ds' es a r1 r2 q3 q4
theorem FInv.frz(f:FInv K Oo c t σ H){i:Nat}{ds:List D}(q:t.env[i]?=some (some (.own ds))) :
 ∃c' v,FInv K Oo c' {t with env:=t.env.set i (some (.val (.lst ds)))} σ H/\Stp Oo c H c' H/\σ[i]?=some (some v)/\Rep K c' H v (.lst ds):=by
 clear 5(f.own i ds q)a vs h1 h2 h3 h4 h5
 let c':Cf:=⟨c.ι,λb=>c.O b/\b≠a⟩
 have ext:Ext c H c' H:=⟨λ_ _ e _=>e,λb u e z=>z.elim .inl λw=>.inr w.1,λ_ _ e=>e⟩;have sinv:SInv K c' t.S H:=⟨f.s.len,f.s.nd,λk b u e1 e2=>(f.s.obs k b u e1 e2).mono ext rfl,λb z=>f.s.trk b z.1,λb z=>f.s.dis b z.1⟩;have nA:¬c'.A a:=λz=>z.elim (λw=>f.s.dis a h2 w) λw=>w.2 rfl;have hσ:σ.set i (some (.ref a))=σ:=by
  apply List.ext_getElem?;intro j
  by_cases hj:j=i
  .subst hj;rw[uc3 (by have:=(ub0.mp h1).1;exact this),h1]
  .rw[ue5 (Ne.symm hj)]
 have r:Rep K c' H (.ref a) (.lst ds):=.lst h4 nA (h5.mono ext);have f0:FInv K Oo c' {t with env:=t.env.set i (some (.val (.lst ds)))} σ H:=by
  have neq:∀{j:Nat}{x:Sl},(t.env.set i (some (.val (.lst ds))))[j]?=some (some x)->(j=i/\x=.val (.lst ds))\/(j≠i/\t.env[j]?=some (some x)):=λ{j x} q=>by
   by_cases h:j=i
   .subst h;rw[ui3] at q
    split at q
    .split at q
     .injection q with q;injection q with q;exact .inl ⟨rfl,q.symm⟩
     .cases q
    .next h1=>exact absurd rfl h1
   .rw[ue5 (Ne.symm h)] at q;exact .inr ⟨h,q⟩
  refine⟨sinv,by simp[f.len],λb z=>⟨f.sub b z,λw=>h3 (w ▸ z)⟩,λj e q'=>?_,λj es q'=>?_,λj k ds' es b q1 q2 q3 q4=>?_⟩
  .rcases neq q' with⟨rfl,z⟩|⟨hn,q'⟩
   .cases z;exact⟨_,h1,r⟩
   .clear 5(f.val j e q')u w1 w2;exact⟨u,w1,w2.mono ext⟩
  .rcases neq q' with⟨_,z⟩|⟨hn,q'⟩
   .cases z
   .clear 5(f.own j es q')b ws w1 w2 w3 w4 w5;refine⟨b,ws,w1,⟨w2,λz=>?_⟩,w3,w4,w5.mono ext⟩;subst z;exact hn (f.inj j i es ds b q' q w1 h1)
  .rcases neq q1 with⟨_,z⟩|⟨_,q1⟩
   .cases z
   rcases neq q2 with⟨_,z⟩|⟨_,q2⟩
   .cases z
   exact f.inj j k ds' es b q1 q2 q3 q4
 exact⟨c',_,f0,⟨ext,λ_ _=>rfl⟩,h1,r⟩
theorem FInv.wrOwn(f:FInv K Oo c t σ H){i:Nat}{ds ds':List D}{vs':List V}{a:bQ}(q:t.env[i]?=some (some (.own ds)))(h1:σ[i]?=some (some (.ref a)))(r:Reps K c H vs' ds') :
 FInv K Oo c {t with env:=t.env.set i (some (.own ds'))} σ (upd H a (.lst vs'))/\Stp Oo c H c (upd H a (.lst vs')):=by
 clear 5(f.own i ds q)a' vs g1 h2 h3 h4 h5;rw[h1] at g1;injection g1 with g1;injection g1 with g1;injection g1 with g1;subst g1
 have ext:Ext c H c (upd H a (.lst vs')):=⟨λb u e n=>by rw[Ar (λ(z:b=a)=>n (.inr (by rw[z];exact h2)))];exact e,λ_ _ _ z=>z,λ_ _ e=>e⟩;have stp:Stp Oo c H c (upd H a (.lst vs')):=⟨ext,λb z=>Ar λw=>h3 (w ▸ z)⟩;have sinv:SInv K c t.S (upd H a (.lst vs')):=by
  refine⟨f.s.len,f.s.nd,λk b u e1 e2=>(f.s.obs k b u e1 e2).mono ext (Ar λz=>f.s.dis a h2 (z ▸ ue6 e1)),λb z=>?_,f.s.dis⟩
  by_cases hb:b=a
  .subst hb;exact⟨_,AA⟩
  .clear 5(f.s.trk b z)u e;exact⟨u,by rw[Ar hb];exact e⟩
 have neq:∀{j:Nat}{x:Sl},(t.env.set i (some (.own ds')))[j]?=some (some x)->(j=i/\x=.own ds')\/(j≠i/\t.env[j]?=some (some x)):=λ{j x} q=>by
  by_cases h:j=i
  .subst h;rw[ui3] at q
   split at q
   .split at q
    .injection q with q;injection q with q;exact .inl ⟨rfl,q.symm⟩
    .cases q
   .next h1=>exact absurd rfl h1
  .rw[ue5 (Ne.symm h)] at q;exact .inr ⟨h,q⟩
 refine⟨⟨sinv,by simp[f.len],f.sub,λj e q'=>?_,λj es q'=>?_,λj k es es' b q1 q2 q3 q4=>?_⟩,stp⟩
 .rcases neq q' with⟨_,z⟩|⟨_,q'⟩
  .cases z
  .clear 5(f.val j e q')u w1 w2;exact⟨u,w1,w2.mono ext⟩
 .rcases neq q' with⟨rfl,z⟩|⟨hn,q'⟩
  .cases z;exact⟨a,vs',h1,h2,h3,AA,r.mono ext⟩
  .clear 5(f.own j es q')b ws w1 w2 w3 w4 w5;have hb:b≠a:=λz=>by subst z;exact hn (f.inj j i es ds b q' q w1 h1)
   exact⟨b,ws,w1,w2,w3,by rw[Ar hb];exact w4,w5.mono ext⟩
 .have old:∀{j:Nat}{x:List D},(t.env.set i (some (.own ds')))[j]?=some (some (.own x))->∃y,t.env[j]?=some (some (.own y)):=λ{j x} q'=>by
   rcases neq q' with⟨rfl,_⟩|⟨_,q'⟩
   .exact⟨ds,q⟩
   .exact⟨x,q'⟩
  clear 5(old q1)y1 z1;clear 5(old q2)y2 z2;exact f.inj j k y1 y2 b z1 z2 q3 q4
set_option tactic.hygienic false
theorem FInv.wrObj(f:FInv K Oo c t σ H){k:Nat}{a:bQ}{o:Ob}{u:HO}(e:c.ι[k]?=some a)(r:∀c' H',Ext c H c' H'->H' a=some u->ObR K c' H' a o) :
 FInv K Oo c {t with S:=t.S.set k o} σ (upd H a u)/\Stp Oo c H c (upd H a u):=by
 have hA:a∈c.ι:=ue6 e;have ext:Ext c H c (upd H a u):=⟨λb w h n=>by rw[Ar (λ(z:b=a)=>n (.inl (by rw[z];exact hA)))];exact h,λ_ _ _ z=>z,λ_ _ e=>e⟩;have neO:∀b,c.O b->b≠a:=λb z w=>f.s.dis b z (w ▸ hA);have stp:Stp Oo c H c (upd H a u):=⟨ext,λb z=>Ar (neO b (f.sub b z))⟩;have sinv:SInv K c (t.S.set k o) (upd H a u):=by
  refine⟨by simp[f.s.len],f.s.nd,λj b o' e1 e2=>?_,λb z=>?_,f.s.dis⟩
  .by_cases hj:j=k
   .subst hj;rw[e] at e1;cases e1
    have hl:j<t.S.length:=by rw[<-f.s.len];exact(ub0.mp e).1
    rw[uc3 hl] at e2;cases e2
    exact r c _ ext AA
   .rw[ue5 (Ne.symm hj)] at e2;refine(f.s.obs j b o' e1 e2).mono ext (Ar λz=>?_);subst z;clear 5(ub0.mp e1)l1 g1;clear 5(ub0.mp e)l2 g2;exact hj ((uj4 f.s.nd).mp (g1.trans g2.symm))
  .clear 5(f.s.trk b z)w h;exact⟨w,by rw[Ar (neO b z)];exact h⟩
 refine⟨⟨sinv,f.len,f.sub,λi d q=>?_,λi ds q=>?_,f.inj⟩,stp⟩
 .clear 5(f.val i d q)v h1 h2;exact⟨v,h1,h2.mono ext⟩
 .clear 5(f.own i ds q)b vs h1 h2 h3 h4 h5;exact⟨b,vs,h1,h2,h3,by rw[Ar (neO b h2)];exact h4,h5.mono ext⟩
theorem FInv.newObj(f:FInv K Oo c t σ H){p:bQ}{o:Ob}{u:HO}(h:H p=none)(r:∀c' H',Ext c H c' H'->H' p=some u->ObR K c' H' p o) :
 ∃c',FInv K Oo c' {t with S:=t.S++[o]} σ (upd H p u)/\Stp Oo c H c' (upd H p u)/\c'.ι[t.S.length]?=some p:=by
 let c':Cf:=⟨c.ι++[p],c.O⟩
 have nA:¬c.A p:=f.s.free h;have ext:Ext c H c' (upd H p u):=by
  refine⟨λb w e _=>by rw[Ar (Ax e h)];exact e,λb w e z=>?_,λk a e=>?_⟩
  .rcases z with z|z
   .rcases um1.mp z with z|z
    .exact .inl z
    .rw[ug9] at z;subst z;rw[h] at e;cases e
   .exact .inr z
  .show(c.ι++[p])[k]?=some a;rw[ub1 (ub0.mp e).1];exact e
 have stp:Stp Oo c H c' (upd H p u):=⟨ext,λb z=>by clear 5(f.s.trk b (f.sub b z))w e;exact Ar (Ax e h)⟩;have at_:(c.ι++[p])[t.S.length]?=some p:=by rw[<-f.s.len,ua6 (uq9 _)];simp
 have sinv:SInv K c' (t.S++[o]) (upd H p u):=by
  refine⟨by simp[c',f.s.len],?_,λj b o' e1 e2=>?_,λb z=>?_,λb z hb=>?_⟩
  .show(c.ι++[p]).Nodup;exact ui4.mpr ⟨f.s.nd,by simp,λx hx y hy z=>by rw[ug9] at hy;subst z;subst hy;exact nA (.inl hx)⟩
  .have hlt:j<(t.S++[o]).length:=(ub0.mp e2).1
   by_cases hj:j<t.S.length
   .have e1':c.ι[j]?=some b:=by
     have q:(c.ι++[p])[j]?=some b:=e1;rw[ub1 (by rw[f.s.len];exact hj)] at q;exact q
    rw[ub1 hj] at e2;have q:=f.s.obs j b o' e1' e2;clear 5 q.some w hw;exact q.mono ext (Ar (Ax hw h))
   .have hj':j=t.S.length:=by simp at hlt;lia
    subst hj';rw[at_] at e1;cases e1
    rw[ua6 (uq9 _)] at e2;simp at e2;subst e2;exact r c' _ ext AA
  .clear 5(f.s.trk b z)w e;exact⟨w,by rw[Ar (Ax e h)];exact e⟩
  .rcases um1.mp hb with w|w
   .exact f.s.dis b z w
   .rw[ug9] at w;subst w;exact nA (.inr z)
 refine⟨c',⟨sinv,f.len,f.sub,λi d q=>?_,λi ds q=>?_,f.inj⟩,stp,at_⟩
 .clear 5(f.val i d q)v h1 h2;exact⟨v,h1,h2.mono ext⟩
 .clear 5(f.own i ds q)b vs h1 h2 h3 h4 h5;exact⟨b,vs,h1,h2,h3,by rw[Ar (Ax h4 h)];exact h4,h5.mono ext⟩
theorem FInv.after(f:FInv K Oo c t σ H){c':Cf}{S':List Ob}{H':Hp}(s:SInv K c' S' H')(st:Stp c.O c H c' H')(ho:∀b,c'.O b↔c.O b):FInv K Oo c' {t with S:=S'} σ H'/\Stp Oo c H c' H':=by
 refine⟨⟨s,f.len,λb z=>(ho b).mpr (f.sub b z),λi d q=>?_,λi ds q=>?_,f.inj⟩,st.ext,λb z=>st.oo b (f.sub b z)⟩
 .clear 5(f.val i d q)v h1 h2;exact⟨v,h1,h2.mono st.ext⟩
 .clear 5(f.own i ds q)b vs h1 h2 h3 h4 h5;exact⟨b,vs,h1,(ho b).mpr h2,h3,(st.oo b h2).trans h4,h5.mono st.ext⟩
end
abbrev M(α:Type):=T->Option (α×T)
inductive Out where
 |next|brk|cont|ret (d:D)
noncomputable def ret{α:Type}(a:α):M α:=λt=>some (a,t)
noncomputable def fail{α:Type}:M α:=λ_=>none
noncomputable def bnd{α β:Type}(f:M α)(g:α->M β):M β:=λt=>match f t with
 |some (a,t1)=>g a t1
 |none=>none
theorem Af{α β:Type}{f:M α}{g:α->M β}{t:T}{z:β×T}(h:bnd f g t=some z):∃a t1,f t=some (a,t1)/\g a t1=some z:=by
 unfold bnd at h
 cases e:f t with
 |none=>rw[e] at h;cases h
 |some p=>clear 5 p a t1;rw[e] at h;exact⟨a,t1,rfl,h⟩
noncomputable def LIM:Nat:=100000
theorem BM:LIM<=sizeLine:=by unfold LIM;decide
theorem N3:LIM<sizeLine:=by unfold LIM;decide
section
variable(K:bN)
inductive RE(f:M D)(σ:L2.St)(H:Hp)(Q:VK):Prop where
 |mk (Oo:bQ->Prop) (c:Cf) (t:T) (fi:FInv K Oo c t σ H) (r:D) (t':T) (e:f t=some (r,t')) (k:∀v H' c',FInv K Oo c' t' σ H'->Stp Oo c H c' H'->Rep K c' H' v r->Q v H'):RE f σ H Q
inductive RT(f:M Bool)(σ:L2.St)(H:Hp)(Q:Bool->Hp->Prop):Prop where
 |mk (Oo:bQ->Prop) (c:Cf) (t:T) (fi:FInv K Oo c t σ H) (r:Bool) (t':T) (e:f t=some (r,t')) (k:∀H' c',FInv K Oo c' t' σ H'->Stp Oo c H c' H'->Q r H'):RT f σ H Q
inductive RA(f:M (List D))(σ:L2.St)(H:Hp)(Q:List V->Hp->Prop):Prop where
 |mk (Oo:bQ->Prop) (c:Cf) (t:T) (fi:FInv K Oo c t σ H) (r:List D) (t':T) (e:f t=some (r,t')) (k:∀vs H' c',FInv K Oo c' t' σ H'->Stp Oo c H c' H'->Reps K c' H' vs r->Q vs H'):RA f σ H Q
inductive RF(f:M (List D))(σ:L2.St)(H:Hp)(Q:VK):Prop where
 |mk (Oo:bQ->Prop) (c:Cf) (t:T) (fi:FInv K Oo c t σ H) (ds:List D) (t':T) (e:f t=some (ds,t')) (k:∀p vs H' c',FInv K Oo c' t' σ H'->Stp Oo c H c' H'->Reps K c' H' vs ds->H' p=none->Q (.ref p) (upd H' p (.lst vs))):RF f σ H Q
inductive RSg(μ:Cf->Hp->D->(V->Hp->Prop)->Prop)(f:M Out)(E:Ends)(σ:L2.St)(H:Hp):Prop where
 |mk (Oo:bQ->Prop) (c:Cf) (t:T) (fi:FInv K Oo c t σ H) (o:Out) (t':T) (e:f t=some (o,t')) (k:∀σ' H' c',FInv K Oo c' t' σ' H'->Stp Oo c H c' H'->
 match (generalizing:=false) o with
 |.next=>E.nx σ' H'
 |.brk=>E.bk σ' H'
 |.cont=>E.ct σ' H'
 |.ret r=>μ c' H' r E.rt):RSg μ f E σ H
def μR:Cf->Hp->D->(V->Hp->Prop)->Prop:=λc H r rt=>∀v,Rep K c H v r->rt v H
def μF:Cf->Hp->D->(V->Hp->Prop)->Prop:=λc H r rt=>match r with
 |.lst ds=>∀p us,H p=none->Reps K c H us ds->rt (.ref p) (upd H p (.lst us))
 |_=>False
abbrev RS(f:M Out):TS:=RSg K (μR K) f
inductive RG(f:D->M Unit)(v:V)(σ:L2.St)(H:Hp)(Q:L2.St->Hp->Prop):Prop where
 |mk (Oo:bQ->Prop) (c:Cf) (t:T) (d:D) (fi:FInv K Oo c t σ H) (r:Rep K c H v d) (t':T) (e:f d t=some ((),t')) (k:∀σ' H' c',FInv K Oo c' t' σ' H'->Stp Oo c H c' H'->Q σ' H'):RG f v σ H Q
structure ItOk(J:It)(c:Cf)(H:Hp)(ds:List D):Prop where
 go:∀c' H' (i:Nat),Ext c H c' H'->i<ds.length->J.go i H'
 yld:∀c' H' (i:Nat) x H'' d,Ext c H c' H'->ds[i]?=some d->J.yld i H' x H''->H''=H'/\Rep K c' H' x d
 stop:∀c' H',Ext c H c' H'->J.stop ds.length H'
inductive RI(f:M (List D))(σ:L2.St)(H:Hp)(R:It->Hp->Prop):Prop where
 |mk (Oo:bQ->Prop) (c:Cf) (t:T) (fi:FInv K Oo c t σ H) (ds:List D) (t':T) (e:f t=some (ds,t')) (k:∀J H' c',FInv K Oo c' t' σ H'->Stp Oo c H c' H'->ItOk K J c' H' ds->R J H'):RI f σ H R
def Bh(R:R2)(h:D->D->M D):Prop:=∀{Oo:bQ->Prop}{c:Cf}{t:T}{σ:L2.St}{H:Hp}{x y:V}{dx dy r:D}{t':T}{Q:VK},FInv K Oo c t σ H->Rep K c H x dx->Rep K c H y dy->h dx dy t=some (r,t')->
 (∀v H' c',FInv K Oo c' t' σ H'->Stp Oo c H c' H'->Rep K c' H' v r->Q v H')->R x y H Q
def DU(R:List V->Hp->VK->Prop)(h:List D->M D):Prop:=∀{Oo:bQ->Prop}{c:Cf}{t:T}{σ:L2.St}{H:Hp}{xs:List V}{ds:List D}{r:D}{t':T}{Q:VK},FInv K Oo c t σ H->Reps K c H xs ds->h ds t=some (r,t')->
 (∀v H' c',FInv K Oo c' t' σ H'->Stp Oo c H c' H'->Rep K c' H' v r->Q v H')->R xs H Q
def M4(R:R2)(h:D->D->M (List D)):Prop:=∀{Oo:bQ->Prop}{c:Cf}{t:T}{σ:L2.St}{H:Hp}{x y:V}{dx dy:D}{r:List D}{t':T}{Q:VK},FInv K Oo c t σ H->Rep K c H x dx->Rep K c H y dy->h dx dy t=some (r,t')->
 (∀p vs H' c',FInv K Oo c' t' σ H'->Stp Oo c H c' H'->Reps K c' H' vs r->H' p=none->Q (.ref p) (upd H' p (.lst vs)))->R x y H Q
def FE(R:List V->Hp->VK->Prop)(h:List D->M (List D)):Prop:=∀{Oo:bQ->Prop}{c:Cf}{t:T}{σ:L2.St}{H:Hp}{xs:List V}{ds r:List D}{t':T}{Q:VK},FInv K Oo c t σ H->Reps K c H xs ds->h ds t=some (r,t')->
 (∀p vs H' c',FInv K Oo c' t' σ H'->Stp Oo c H c' H'->Reps K c' H' vs r->H' p=none->Q (.ref p) (upd H' p (.lst vs)))->R xs H Q
end
variable{tg:Expr}{j i:Nat}{x:Str}{f g:M D}{h:D->D->M D}{R:R2}{σ:L2.St}
section
variable{X:Cx}{e a b:Expr}{pos:Pos}
theorem Az{t t':TE}(h:PE X e t)(i:∀σ H Q,t' σ H Q->t σ H Q):PE X e t':=λbO s σ H Q I q=>h bO s σ H Q I (i σ H Q q)
theorem Kj{t t':TT}(h:PT X e t)(i:∀σ H Q,t' σ H Q->t σ H Q):PT X e t':=λbO s σ H Q I q=>h bO s σ H Q I (i σ H Q q)
theorem Oa{t t':TT}(h:PW X e t)(i:∀σ H Q,t' σ H Q->t σ H Q):PW X e t':=λw bO s σ H Q I q=>h w bO s σ H Q I (i σ H Q q)
theorem N5{es:List Expr}{t t':TA}(h:PA X es t)(i:∀σ H Q,t' σ H Q->t σ H Q):PA X es t':=λpos bO s σ H Q I q=>h pos bO s σ H Q I (i σ H Q q)
theorem B3{st:Stmt}{t t':TS}(h:PS X st t)(i:∀E σ H,t' E σ H->t E σ H):PS X st t':=λbO s σ H E I q=>h bO s σ H E I (i E σ H q)
theorem L7{st:List Stmt}{t t':TS}(h:PSs X st t)(i:∀E σ H,t' E σ H->t E σ H):PSs X st t':=λbO s σ H E I q=>h bO s σ H E I (i E σ H q)
theorem F8{t t':TG}(h:PG X e t)(i:∀v σ H Q,t' v σ H Q->t v σ H Q):PG X e t':=λbO s σ H v u Q I r q=>h bO s σ H v u Q I r (i v σ H Q q)
theorem HW{t t':TI}(h:PI X tg e t)(i:∀σ H R,t' σ H R->t σ H R):PI X tg e t':=λbO s σ H R I q=>h bO s σ H R I (i σ H R q)
def fC(d:D):M D:=ret d
theorem KD{v:V}{d:D}(h:PE X e (tC v))(r:∀c H,Rep X.K c H v d):PE X e (RE X.K (fC d)):=
 Az h λσ H Q z9=>by
  clear 5 z9 Oo c t f r' t' eq k
  cases eq
  exact k v H c f .refl (r c H)
theorem Wl{i:Int}:PE X (.Constant (.int i) j pos) (RE X.K (fC (.int i))):=KD Xf λ_ _=>.int i
theorem Yj{i:Bool}:PE X (.Constant (.bool i) j pos) (RE X.K (fC (.bl i))):=KD Yy λ_ _=>.bl i
theorem Wp{i:Str}:PE X (.Constant (.str i) j pos) (RE X.K (fC (.str i))):=KD Pj λ_ _=>.str i
theorem Wm:PE X (.Constant .none j pos) (RE X.K (fC .non)):=KD Xh λ_ _=>.non
theorem J7{n:String}(hg:Gl X x)(hm:X.mg x=none)(hv:bootBuiltins x=some (.type n))(hn:autoParam (x≠"__name__") q1T)(hd:autoParam ((x==("__debug__":Str))=false) q1T):PE X (.Name x pos) (RE X.K (fC (.ty n))):=
 KD (UL hg hm hv (v:=.ty n) rfl hn hd) λ_ _=>.ty n
noncomputable def Ab(i:Nat):M D:=λt=>match t.env[i]? with
 |some (some (.val d))=>some (d,t)
 |some (some (.own ds))=>some (.lst ds,{t with env:=t.env.set i (some (.val (.lst ds)))})
 |_=>none
theorem Nj{t t':T}{r:D}(h:Ab i t=some (r,t')):(t.env[i]?=some (some (.val r))/\t'=t)\/∃ds,t.env[i]?=some (some (.own ds))/\r=.lst ds/\t' = {t with env:=t.env.set i (some (.val (.lst ds)))}:=by
 unfold Ab at h
 cases e:t.env[i]? with
 |none=>rw[e] at h;cases h
 |some o=>
   cases o with
   |none=>rw[e] at h;cases h
   |some sl=>
     cases sl with
     |val d=>rw[e] at h;cases h;exact .inl ⟨rfl,rfl⟩
     |own ds=>rw[e] at h;cases h;exact .inr ⟨ds,rfl,rfl,rfl⟩
theorem Wq(i:Nat){x:Str}(hN:autoParam (X.N[i]?=some x) q3T)(hv:autoParam (Vis X.env.scope x) q0T)(hd:autoParam ((x==("__debug__":Str))=false) q1T)
 (hcd:autoParam ((x==("__classdict__":Str))=false) q1T):PE X (.Name x pos) (RE X.K (Ab i)):=
 Az (Fl hN hv hd hcd) λσ H Q z9=>by
  clear 5 z9 Oo c t f r t' eq k;rcases Nj eq with⟨q,rfl⟩|⟨ds,q,rfl,rfl⟩
  .clear 5(f.val i r q)v h1 h2;exact⟨v,h1,k v H c f .refl h2⟩
  .clear 5(f.frz q)c' v f' st h1 h2;exact⟨v,h1,k v H c' f' st h2⟩
def Ac(f g:M D)(h:D->D->M D):M D:=bnd f λx=>bnd g λy=>h x y
theorem RE.two(s:Bh K R h){σ:L2.St}{H:Hp}{Q:VK}(q:RE K (Ac f g h) σ H Q):tOp R (RE K f) (RE K g) σ H Q:=by
 clear 5 q Oo c t fi r t' eq k;clear 5(Af eq)dx t1 e1 eq;clear 5(Af eq)dy t2 e2 eq;exact⟨Oo,c,t,fi,dx,t1,e1,λx H1 c1 f1 s1 rx=>⟨Oo,c1,t1,f1,dy,t2,e2,λy H2 c2 f2 s2 ry=>s f2 (rx.mono s2.ext) ry eq λv H' c' f' s' rv=>k v H' c' f' ((s1.trans s2).trans s') rv⟩⟩
theorem EO{op:Operator}(ho:OpR X (binaryOp op) R)(s:Bh X.K R h)(ha:PE X a (RE X.K f))(hb:PE X b (RE X.K g)):PE X (.BinOp a op b pos) (RE X.K (Ac f g h)):=
 Az (SX ho ha hb) λ_ _ _ q=>RE.two s q
theorem Fe{op:CmpOp}(ho:OpR X (compareOp op) R)(s:Bh X.K R h)(ha:PE X a (RE X.K f))(hb:PE X b (RE X.K g))(hm:behindInMarks op b=false):PE X (.Compare a [op] [b] pos) (RE X.K (Ac f g h)):=
 Az (UM ho ha hb hm) λ_ _ _ q=>RE.two s q
theorem SL(hr:IxR X R)(s:Bh X.K R h)(ha:PE X a (RE X.K f))(hb:PE X b (RE X.K g))(hs:L8 b):PE X (.Subscript a b pos) (RE X.K (Ac f g h)):=
 Az (Yz hr ha hb hs) λ_ _ _ q=>RE.two s q
def fUn(f:M D)(h:D->M D):M D:=bnd f h
def toB:D->M Bool
 |.bl b=>ret b
 |_=>fail
def Ai(f:M D):M Bool:=bnd f toB
theorem LD{d:D}{t:T}{z:Bool×T}(h:toB d t=some z):∃b,d=.bl b/\z=(b,t):=by
 cases d with
 |bl b=>cases h;exact⟨b,rfl,rfl⟩
 |_=>cases h
theorem RT.val{Q:Bool->Hp->Prop}(q:RT K (Ai f) σ H Q):RE K f σ H λx H1=>∃k,x=.bl k/\Q k H1:=by
 clear 5 q Oo c t fi r t' eq k;clear 5(Af eq)d t1 e1 eq;clear 5(LD eq)b rfl z
 cases z
 refine⟨Oo,c,t,fi,_,t',e1,λv H1 c1 f1 s1 rv=>?_⟩
 cases rv
 exact⟨r,rfl,k H1 c1 f1 s1⟩
theorem WB(h:PE X e (RE X.K f))(he:autoParam (∀whole,isTrue e X.env whole=(do let v <-whole;standAt e.pos;holding [v] (truthy v))) q2T):PT X e (RT X.K (Ai f)):=
 Kj (Xo h he) λ_ _ _ q=>RT.val q
theorem Da{op:CmpOp}(ho:OpR X (compareOp op) R)(s:Bh X.K R h)(ha:PE X a (RE X.K f))(hb:PE X b (RE X.K g))(hm:behindInMarks op b=false):PT X (.Compare a [op] [b] pos) (RT X.K (Ai (Ac f g h))):=
 Kj (UZ ho ha hb hm) λσ H Q q=>RE.two s (RT.val q)
def Ou(f g w:M D)(h h':D->D->M D):M D:=bnd f λx=>bnd g λy=>bnd (Ai (h x y)) λk=>if k=true then bnd w λz=>h' y z else ret (.bl false)
def DW(f g:M Bool):M Bool:=bnd f λk=>if k=true then g else ret false
def fOr(f g:M Bool):M Bool:=bnd f λk=>if k=true then ret true else g
def Cn(f:M Bool):M Bool:=bnd f λk=>ret (!k)
def Cm(f g:M D):M D:=bnd (Ai f) λk=>if k=true then g else ret (.bl false)
def Gn(f g:M D):M D:=bnd (Ai f) λk=>if k=true then ret (.bl true) else g
def SI(f:M D):M D:=bnd (Ai f) λk=>ret (.bl (!k))
def fIf(f:M Bool)(g h:M D):M D:=bnd f λk=>if k=true then g else h
variable{f g:M Bool}{u v w:M D}{rest:List Expr}
theorem Yr(h:PW X e (RT X.K f)):PT X e (RT X.K f):=h.pt
theorem Ud(ha:PT X a (RT X.K f)):PW X (.BoolOp .And [a] pos) (RT X.K f):=U2 ha
theorem WD(ha:PT X a (RT X.K f)):PW X (.BoolOp .Or [a] pos) (RT X.K f):=Xq ha
theorem WC(ha:PT X a (RT X.K f))(hb:PW X (.BoolOp .And (b::rest) pos) (RT X.K g)):PW X (.BoolOp .And (a::b::rest) pos) (RT X.K (DW f g)):=
 Oa (Xp ha hb) λσ H Q z9=>by
  clear 5 z9 Oo c t fi r t' eq k;clear 5(Af eq)kb t1 e1 eq;refine⟨Oo,c,t,fi,kb,t1,e1,λH1 c1 f1 s1=>?_⟩
  cases kb with
  |false=>rw[eC ug6] at eq⊢;cases eq;exact k H1 c1 f1 s1
  |true=>rw[eB rfl] at eq⊢;exact⟨Oo,c1,t1,f1,r,t',eq,λH2 c2 f2 s2=>k H2 c2 f2 (s1.trans s2)⟩
theorem Ys(ha:PT X a (RT X.K f))(hb:PW X (.BoolOp .Or (b::rest) pos) (RT X.K g)):PW X (.BoolOp .Or (a::b::rest) pos) (RT X.K (fOr f g)):=
 Oa (YE ha hb) λσ H Q z9=>by
  clear 5 z9 Oo c t fi r t' eq k;clear 5(Af eq)kb t1 e1 eq;refine⟨Oo,c,t,fi,kb,t1,e1,λH1 c1 f1 s1=>?_⟩
  cases kb with
  |true=>rw[eB rfl] at eq⊢;cases eq;exact k H1 c1 f1 s1
  |false=>rw[eC ug6] at eq⊢;exact⟨Oo,c1,t1,f1,r,t',eq,λH2 c2 f2 s2=>k H2 c2 f2 (s1.trans s2)⟩
theorem WA(ha:PT X a (RT X.K f)):PT X (.UnaryOp .Not a pos) (RT X.K (Cn f)):=
 Kj (Xn ha) λσ H Q z9=>by
  clear 5 z9 Oo c t fi r t' eq k;clear 5(Af eq)kb t1 e1 eq
  cases eq
  exact⟨Oo,c,t,fi,kb,_,e1,λH1 c1 f1 s1=>k H1 c1 f1 s1⟩
theorem LF{f:M D}{t:T}{kb:Bool}{t1:T}(h:Ai f t=some (kb,t1)):f t=some (.bl kb,t1):=by
 clear 5(Af h)d t2 e1 e2;clear 5(LD e2)b rfl z
 cases z
 exact e1
theorem Wo{op:PySem.BoolOp}(h:PE X a (RE X.K u)):PE X (.BoolOp op [a] pos) (RE X.K u):=Xi h
theorem Wk(ha:PE X a (RE X.K u))(hb:PE X (.BoolOp .And (b::rest) pos) (RE X.K v)):PE X (.BoolOp .And (a::b::rest) pos) (RE X.K (Cm u v)):=
 Az (Xd ha hb) λσ H Q z9=>by
  clear 5 z9 Oo c t fi r t' eq k;clear 5(Af eq)kb t1 e1 eq;refine⟨Oo,c,t,fi,_,t1,LF e1,λx H1 c1 f1 s1 rx=>?_⟩
  cases rx
  refine⟨kb,rfl,?_⟩
  cases kb with
  |false=>rw[eC ug6] at eq⊢;cases eq;exact k _ H1 c1 f1 s1 (.bl false)
  |true=>rw[eB rfl] at eq⊢;exact⟨Oo,c1,t1,f1,r,t',eq,λy H2 c2 f2 s2 ry=>k y H2 c2 f2 (s1.trans s2) ry⟩
theorem Yk(ha:PE X a (RE X.K u))(hb:PE X (.BoolOp .Or (b::rest) pos) (RE X.K v)):PE X (.BoolOp .Or (a::b::rest) pos) (RE X.K (Gn u v)):=
 Az (YA ha hb) λσ H Q z9=>by
  clear 5 z9 Oo c t fi r t' eq k;clear 5(Af eq)kb t1 e1 eq;refine⟨Oo,c,t,fi,_,t1,LF e1,λx H1 c1 f1 s1 rx=>?_⟩
  cases rx
  refine⟨kb,rfl,?_⟩
  cases kb with
  |true=>rw[eB rfl] at eq⊢;cases eq;exact k _ H1 c1 f1 s1 (.bl true)
  |false=>rw[eC ug6] at eq⊢;exact⟨Oo,c1,t1,f1,r,t',eq,λy H2 c2 f2 s2 ry=>k y H2 c2 f2 (s1.trans s2) ry⟩
theorem QC{d:Expr}(hc:PT X d (RT X.K f))(ha:PE X a (RE X.K u))(hb:PE X b (RE X.K v)):PE X (.IfExp d a b pos) (RE X.K (fIf f u v)):=
 Az (Re hc ha hb) λσ H Q z9=>by
  clear 5 z9 Oo c t fi r t' eq k;clear 5(Af eq)kb t1 e1 eq;refine⟨Oo,c,t,fi,kb,t1,e1,λH1 c1 f1 s1=>?_⟩
  cases kb with
  |false=>rw[eC ug6] at eq⊢;exact⟨Oo,c1,t1,f1,r,t',eq,λy H2 c2 f2 s2 ry=>k y H2 c2 f2 (s1.trans s2) ry⟩
  |true=>rw[eB rfl] at eq⊢;exact⟨Oo,c1,t1,f1,r,t',eq,λy H2 c2 f2 s2 ry=>k y H2 c2 f2 (s1.trans s2) ry⟩
end
variable{n:Nat}
section
variable{X:Cx}{e a b:Expr}{es:List Expr}{pos:Pos}
def Ad:M (List D):=ret []
def Aa(f:M D)(g:M (List D)):M (List D):=bnd f λd=>bnd g λds=>ret (d::ds)
theorem Wj:PA X [] (RA X.K Ad):=N5 K8 λσ H Q z9=>by
 clear 5 z9 Oo c t fi r t' eq k
 cases eq
 exact k [] H c fi .refl .nil
theorem TL{g:M (List D)}(ha:PE X e (RE X.K f))(hr:PA X es (RA X.K g))(hs:autoParam (starEach (e::es) X.env=(false,eval e X.env)::starEach es X.env) q3T):PA X (e::es) (RA X.K (Aa f g)):=
 N5 (Ji ha hr hs) λσ H Q z9=>by
  clear 5 z9 Oo c t fi r t' eq k;clear 5(Af eq)d t1 e1 eq;clear 5(Af eq)ds t2 e2 eq
  cases eq
  exact⟨Oo,c,t,fi,d,t1,e1,λx H1 c1 f1 s1 rx=>⟨Oo,c1,t1,f1,ds,_,e2,λxs H2 c2 f2 s2 rxs=>k _ H2 c2 f2 (s1.trans s2) (.cons (rx.mono s2.ext) rxs)⟩⟩
def lim{α:Type}(n:Nat)(a:α):M α:=λt=>if n<=LIM then some (a,t) else none
set_option tactic.hygienic true in
theorem DB{α:Type}{a:α}{t:T}{z:α×T}(h:lim n a t=some z):n<=LIM/\z=(a,t):=by
 unfold lim at h
 split at h
 .next h1=>cases h;exact⟨h1,rfl⟩
 .cases h
def As(f:M (List D)):M D:=bnd f λds=>lim ds.length (.tup ds)
theorem OB{x1:Nat}{f:M (List D)}(h:PA X es (RA X.K f)):PE X (.Tuple es x1 pos) (RE X.K (As f)):=
 Az (Xj h) λσ H Q z9=>by
  clear 5 z9 Oo c t fi r t' eq k;clear 5(Af eq)ds t1 e1 eq;clear 5(DB eq)hl z
  cases z
  refine⟨Oo,c,t,fi,ds,_,e1,λxs H1 c1 f1 s1 rxs=>⟨by rw[rxs.length];exact up6 hl BM,λp hp=>?_⟩⟩;exact k _ _ c1 (f1.laid hp) (s1.trans (f1.stp_laid hp)) (.tup AA (f1.s.free hp) (rxs.mono (Ext.laid f1.s hp)))
def Av(f:M (List D)):M (List D):=bnd f λds=>lim ds.length ds
theorem Ws{f:M (List D)}(h:PA X es (RA X.K f)):PE X (.List es pos) (RF X.K (Av f)):=
 Az (Xg h) λσ H Q z9=>by
  clear 5 z9 Oo c t fi r t' eq k;clear 5(Af eq)ds t1 e1 eq;clear 5(DB eq)hl z
  cases z
  exact⟨Oo,c,t,fi,_,_,e1,λxs H1 c1 f1 s1 rxs=>⟨by rw[rxs.length];exact up6 hl BM,λp hp=>k p xs H1 c1 f1 s1 rxs hp⟩⟩
def Al(f:M (List D)):M D:=bnd f λds=>ret (.lst ds)
theorem TR{f:M (List D)}(h:PE X e (RF X.K f)):PE X e (RE X.K (Al f)):=
 Az h λσ H Q z9=>by
  clear 5 z9 Oo c t fi r t' eq k;clear 5(Af eq)ds t1 e1 eq
  cases eq
  exact⟨Oo,c,t,fi,ds,_,e1,λp xs H1 c1 f1 s1 rxs hp=>k _ _ c1 (f1.laid hp) (s1.trans (f1.stp_laid hp)) (.lst AA (f1.s.free hp) (rxs.mono (Ext.laid f1.s hp)))⟩
noncomputable def Nz(o:Ob):M D:=λt=>some (.obj t.S.length,{t with S:=t.S++[o]})
def C5(f:M (List D)):M D:=bnd f λds=>Nz (.lst ds)
theorem Wn{f:M (List D)}(h:PE X e (RF X.K f)):PE X e (RE X.K (C5 f)):=
 Az h λσ H Q z9=>by
  clear 5 z9 Oo c t fi r t' eq k;clear 5(Af eq)ds t1 e1 eq
  cases eq
  refine⟨Oo,c,t,fi,ds,_,e1,λp xs H1 c1 f1 s1 rxs hp=>?_⟩;obtain⟨c2,f2,s2,e2⟩:=f1.newObj (o:=.lst ds) (u:=.lst xs) hp λc' H' ex hu=>⟨xs,hu,rxs.mono ex⟩;exact k _ _ c2 f2 (s1.trans s2) (.obj e2)
abbrev Fn:=List D->List Ob->Option (D×List Ob)
inductive spF(K:bN)(f:Fn)(vs:List V)(H:Hp)(Q:VK)(E:XK):Prop where
 |mk (c:Cf) (ds:List D) (S:List Ob) (si:SInv K c S H) (rs:Reps K c H vs ds) (r:D) (S':List Ob) (e:f ds S=some (r,S')) (k:∀v H' c',SInv K c' S' H'->Stp c.O c H c' H'->(∀b,c'.O b↔c.O b)->Rep K c' H' v r->Q v H'):spF K f vs H Q E
def Ag(g:Fn)(f:M (List D)):M D:=bnd f λds t=>match g ds t.S with
 |some (r,S')=>some (r,{t with S:=S'})
 |none=>none
theorem Om{g:Fn}{ds:List D}{t:T}{r:D}{t':T}(h:(match g ds t.S with|some (r,S')=>some (r,{t with S:=S'})|none=>none:Option (D×T))=some (r,t')):∃S',g ds t.S=some (r,S')/\t' = {t with S:=S'}:=by
 cases e:g ds t.S with
 |none=>rw[e] at h;cases h
 |some p=>clear 5 p r' S';rw[e] at h;cases h;exact⟨S',rfl,rfl⟩
theorem TM{k:Nat}{fa:bQ}{fd:bU}{ps:List Str}{g:Fn}{f:M (List D)}{p:Pos}(F:FnOk X.prog X.w X.K X.mg X.base CX0 k fa fd ps (spF X.K g))(hr:Room k X.A)(hg:Gl X x)(hm:X.mg x=some (.ref fa))(hk:PySem.W.keepIn X.K (.ref fa)=true)(hb:Binds X.K fd ps [])
 (ha:PA X (e::es) (RA X.K f)) (hdb:autoParam ((x==("__debug__":Str))=false) q1T) (he:autoParam (starEach (e::es) X.env=(false,eval e X.env)::starEach es X.env) q3T) (hpl:autoParam ((backTo pos (starEach es X.env)).any (·.1)=false) q3T) :
 PE X (.Call (.Name x p) (e::es) [] pos) (RE X.K (Ag g f)):=
 Az (Mw F hr hg hm hk hb .nil SW ha hdb he hpl) λσ H Q z9=>by
  clear 5 z9 Oo c t fi r t' eq kk;clear 5(Af eq)ds t1 e1 eq;clear 5(Om eq)S' e2 rfl;refine⟨Oo,c,t,fi,ds,t1,e1,λvs H1 c1 f1 s1 rvs=>?_⟩;show spF X.K g (vs++[]) H1 Q E0;rw[um3];refine⟨c1,ds,t1.S,f1.s,rvs,r,S',e2,λv H' c' si st ho rv=>?_⟩;clear 5(f1.after si st ho)f2 s2;exact kk v H' c' f2 (s1.trans s2) rv
def fB(f:M (List D))(h:List D->M D):M D:=bnd f h
theorem RE.callB{f:M (List D)}{h:List D->M D}{R:List V->Hp->VK->Prop}(s:DU K R h){σ:L2.St}{H:Hp}{Q:VK}(q:RE K (fB f h) σ H Q):tCB R (RA K f) σ H Q:=by
 clear 5 q Oo c t fi r t' eq k;clear 5(Af eq)ds t1 e1 eq;exact⟨Oo,c,t,fi,ds,t1,e1,λxs H1 c1 f1 s1 rxs=>s f1 rxs eq λv H' c' f' s' rv=>k v H' c' f' (s1.trans s') rv⟩
def fBF(f:M (List D))(h:List D->M (List D)):M (List D):=bnd f h
theorem RF.callB{f:M (List D)}{h:List D->M (List D)}{R:List V->Hp->VK->Prop}(s:FE K R h){σ:L2.St}{H:Hp}{Q:VK}(q:RF K (fBF f h) σ H Q):tCB R (RA K f) σ H Q:=by
 clear 5 q Oo c t fi r t' eq k;clear 5(Af eq)ds t1 e1 eq;exact⟨Oo,c,t,fi,ds,t1,e1,λxs H1 c1 f1 s1 rxs=>s f1 rxs eq λp vs H' c' f' s' rv hp=>k p vs H' c' f' (s1.trans s') rv hp⟩
theorem RF.two{h:D->D->M (List D)}(s:M4 K R h){σ:L2.St}{H:Hp}{Q:VK}(q:RF K (bnd f λx=>bnd g λy=>h x y) σ H Q):tOp R (RE K f) (RE K g) σ H Q:=by
 clear 5 q Oo c t fi r t' eq k;clear 5(Af eq)dx t1 e1 eq;clear 5(Af eq)dy t2 e2 eq;exact⟨Oo,c,t,fi,dx,t1,e1,λx H1 c1 f1 s1 rx=>⟨Oo,c1,t1,f1,dy,t2,e2,λy H2 c2 f2 s2 ry=>s f2 (rx.mono s2.ext) ry eq λp vs H' c' f' s' rv hp=>k p vs H' c' f' ((s1.trans s2).trans s') rv hp⟩⟩
end
variable{μ:Cf->Hp->D->(V->Hp->Prop)->Prop}
section
variable{X:Cx}{e a b:Expr}{pos:Pos}{st:Stmt}{sts:List Stmt}
noncomputable def Ah(f g:M Out):M Out:=λt=>match f t with
 |some (.next,t1)=>g t1
 |z=>z
def An:M Out:=ret .next
theorem Ua:PSs X [] (RSg X.K μ An):=L7 UX λE σ H z9=>by
 clear 5 z9 Oo c t fi o t' eq k
 cases eq
 exact k σ H c fi .refl
theorem QK{μ:Cf->Hp->D->(V->Hp->Prop)->Prop}{f g:M Out}(h1:PS X st (RSg X.K μ f))(h2:PSs X sts (RSg X.K μ g)):PSs X (st::sts) (RSg X.K μ (Ah f g)):=
 L7 (Rk h1 h2) λE σ H z9=>by
  clear 5 z9 Oo c t fi o t' eq k;unfold Ah at eq
  cases e1:f t with
  |none=>rw[e1] at eq;cases eq
  |some p=>
    clear 5 p o1 t1;rw[e1] at eq;refine⟨Oo,c,t,fi,o1,t1,e1,λσ1 H1 c1 f1 s1=>?_⟩
    cases o1 with
    |next=>exact⟨Oo,c1,t1,f1,o,t',eq,λσ2 H2 c2 f2 s2=>k σ2 H2 c2 f2 (s1.trans s2)⟩
    |brk=>cases eq;exact k σ1 H1 c1 f1 s1
    |cont=>cases eq;exact k σ1 H1 c1 f1 s1
    |ret d=>cases eq;exact k σ1 H1 c1 f1 s1
theorem Ub{μ:Cf->Hp->D->(V->Hp->Prop)->Prop}{f:M Out}(h1:PS X st (RSg X.K μ f)):PSs X [st] (RSg X.K μ f):=UY h1
def Aq(f:M D):M Out:=bnd f λd=>ret (.ret d)
theorem OH(h:PE X e (RE X.K f)):PS X (.Return (some e) pos) (RS X.K (Aq f)):=
 B3 (Po h) λE σ H z9=>by
  clear 5 z9 Oo c t fi o t' eq k;clear 5(Af eq)d t1 e1 eq
  cases eq
  exact⟨Oo,c,t,fi,d,_,e1,λv H1 c1 f1 s1 rv=>k σ H1 c1 f1 s1 v rv⟩
def D7(f:M D):M Out:=bnd f λ_=>ret .next
theorem Mi(h:PE X e (RE X.K f))(hs:autoParam (swapsWith e none pos.line X.env=pure false) q3T):PS X (.Expr e pos) (RSg X.K μ (D7 f)):=
 B3 (Jk h hs) λE σ H z9=>by
  clear 5 z9 Oo c t fi o t' eq k;clear 5(Af eq)d t1 e1 eq
  cases eq
  exact⟨Oo,c,t,fi,d,_,e1,λv H1 c1 f1 s1 rv=>k σ H1 c1 f1 s1⟩
def ifS(f:M Bool)(g h:M Out):M Out:=bnd f λk=>if k=true then g else h
theorem Yq{f:M Bool}{g h:M Out}{sa sb:List Stmt}(hc:PT X e (RT X.K f))(ha:PSs X sa (RSg X.K μ g))(hb:PSs X sb (RSg X.K μ h)):PS X (.If e sa sb pos) (RSg X.K μ (ifS f g h)):=
 B3 (YD hc ha hb) λE σ H z9=>by
  clear 5 z9 Oo c t fi o t' eq k;clear 5(Af eq)kb t1 e1 eq;refine⟨Oo,c,t,fi,kb,t1,e1,λH1 c1 f1 s1=>?_⟩
  cases kb with
  |true=>rw[eB rfl] at eq⊢;exact⟨Oo,c1,t1,f1,o,t',eq,λσ2 H2 c2 f2 s2=>k σ2 H2 c2 f2 (s1.trans s2)⟩
  |false=>rw[eC ug6] at eq⊢;exact⟨Oo,c1,t1,f1,o,t',eq,λσ2 H2 c2 f2 s2=>k σ2 H2 c2 f2 (s1.trans s2)⟩
noncomputable def Aj(i:Nat)(d:D):M Unit:=λt=>some ((),{t with env:=t.env.set i (some (.val d))})
def Am(i:Nat)(f:M D):M Out:=bnd f λd=>bnd (Aj i d) λ_=>ret .next
theorem RS.set{μ:Cf->Hp->D->(V->Hp->Prop)->Prop}{K:bN}{i:Nat}{f:M D}{E:Ends}{σ:L2.St}{H:Hp}(q:RSg K μ (Am i f) E σ H):Ly (RE K f) (Im i) E σ H:=by
 clear 5 q Oo c t fi o t' eq k;clear 5(Af eq)d t1 e1 eq
 cases eq
 exact⟨Oo,c,t,fi,d,t1,e1,λv H1 c1 f1 s1 rv=>k _ H1 c1 (f1.set rv) s1⟩
theorem OJ{pos':Pos}(hN:X.N.Nodup)(hi:X.N[i]?=some x)(hx:Loc X.env.scope x)(he:PE X e (RE X.K f))(hs:autoParam (swapsWith e (some (.Name x pos')) pos.line X.env=pure false) q3T)(hf:autoParam (X.fn x=true\/X.env.scope.names.lookup x=some .local) q0T) :
 PS X (.Assign [.Name x pos'] e pos) (RSg X.K μ (Am i f)):=B3 (Pp hN hi hx he hs hf) λ_ _ _ q=>RS.set q
def CG(i:Nat)(f:M (List D)):M Out:=bnd f λds t=>some (.next,{t with env:=t.env.set i (some (.own ds))})
theorem RS.own{f:M (List D)}{E:Ends}(q:RSg K μ (CG i f) E σ H):Ly (RF K f) (Im i) E σ H:=by
 clear 5 q Oo c t fi o t' eq k;clear 5(Af eq)ds t1 e1 eq
 cases eq
 refine⟨Oo,c,t,fi,ds,t1,e1,λp vs H1 c1 f1 s1 rv hp=>?_⟩;clear 5(f1.setOwn (i:=i) hp rv)c2 f2 s2;exact k _ _ c2 f2 (s1.trans s2)
theorem Wz{f:M (List D)}{pos':Pos}(hN:X.N.Nodup)(hi:X.N[i]?=some x)(hx:Loc X.env.scope x)(he:PE X e (RF X.K f))(hs:autoParam (swapsWith e (some (.Name x pos')) pos.line X.env=pure false) q3T)(hf:autoParam (X.fn x=true\/X.env.scope.names.lookup x=some .local) q0T) :
 PS X (.Assign [.Name x pos'] e pos) (RSg X.K μ (CG i f)):=B3 (Pp hN hi hx he hs hf) λ_ _ _ q=>RS.own q
theorem Bw(hN:X.N.Nodup)(hi:X.N[i]?=some x)(hx:Loc X.env.scope x)(hf:autoParam (X.fn x=true\/X.env.scope.names.lookup x=some .local) q0T):PG X (.Name x pos) (RG X.K (Aj i)):=
 F8 (UO hN hi hx hf) λv σ H Q z9=>by
  clear 5 z9 Oo c t d fi rv t' eq k
  cases eq
  exact k _ H c (fi.set rv) .refl
def Cc(f:M D)(g:D->M Unit):M Out:=bnd f λd=>bnd (g d) λ_=>ret .next
theorem Wx{g:D->M Unit}(he:PE X e (RE X.K f))(hg:PG X tg (RG X.K g))(hs:autoParam (swapsWithSole [tg] e pos.line X.env=pure false) q3T)(hw:autoParam (swappedStores [tg] e X.env=pure none) q3T)(hp:autoParam ((assignEach [tg] X.env).map (·.2)=[assign tg X.env]) q3T) :
 PS X (.Assign [tg] e pos) (RSg X.K μ (Cc f g)):=
 B3 (by first|exact Pn he hg hs hw|exact Pn he hg hs hw hp) λE σ H z9=>by
  clear 5 z9 Oo c t fi o t' eq k;clear 5(Af eq)d t1 e1 eq;clear 5(Af eq)u t2 e2 eq
  cases eq
  exact⟨Oo,c,t,fi,d,t1,e1,λv H1 c1 f1 s1 rv=>⟨Oo,c1,t1,d,f1,rv,_,e2,λσ2 H2 c2 f2 s2=>k σ2 H2 c2 f2 (s1.trans s2)⟩⟩
inductive RGs(K:bN)(f:List D->M Unit)(vs:List V)(σ:L2.St)(H:Hp)(Q:L2.St->Hp->Prop):Prop where
 |mk (Oo:bQ->Prop) (c:Cf) (t:T) (ds:List D) (fi:FInv K Oo c t σ H) (r:Reps K c H vs ds) (t':T) (e:f ds t=some ((),t')) (k:∀σ' H' c',FInv K Oo c' t' σ' H'->Stp Oo c H c' H'->Q σ' H'):RGs K f vs σ H Q
theorem L6{ts:List Expr}{t t':TGs}(h:PGs X ts t)(i:∀v σ H Q,t' v σ H Q->t v σ H Q):PGs X ts t':=λbO s σ H vs us Q I r q=>h bO s σ H vs us Q I r (i vs σ H Q q)
def AJ:List D->M Unit
 |[]=>ret ()
 |_=>fail
def Ak(f:D->M Unit)(g:List D->M Unit):List D->M Unit
 |d::ds=>bnd (f d) λ_=>g ds
 |[]=>fail
theorem TV:PGs X [] (RGs X.K AJ):=L6 UP λvs σ H Q z9=>by
 clear 5 z9 Oo c t ds fi rv t' eq k
 cases rv with
 |nil=>cases eq;exact⟨rfl,k σ H c fi .refl⟩
 |cons _ _=>cases eq
theorem RGs.cons{K:bN}{f:D->M Unit}{g:List D->M Unit}{vs:List V}{σ:L2.St}{H:Hp}{Q:L2.St->Hp->Prop}(q:RGs K (Ak f g) vs σ H Q):SQ (RG K f) (RGs K g) vs σ H Q:=by
 clear 5 q Oo c t ds fi rv t' eq k
 cases rv with
 |nil=>cases eq
 |cons r rs=>
   clear 5(Af eq)u t1 e1 eq;exact⟨_,_,rfl,Oo,c,t,_,fi,r,t1,e1,λσ1 H1 c1 f1 s1=>⟨Oo,c1,t1,_,f1,rs.mono s1.ext,t',eq,λσ2 H2 c2 f2 s2=>k σ2 H2 c2 f2 (s1.trans s2)⟩⟩
set_option tactic.hygienic true in
def A1(st:D->M Unit)(b:M Out):List D->M Out
 |[]=>ret .next
 |d::r=>λt=>match st d t with
   |none=>none
   |some (_,t1)=>match b t1 with
     |some (.next,t2)=>A1 st b r t2
     |some (.cont,t2)=>A1 st b r t2
     |some (.brk,t2)=>some (.next,t2)
     |some (.ret x,t2)=>some (.ret x,t2)
     |none=>none
def Ba(f:M (List D))(st:D->M Unit)(b:M Out):M Out:=bnd f λds=>A1 st b ds
theorem RS.for{f:M (List D)}{g:D->M Unit}{b:M Out}{E:Ends}(q:RSg K μ (Ba f g b) E σ H):NP (RI K f) (RG K g) (RSg K μ b) E σ H:=by
 clear 5 q Oo c t fi o t' eq k;clear 5(Af eq)ds t1 e1 eq;refine⟨Oo,c,t,fi,ds,t1,e1,λJ H1 c1 f1 s1 it=>?_⟩;refine⟨λi m σ' H'=>m=ds.length-i/\i<=ds.length/\∃c' t2,FInv K Oo c' t2 σ' H'/\Stp Oo c1 H1 c' H'/\A1 g b (ds.drop i) t2=some (o,t'),⟨_,rfl,ur0 _,c1,t1,f1,.refl,by rw[uo0];exact eq⟩,?_⟩;rintro i m σ' H' ⟨rfl,hi,c',t2,f2,s2,e2⟩
 by_cases hlt:i<ds.length
 .refine .inr ⟨it.go c' H' i s2.ext hlt,λσ3 H3=>∃c3 t3,FInv K Oo c3 t3 σ3 H3/\Stp Oo c1 H1 c3 H3/\A1 g b (ds.drop (i+1)) t3=some (o,t'),λσ3 H3 h=>⟨ds.length-(i+1),by lia,rfl,hlt,h⟩,λx H'' hy=>?_⟩;clear 5(it.yld c' H' i x H'' _ s2.ext (ub5 hlt) hy)rfl rx;rw[ub2 hlt] at e2;unfold A1 at e2
  cases e3:g ds[i] t2 with
  |none=>rw[e3] at e2;cases e2
  |some p=>
    clear 5 p u t3;rw[e3] at e2
    try dsimp only at e2
    refine⟨Oo,c',t2,_,f2,rx,t3,e3,λσ3 H3 c3 f3 s3=>?_⟩
    cases e4:b t3 with
    |none=>rw[e4] at e2;cases e2
    |some p=>
      clear 5 p o4 t4;rw[e4] at e2
      try dsimp only at e2
      refine⟨Oo,c3,t3,f3,o4,t4,e4,λσ5 H5 c5 f5 s5=>?_⟩;have s':=(s2.trans s3).trans s5
      cases o4 with
      |next=>exact⟨c5,t4,f5,s',e2⟩
      |cont=>exact⟨c5,t4,f5,s',e2⟩
      |brk=>cases e2;exact k σ5 H5 c5 f5 (s1.trans s')
      |ret r=>cases e2;exact k σ5 H5 c5 f5 (s1.trans s')
 .have hi':i=ds.length:=by lia
  subst hi';rw[uk1] at e2
  cases e2
  exact .inl ⟨it.stop c' H' s2.ext,k σ' H' c' f2 (s1.trans s2)⟩
theorem Wy{iter:Expr}{body:List Stmt}{f:M (List D)}{g:D->M Unit}{b:M Out}(hp:PassesOwn (model X.prog X.w) X.A X.env X.xe)(hc:X.calm=true)(hi:PI X tg iter (RI X.K f))(hg:PG X tg (RG X.K g))(hb:PSs X body (RSg X.K μ b))
 (hs:autoParam (∀x,foldedSetIterable iter X.env x=pure x) q2T):PS X (.For tg iter body [] pos) (RSg X.K μ (Ba f g b)):=
 B3 (Lg hp hc hi hg hb hs) λ_ _ _ q=>RS.for q
theorem ItOk.lst{K:bN}{c:Cf}{H:Hp}{p:bQ}{ds:List D}(r:∀c' H',Ext c H c' H'->∃vs,SqL K H' p vs/\Reps K c' H' vs ds):ItOk K (Itl K p) c H ds:=by
 refine⟨λc' H' i ex hi=>?_,λc' H' i x H'' d ex hd hy=>?_,λc' H' ex=>?_⟩
 .clear 5(r c' H' ex)vs h1 h2;obtain⟨v,e,_⟩:=h2.at (ub5 hi);exact⟨vs,v,h1,e⟩
 .clear 5(r c' H' ex)vs h1 h2;clear 5 hy rfl h;exact⟨rfl,h2.get (h vs h1) hd⟩
 .clear 5(r c' H' ex)vs h1 h2;exact⟨vs,h1,by rw[h2.length];exact uq9 _⟩
theorem ItOk.tup{K:bN}{c:Cf}{H:Hp}{p:bQ}{ds:List D}(r:∀c' H',Ext c H c' H'->∃vs,SqT K H' p vs/\Reps K c' H' vs ds):ItOk K (Itt K p) c H ds:=by
 refine⟨λc' H' i ex hi=>?_,λc' H' i x H'' d ex hd hy=>?_,λc' H' ex=>?_⟩
 .clear 5(r c' H' ex)vs h1 h2;obtain⟨v,e,_⟩:=h2.at (ub5 hi);exact⟨vs,v,h1,e⟩
 .clear 5(r c' H' ex)vs h1 h2;clear 5 hy rfl h;exact⟨rfl,h2.get (h vs h1) hd⟩
 .clear 5(r c' H' ex)vs h1 h2;exact⟨vs,h1,by rw[h2.length];exact uq9 _⟩
end
theorem FInv.leave{Oo:bQ->Prop}{t:T}(f:FInv K Oo c t σ H):SInv K ⟨c.ι,Oo⟩ t.S H/\Ext c H ⟨c.ι,Oo⟩ H:=by
 have ext:Ext c H ⟨c.ι,Oo⟩ H:=⟨λ_ _ e _=>e,λb o _ z=>z.elim .inl λw=>.inr (f.sub b w),λ_ _ e=>e⟩;exact⟨⟨f.s.len,f.s.nd,λk a o e1 e2=>(f.s.obs k a o e1 e2).mono ext rfl,λb z=>f.s.trk b (f.sub b z),λb z=>f.s.dis b (f.sub b z)⟩,ext⟩
noncomputable def env0(m:Nat)(ds:List D):List (Option Sl):=ds.map (λd=>some (.val d))++List.replicate (m-ds.length) none
def fnOf(n m:Nat)(g:M Out):Fn:=λds S=>if ds.length=n then(match g ⟨env0 m ds,S⟩ with
 |some (.ret r,t)=>some (r,t.S)
 |some (.next,t)=>some (.non,t.S)
 |_=>none) else none
theorem Il{ds:List D}{N:List Str}(s:SInv K c S H)(r:Reps K c H vs ds):FInv K c.O c ⟨env0 N.length ds,S⟩ (L2.start N vs) H:=by
 have hlen:vs.length=ds.length:=r.length;have none_:∀{i:Nat}{x:Sl},(env0 N.length ds)[i]?=some (some x)->∃d,ds[i]?=some d/\x=.val d:=λ{i x} q=>by
  unfold env0 at q
  by_cases hi:i<ds.length
  .rw[ub1 (by simpa using hi),uh6,ub5 hi] at q;simp at q;exact⟨ds[i],ub5 hi,q.symm⟩
  .rw[ua6 (by simpa using hi),ub6] at q
   split at q<;>simp at q
 refine⟨s,by simp[env0,L2.start,hlen],λ_ z=>z,λi d q=>?_,λi es q=>?_,λi j es _ a q _ _ _=>?_⟩
 .obtain⟨d',h1,h2⟩:=none_ q
  cases h2
  clear 5(r.at h1)v h3 h4;refine⟨v,?_,h4⟩;unfold L2.start;have hi:=(ub0.mp h3).1;rw[ub1 (by simpa using hi),uh6,h3];rfl
 .obtain⟨_,_,h2⟩:=none_ q;cases h2
 .obtain⟨_,_,h2⟩:=none_ q;cases h2
set_option tactic.hygienic true in
theorem Yp{P:bS}{w:bT}{mg:Str->Option bP}{base:Heap}{qual:Str}{st:Stmt}{fa:bQ}{fd:bU}{N ps:List Str}{k:Nat}{g:M Out}(F:Fun K x qual st fa fd)(S:FnScope N ps (AO st))
 (hb:∀(cdv:bP) (A:Around) (outer:List Env) (s:bR) (H:Hp) (E:XK),Room k (A.deeper (PyProof.Rows.envOfC qual (AO st) s.heap.objs.size fa cdv))->
   PSs (FN CX0 P w K mg base N qual (AO st) fa cdv A outer s H E).nox (CY st) (RS K g)):FnOk P w K mg base CX0 (k+1) fa fd ps (spF K (fnOf ps.length N.length g)):=by
 have hlen:∀{ds:List D}{S:List Ob}{z:D×List Ob},fnOf ps.length N.length g ds S=some z->ds.length=ps.length:=λ{ds S z} h=>by
  unfold fnOf at h
  split at h
  .next h1=>exact h1
  .cases h
 refine F.ok S (λvs H Q E h=>?_) (λcdv A outer s H vs Q E hr h=>?_)
 .obtain⟨c,ds,S,si,rs,r,S',e,_⟩:=h;rw[rs.length];exact hlen e
 clear 5 h c ds S0 si rs r S' e kk;refine⟨RS K g,hb cdv A outer s H E hr,?_⟩;have hl:=hlen e;unfold fnOf at e;rw[eB hl] at e
 cases eg:g ⟨env0 N.length ds,S0⟩ with
 |none=>rw[eg] at e;cases e
 |some p=>
   clear 5 p o t;rw[eg] at e;refine⟨c.O,c,_,Il si rs,o,t,eg,λσ' H' c' f' s'=>?_⟩;clear 5 f'.leave si' ext';have st':Stp c.O c H ⟨c'.ι,c.O⟩ H':=⟨s'.ext.trans ext',s'.oo⟩
   cases o with
   |next=>cases e;exact kk .non H' _ si' st' (λ_=>d8) .non
   |ret d=>cases e;exact λv rv=>kk v H' _ si' st' (λ_=>d8) (rv.mono ext')
   |brk=>cases e
   |cont=>cases e
variable{fr:List Nat}
section
variable{X:Cx}{e a b:Expr}{pos:Pos}
def items:D->M (List D)
 |.lst ds=>ret ds
 |.tup ds=>ret ds
 |.scr ns=>ret (ns.map .int)
 |_=>fail
noncomputable def By(lo:Int)(n:Nat):List D:=(List.range n).map λi=>.int (lo+(i:Nat))
theorem ItOk.rng{lo:Int}:ItOk K (Itr lo n) c H (By lo n):=by
 refine⟨λc' H' i ex hi=>?_,λc' H' i x H'' d ex hd hy=>?_,λc' H' ex=>?_⟩
 .have:i<n:=by simpa[By] using hi
  exact this
 .clear 5 hy rfl rfl;refine⟨rfl,?_⟩;have hi:i<n:=by
   have:=(ub0.mp hd).1;simpa[By] using this
  have:d=.int (lo+(i:Nat)):=by
   rw[By,uh6,List.getElem?_range hi] at hd;simpa using hd.symm
  rw[this];exact .int _
 .show n<=(By lo n).length;simp[By]
noncomputable def small(i:Int):Bool:=decide (-(2 ^ 62)<=i)&&decide (i<2 ^ 62)
def Jn:List D->M (List D)
 |[.int j]=>λt=>if small j=true then some (By 0 j.toNat,t) else none
 |_=>fail
def Rw:List D->M (List D)
 |[.int i,.int j]=>λt=>if (small i&&small j)=true then some (By i (j-i).toNat,t) else none
 |_=>fail
def B2(f:M (List D)):M (List D):=bnd f Jn
def SJ(f:M (List D)):M (List D):=bnd f Rw
theorem CU{i:Int}(h:small i=true) : -(2 ^ 62)<=i/\i<2 ^ 62:=by
 unfold small at h;rw[uj7] at h;exact⟨uj3 h.1,uj3 h.2⟩
set_option tactic.hygienic true in
theorem OE{f:M (List D)}{p:Pos}(hg:Gl X "range")(hm:X.mg "range" = none)(ha:PA X [a] (RA X.K f))(hs:autoParam (starEach [a] X.env=[(false,eval a X.env)]) q3T):PI X tg (.Call (.Name "range" p) [a] [] pos) (RI X.K (B2 f)):=
 HW (Pk hg hm ha hs) λσ H R z9=>by
  clear 5 z9 Oo c t fi ds t' eq k;clear 5(Af eq)xs t1 e1 eq;refine⟨Oo,c,t,fi,xs,t1,e1,λvs H1 c1 f1 s1 rv=>?_⟩;unfold Jn at eq
  split at eq
  .next j=>
   split at eq
   .next hs=>
    cases eq
    cases rv with
    |cons r rs=>
      cases rs
      cases r
      clear 5(CU hs)h1 h2;exact⟨j,rfl,h1,h2,k _ H1 c1 f1 s1 ItOk.rng⟩
   .cases eq
  .cases eq
def AQ(st:D->M Unit)(tst:M Bool)(elt:M D):List D->M (List D)
 |[]=>ret []
 |d::r=>bnd (st d) λ_=>bnd tst λk=>if k=true then bnd elt λx=>bnd (AQ st tst elt r) λxs=>ret (x::xs) else AQ st tst elt r
noncomputable def YR:Option (Option Sl)->Option Sl
 |some (some (.val d))=>some (.val d)
 |_=>none
def cenv(n:Nat)(fr:List Nat)(env:List (Option Sl)):List (Option Sl):=List.replicate n none++fr.map λi=>YR env[i]?
noncomputable def Dy(n:Nat)(fr:List Nat)(σ:L2.St):L2.St:=List.replicate n none++fr.map λi=>(σ[i]?).join
def AN(n:Nat)(fr:List Nat)(f:M (List D))(st:D->M Unit)(tst:M Bool)(elt:M D):M (List D):=bnd f λds t=>match AQ st tst elt ds ⟨cenv n fr t.env,t.S⟩ with
 |some (xs,t')=>if xs.length<=LIM then some (xs,{t with S:=t'.S}) else none
 |none=>none
theorem Hu{env:List (Option Sl)}{x:Sl}(h:(cenv n fr env)[j]?=some (some x)):∃i d,n<=j/\fr[j-n]?=some i/\env[i]?=some (some (.val d))/\x=.val d:=by
 unfold cenv at h
 by_cases hj:j<n
 .rw[ub1 (by simpa using hj),ub6] at h
  split at h<;>simp at h
 .rw[ua6 (by simpa using hj),ud2,uh6] at h
  cases e:fr[j-n]? with
  |none=>rw[e] at h;simp at h
  |some i=>
    rw[e] at h;simp only[un2,Option.some.injEq] at h
    cases e2:env[i]? with
    |none=>rw[e2] at h;cases h
    |some o=>
      cases o with
      |none=>rw[e2] at h;cases h
      |some sl=>
        cases sl with
        |own _=>rw[e2] at h;cases h
        |val d=>rw[e2] at h;cases h;exact⟨i,d,by lia,rfl,e2,rfl⟩
theorem FO{Oo:bQ->Prop}{t:T}(f:FInv K Oo c t σ H):FInv K c.O c ⟨cenv n fr t.env,t.S⟩ (Dy n fr σ) H:=by
 refine⟨f.s,by simp[cenv,Dy],λ_ z=>z,λj d q=>?_,λj es q=>?_,λj _ es _ _ q _ _ _=>?_⟩
 .obtain⟨i,d',h0,h1,h2,h3⟩:=Hu q
  cases h3
  clear 5(f.val i d h2)v h4 h5;refine⟨v,?_,h5⟩;unfold Dy;rw[ua6 (by simpa using h0),ud2,uh6,h1];simp[h4]
 .obtain⟨_,_,_,_,_,h⟩:=Hu q;cases h
 .obtain⟨_,_,_,_,_,h⟩:=Hu q;cases h
set_option tactic.hygienic true in
theorem RF.comp{f:M (List D)}{st:D->M Unit}{tst:M Bool}{elt:M D}{Q:VK}(q:RF K (AN n fr f st tst elt) σ H Q):Kf (RI K f) (RG K st) (RT K tst) (RE K elt) (Dy n fr) σ H Q:=by
 clear 5 q Oo c t fi xs t' eq k;clear 5(Af eq)ds t1 e1 eq;refine⟨Oo,c,t,fi,ds,t1,e1,λJ H1 c1 f1 s1 it=>?_⟩
 cases e3:AQ st tst elt ds ⟨cenv n fr t1.env,t1.S⟩ with
 |none=>rw[e3] at eq;cases eq
 |some p=>
   clear 5 p ys t3;rw[e3] at eq;dsimp only at eq
   split at eq
   case isFalse=>cases eq
   next hl=>
   cases eq
   refine⟨λi m acc σ' H'=>m=ds.length-i/\i<=ds.length/\∃c' t2 zs rest,FInv K c1.O c' t2 σ' H'/\Stp c1.O c1 H1 c' H'/\Reps K c' H' acc zs/\AQ st tst elt (ds.drop i) t2=some (rest,t3)/\xs=zs++rest,
    ⟨_,rfl,ur0 _,c1,_,[],xs,FO f1,.refl,.nil,by rw[uo0];exact e3,rfl⟩,?_⟩
   rintro i m acc σ' H' ⟨rfl,hi,c',t2,zs,rest,f2,s2,ra,e2,ez⟩;have hacc:acc.length<=sizeLine:=by
    have:zs.length<=xs.length:=by rw[ez,ug7];exact uk2 _ _
    rw[ra.length];exact up6 this (up6 hl BM)
   refine⟨hacc,?_⟩
   by_cases hlt:i<ds.length
   .refine .inr ⟨it.go c' H' i s2.ext hlt,λx H'' hy=>?_⟩;clear 5(it.yld c' H' i x H'' _ s2.ext (ub5 hlt) hy)rfl rx;rw[ub2 hlt] at e2;unfold AQ at e2;clear 5(Af e2)u t4 e4 e2;clear 5(Af e2)kb t5 e5 e2;refine⟨c1.O,c',t2,_,f2,rx,t4,e4,λσ3 H3 c3 f3 s3=>⟨c1.O,c3,t4,f3,kb,t5,e5,λH4 c4 f4 s4=>?_⟩⟩
    cases kb with
    |false=>
      rw[eC ug6] at e2⊢;exact⟨ds.length-(i+1),by lia,rfl,hlt,c4,t5,zs,rest,f4,(s2.trans s3).trans s4,ra.mono (s3.trans s4).ext,e2,ez⟩
    |true=>
      rw[eB rfl] at e2⊢;clear 5(Af e2)x6 t6 e6 e2;clear 5(Af e2)r7 t7 e7 e2
      cases e2
      refine⟨c1.O,c4,t5,f4,x6,t6,e6,λv H5 c5 f5 s5 rv=>?_⟩;exact⟨ds.length-(i+1),by lia,rfl,hlt,c5,t6,zs++[x6],r7,f5,((s2.trans s3).trans s4).trans s5,(ra.mono ((s3.trans s4).trans s5).ext).append (.cons rv .nil),e7,by rw[ez,ui0];rfl⟩
   .have hi':i=ds.length:=by lia
    subst hi';rw[uk1] at e2
    cases e2
    refine .inl ⟨it.stop c' H' s2.ext,λp hp _=>?_⟩;clear 5 f2.leave si ext;clear 5(f1.after si ⟨s2.ext.trans ext,s2.oo⟩ (λ_=>d8))f6 s6;rw[um3] at ez;subst ez;exact k p acc H' _ f6 (s1.trans s6) (ra.mono ext) hp
end
end
open PySem.SeqAt
noncomputable def eq0:D->D->Option Bool
 |.int a,.int b=>some (a==b)
 |.str a,.str b=>some (a==b)
 |.bl a,.bl b=>some (a==b)
 |.non,.non=>some true
 |.non,.tup _=>some false
 |.str _,.non=>some false
 |_,_=>none
noncomputable def B6(f:D->D->Option Bool):List D->List D->Option Bool
 |x::xs,y::ys=>match f x y,B6 f xs ys with
   |some a,some b=>some (a&&b)
   |_,_=>none
 |_,_=>some true
def eqN:Nat->D->D->Option Bool
 |0,x,y=>eq0 x y
 |n+1,.tup xs,.tup ys=>(B6 (eqN n) xs ys).map λb=>b&&xs.length==ys.length
 |n+1,.lst xs,.lst ys=>if xs.length=ys.length then B6 (eqN n) xs ys else some false
 |_+1,x,y=>eq0 x y
noncomputable def ej(f:D->D->Option Bool)(xs ys:List D)(j:Nat):Bool:=match xs[j]?,ys[j]? with
 |some d,some e=>(f d e).getD true
 |_,_=>true
theorem CO{f:D->D->Option Bool}:∀{xs ys:List D}{b:Bool},B6 f xs ys=some b->b=(List.range (min xs.length ys.length)).all (ej f xs ys)/\∀(j:Nat) d e,xs[j]?=some d->ys[j]?=some e->∃k,f d e=some k
 |[],ys,b,h=>by
   have h:some true=some b:=by simpa[B6] using h
   cases h
   refine⟨by simp,λj d e q _=>by simp at q⟩
 |x::xs,[],b,h=>by
   have h:some true=some b:=by simpa[B6] using h
   cases h
   refine⟨by simp,λj d e _ q=>by simp at q⟩
 |x::xs,y::ys,b,h=>by
   unfold B6 at h
   cases e1:f x y with
   |none=>rw[e1] at h;cases h
   |some a=>
     cases e2:B6 f xs ys with
     |none=>rw[e1,e2] at h;cases h
     |some c=>
       rw[e1,e2] at h
       cases h
       clear 5(CO e2)h1 h2;refine⟨?_,λj d e q1 q2=>?_⟩
       .have hm:min (x::xs).length (y::ys).length=min xs.length ys.length+1:=by simp[Nat.succ_min_succ]
        rw[hm,cE,uo7,uq1,h1];have:ej f (x::xs) (y::ys) 0=a:=by simp[ej,e1]
        rw[this];rfl
       .cases j with
        |zero=>simp at q1 q2;subst q1 q2;exact⟨a,e1⟩
        |succ j=>exact h2 j d e (by simpa using q1) (by simpa using q2)
section
variable{P:bS}{w:bT}{H:Hp}{vs:List V}
theorem De{h:Heap}{a:bQ}(o:HOk P w H h)(e:H a=some (.lst vs)):∃its:List bP,Vals vs its/\h.IsList a its.toArray:=by
 obtain⟨_,its,n,r,q⟩:=o a _ e;exact⟨its,r,_,q,rfl,n,rfl⟩
theorem Eh{h:Heap}{a:bQ}(o:HOk P w H h)(e:H a=some (.tup vs)):∃its:List bP,Vals vs its/\h.IsTuple a its.toArray:=by
 obtain⟨_,its,r,q⟩:=o a _ e;exact⟨its,r,q⟩
theorem Fy{its:List bP}{j:Nat}(r:Vals vs its)(h:j<its.toArray.size):∃v,vs[j]?=some v/\RelV v its.toArray[j]:=by
 have h':j<its.length:=by simpa using h
 have hl:j<vs.length:=by rw[r.length];exact h'
 clear 5(r.get (ub5 hl))u e1 e2;refine⟨vs[j],ub5 hl,?_⟩;rw[ub5 h'] at e1
 cases e1
 simpa using e2
variable{b:Bool}
theorem Oq{f:D->D->Option Bool}{xs ys:List D}(h:B6 f xs ys=some b)(ht:∀(j:Nat) d e k,xs[j]?=some d->ys[j]?=some e->f d e=some k->k=true):b=true:=by
 clear 5(CO h)h1 h2;rw[h1,uk3];intro j hj;have hj':=un8.mp hj;have l1:j<xs.length:=by lia
 have l2:j<ys.length:=by lia
 clear 5(h2 j _ _ (ub5 l1) (ub5 l2))k ek;have:=ht j _ _ k (ub5 l1) (ub5 l2) ek;unfold ej;rw[ub5 l1,ub5 l2];simp[ek,this]
theorem Gf{x y:D}(e:eq0 x y=some b):(∃i j,x=.int i/\y=.int j/\(i==j)=b)\/(∃i j,x=.str i/\y=.str j/\(i==j)=b)\/(∃i j,x=.bl i/\y=.bl j/\(i==j)=b)\/(x=.non/\y=.non/\true=b)\/(∃ys,x=.non/\y=.tup ys/\false=b)\/(∃i,x=.str i/\y=.non/\false=b):=by
 unfold eq0 at e
 split at e
 .cases e;exact .inl ⟨_,_,rfl,rfl,rfl⟩
 .cases e;exact .inr (.inl ⟨_,_,rfl,rfl,rfl⟩)
 .cases e;exact .inr (.inr (.inl ⟨_,_,rfl,rfl,rfl⟩))
 .cases e;exact .inr (.inr (.inr (.inl ⟨rfl,rfl,rfl⟩)))
 .cases e;exact .inr (.inr (.inr (.inr (.inl ⟨_,rfl,rfl,rfl⟩))))
 .cases e;exact .inr (.inr (.inr (.inr (.inr ⟨_,rfl,rfl,rfl⟩))))
 .cases e
theorem Gj{n:Nat}{x y:D}(e:eqN n x y=some b):eq0 x y=some b\/(∃m xs ys,n=m+1/\x=.lst xs/\y=.lst ys/\(if xs.length=ys.length then B6 (eqN m) xs ys else some false)=some b)\/∃m xs ys b',n=m+1/\x=.tup xs/\y=.tup ys/\B6 (eqN m) xs ys=some b'/\(b'&&xs.length==ys.length)=b:=by
 unfold eqN at e
 split at e
 .exact .inl e
 .clear 5(uc6.mp e)b' e1 e2;exact .inr (.inr ⟨_,_,_,b',rfl,rfl,rfl,e1,e2⟩)
 .exact .inr (.inl ⟨_,_,_,rfl,rfl,rfl,e⟩)
 .exact .inl e
variable{K:bN}{c:Cf}
theorem Mf:∀(n:Nat){v:V}{d e:D}{b:Bool},Rep K c H v d->Rep K c H v e->eqN n d e=some b->b=true
 :=by
  intro n
  induction n using Nat.strongRecOn with
  |ind n ih=>
  intro v d e b rd re q;have items:∀{m:Nat}{vs:List V}{ds es:List D}{b':Bool},n=m+1->Reps K c H vs ds->Reps K c H vs es->B6 (eqN m) ds es=some b'->b'=true:=λ{m vs ds es b'} hm r1 r2 e'=>
   Oq e' λj d e k q1 q2 ek=>by
    clear 5(r1.at q1)v g1 g2;exact ih m ∅ g2 (r2.get g1 q2) ek
  rcases Gj q with q0|⟨m,ds,es,hm,rfl,rfl,q0⟩|⟨m,ds,es,b',hm,rfl,rfl,q1,q2⟩
  .rcases Gf q0 with⟨i,j,rfl,rfl,rfl⟩|⟨i,j,rfl,rfl,rfl⟩|⟨i,j,rfl,rfl,rfl⟩|⟨rfl,rfl,rfl⟩|⟨ys,rfl,rfl,rfl⟩|⟨i,rfl,rfl,rfl⟩
   .have h:=rd.rv.symm.trans re.rv;cases h;simp
   .have h:=rd.rv.symm.trans re.rv;cases h;simp
   .have h:=rd.rv.symm.trans re.rv;cases h;simp
   .rfl
   .obtain⟨a,vs,e,_⟩:=re.rv;cases (show V.non=_ from rd.rv.symm.trans e)
   .have h:=rd.rv.symm.trans re.rv;cases h
  .obtain⟨a,vs,rfl,h1,_,h3⟩:=rd.rv
   .obtain⟨_,ws,k,g1,_,g3⟩:=re.rv
    .  cases k
       rw[h1] at g1;cases g1
       rw[eB (h3.length.symm.trans g3.length)] at q0;exact items hm h3 g3 q0
  .obtain⟨a,vs,rfl,h1,_,h3⟩:=rd.rv
   .obtain⟨_,ws,k,g1,_,g3⟩:=re.rv
    .  cases k
       rw[h1] at g1;cases g1
       rw[<-q2,items hm h3 g3 q1,h3.length.symm.trans g3.length];simp
theorem Fc{s:bR}(hok:HOk P w H s.heap):∀(n:Nat){A:Around}{x y:V}{u v:bP}{dx dy:D}{b:Bool},RelV x u->RelV y v->Rep K c H x dx->Rep K c H y dy->eqN n dx dy=some b->A.units+n<cLine->
 RcAt A s u v b/\(EqAt A s u v b)
 :=by
  intro n
  induction n using Nat.strongRecOn with
  |ind n ih=>
  intro A x y u v dx dy b ru rv rx ry e hu;have items:∀{m:Nat}{vs ws:List V}{is js:List bP}{ds es:List D}{b':Bool},n=m+1->Vals vs is->Vals ws js->Reps K c H vs ds->Reps K c H ws es->B6 (eqN m) ds es=some b'->
   ∀j (h1:j<is.toArray.size) (h2:j<js.toArray.size),EqAt A.in1 s is.toArray[j] js.toArray[j] (ej (eqN m) ds es j):=λ{m vs ws is js ds es b'} hm r1 r2 q1 q2 e' j h1 h2=>by
   clear 5(Fy r1 h1)v1 a1 a2;clear 5(Fy r2 h2)v2 b1 b2;clear 5(ub0.mp a1)l1 g1;clear 5(ub0.mp b1)l2 g2;have k1:ds[j]?=some (ds[j]'(by rw[<-q1.length];exact l1)):=ub5 _;have k2:es[j]?=some (es[j]'(by rw[<-q2.length];exact l2)):=ub5 _;clear 5((CO e').2 j _ _ k1 k2)kk ek;have:ej (eqN m) ds es j=kk:=by unfold ej;rw[k1,k2];simp[ek]
   rw[this];have hu':A.in1.units+m<cLine:=by
    have:A.in1.units=A.units+1:=by first|rfl|exact Around.units_in1 _|simp[Around.in1,Around.units]
    lia
   exact(ih m ∅ a2 b2 (q1.get a1 k1) (q2.get b1 k2) ek hu').2
  have hu0:A.units<cLine:=by lia
  have conc:∀{p q:bQ}{k:Bool},p≠q->RcAt A s (.ref p) (.ref q) k->RcAt A s (.ref p) (.ref q) k/\EqAt A s (.ref p) (.ref q) k:=λhn h=>⟨h,EqAt.of_refs hn h⟩;rcases Gj e with e0|⟨m,ds,es,hm,rfl,rfl,e0⟩|⟨m,ds,es,b',hm,rfl,rfl,e1,e2⟩
  .rcases Gf e0 with⟨i,j,rfl,rfl,rfl⟩|⟨i,j,rfl,rfl,rfl⟩|⟨i,j,rfl,rfl,rfl⟩|⟨rfl,rfl,rfl⟩|⟨ys,rfl,rfl,rfl⟩|⟨i,rfl,rfl,rfl⟩
   .cases (show x=_ from rx.rv);cases (show y=_ from ry.rv);clear 5 ru t' rfl;clear 5 rv t rfl;exact⟨RcAt.int_int _ _ _ _,EqAt.int_int _ _ _ _⟩
   .cases (show x=_ from rx.rv);cases (show y=_ from ry.rv);clear 5 ru t' rfl;clear 5 rv t rfl;exact⟨RcAt.str_str _ _ _ _,EqAt.str_str _ _ _ _⟩
   .cases (show x=_ from rx.rv);cases (show y=_ from ry.rv);cases ru;cases rv;exact⟨RcAt.bool_bool _ _,EqAt.bool_bool _ _⟩
   .cases (show x=_ from rx.rv);cases (show y=_ from ry.rv);cases ru;cases rv;exact⟨RcAt.none_none,EqAt.same _⟩
   .cases (show x=_ from rx.rv);obtain⟨_,_,rfl,h1,_⟩:=ry.rv;cases ru;cases rv;clear 5(Eh hok h1)its r l;exact⟨RcAt.none_tuple l hu0,EqAt.none_tuple l hu0⟩
   .cases (show x=_ from rx.rv);cases (show y=_ from ry.rv);clear 5 ru t' rfl;cases rv;exact⟨RcAt.str_none _ _,EqAt.str_none _ _⟩
  .obtain⟨p,vs,rfl,g1,g2,g3⟩:=rx.rv
   .obtain⟨q,ws,rfl,h1,h2,h3⟩:=ry.rv
    .
     cases ru
     cases rv
     clear 5(De hok g1)is r1 l1;clear 5(De hok h1)js r2 l2;have hs1:is.toArray.size=ds.length:=by rw[<-g3.length,r1.length];simp
     have hs2:js.toArray.size=es.length:=by rw[<-h3.length,r2.length];simp
     by_cases hl:ds.length=es.length
     .rw[eB hl] at e0;have hsz:is.toArray.size=js.toArray.size:=by rw[hs1,hs2,hl]
      have rc:=RcAt.lists l1 l2 hsz hu0 (items hm r1 r2 g3 h3 e0);have eb:(List.range is.toArray.size).all (ej (eqN m) ds es)=b:=by rw[(CO e0).1,hs1,<-hl,Nat.min_self]
      rw[eb] at rc
      by_cases hpq:p=q
      .refine⟨rc,?_⟩;subst hpq;rw[Mf n rx ry e];exact EqAt.same _
      .exact conc hpq rc
     .rw[eC hl] at e0
      cases e0
      have hsz:(is.toArray.size != js.toArray.size)=true:=by rw[hs1,hs2];simpa using hl
      refine conc (λz=>hl ?_) (RcAt.lists_lengths l1 l2 hsz hu0);subst z;rw[g1] at h1;cases h1
      rw[<-g3.length,<-h3.length]
  .obtain⟨p,vs,rfl,g1,g2,g3⟩:=rx.rv
   .obtain⟨q,ws,rfl,h1,h2,h3⟩:=ry.rv
    .
     cases ru
     cases rv
     clear 5(Eh hok g1)is r1 l1;clear 5(Eh hok h1)js r2 l2;have hs1:is.toArray.size=ds.length:=by rw[<-g3.length,r1.length];simp
     have hs2:js.toArray.size=es.length:=by rw[<-h3.length,r2.length];simp
     have rc:=RcAt.tuples l1 l2 hu0 (items hm r1 r2 g3 h3 e1);have eb:((List.range (min is.toArray.size js.toArray.size)).all (ej (eqN m) ds es)&&is.toArray.size==js.toArray.size)=b:=by rw[hs1,hs2,<-(CO e1).1];exact e2
     rw[eb] at rc
     by_cases hpq:p=q
     .refine⟨rc,?_⟩;subst hpq;rw[Mf n rx ry e];exact EqAt.same _
     .exact conc hpq rc
theorem Uv{s:bR}(hok:HOk P w H s.heap)(n:Nat){A:Around}{x y:V}{u v:bP}{dx dy:D}{b:Bool}(ru:RelV x u)(rv:RelV y v)(rx:Rep K c H x dx)(ry:Rep K c H y dy)(e:eqN n dx dy=some b)(hu:A.units+n<cLine) :
 RcNeAt A s u v (!b):=by
 have items:∀{m:Nat}{vs ws:List V}{is js:List bP}{ds es:List D}{b':Bool},n=m+1->Vals vs is->Vals ws js->Reps K c H vs ds->Reps K c H ws es->B6 (eqN m) ds es=some b'->
  ∀j (h1:j<is.toArray.size) (h2:j<js.toArray.size),EqAt A.in1 s is.toArray[j] js.toArray[j] (ej (eqN m) ds es j):=λ{m vs ws is js ds es b'} hm r1 r2 q1 q2 e' j h1 h2=>by
  clear 5(Fy r1 h1)v1 a1 a2;clear 5(Fy r2 h2)v2 b1 b2;clear 5(ub0.mp a1)l1 g1;clear 5(ub0.mp b1)l2 g2;have k1:ds[j]?=some (ds[j]'(by rw[<-q1.length];exact l1)):=ub5 _;have k2:es[j]?=some (es[j]'(by rw[<-q2.length];exact l2)):=ub5 _;clear 5((CO e').2 j _ _ k1 k2)kk ek;have:ej (eqN m) ds es j=kk:=by unfold ej;rw[k1,k2];simp[ek]
  rw[this];have hu':A.in1.units+m<cLine:=by
   have:A.in1.units=A.units+1:=rfl;lia
  exact(Fc hok m a2 b2 (q1.get a1 k1) (q2.get b1 k2) ek hu').2
 have hu0:A.units<cLine:=by lia
 rcases Gj e with e0|⟨m,ds,es,hm,rfl,rfl,e0⟩|⟨m,ds,es,b',hm,rfl,rfl,e1,e2⟩
 .rcases Gf e0 with⟨i,j,rfl,rfl,rfl⟩|⟨i,j,rfl,rfl,rfl⟩|⟨i,j,rfl,rfl,rfl⟩|⟨rfl,rfl,rfl⟩|⟨ys,rfl,rfl,rfl⟩|⟨i,rfl,rfl,rfl⟩
  .cases (show x=_ from rx.rv);cases (show y=_ from ry.rv);clear 5 ru t' rfl;clear 5 rv t rfl;exact RcNeAt.int_int _ _ _ _
  .cases (show x=_ from rx.rv);cases (show y=_ from ry.rv);clear 5 ru t' rfl;clear 5 rv t rfl;exact RcNeAt.str_str _ _ _ _
  .cases (show x=_ from rx.rv);cases (show y=_ from ry.rv);cases ru;cases rv;exact RcNeAt.bool_bool _ _
  .cases (show x=_ from rx.rv);cases (show y=_ from ry.rv);cases ru;cases rv;exact RcNeAt.none_none
  .cases (show x=_ from rx.rv);obtain⟨_,_,rfl,h1,_⟩:=ry.rv;cases ru;cases rv;clear 5(Eh hok h1)its r l;exact RcNeAt.none_tuple l hu0
  .cases (show x=_ from rx.rv);cases (show y=_ from ry.rv);clear 5 ru t' rfl;cases rv;exact RcNeAt.str_none _ _
 .obtain⟨p,vs,rfl,g1,g2,g3⟩:=rx.rv
  .obtain⟨q,ws,rfl,h1,h2,h3⟩:=ry.rv
   .
    cases ru
    cases rv
    clear 5(De hok g1)is r1 l1;clear 5(De hok h1)js r2 l2;have hs1:is.toArray.size=ds.length:=by rw[<-g3.length,r1.length];simp
    have hs2:js.toArray.size=es.length:=by rw[<-h3.length,r2.length];simp
    by_cases hl:ds.length=es.length
    .rw[eB hl] at e0;have hsz:is.toArray.size=js.toArray.size:=by rw[hs1,hs2,hl]
     have rc:=RcNeAt.lists l1 l2 hsz hu0 (items hm r1 r2 g3 h3 e0);rw[show(List.range is.toArray.size).all (ej (eqN m) ds es)=b by rw[(CO e0).1,hs1,<-hl,Nat.min_self]] at rc;exact rc
    .rw[eC hl] at e0
     cases e0
     exact RcNeAt.lists_lengths l1 l2 (by rw[hs1,hs2];simpa using hl) hu0
 .obtain⟨p,vs,rfl,g1,g2,g3⟩:=rx.rv
  .obtain⟨q,ws,rfl,h1,h2,h3⟩:=ry.rv
   .
    cases ru
    cases rv
    clear 5(Eh hok g1)is r1 l1;clear 5(Eh hok h1)js r2 l2;have hs1:is.toArray.size=ds.length:=by rw[<-g3.length,r1.length];simp
    have hs2:js.toArray.size=es.length:=by rw[<-h3.length,r2.length];simp
    have rc:=RcNeAt.tuples l1 l2 hu0 (items hm r1 r2 g3 h3 e1);have eb:((List.range (min is.toArray.size js.toArray.size)).all (ej (eqN m) ds es)&&is.toArray.size==js.toArray.size)=b:=by rw[hs1,hs2,<-(CO e1).1];exact e2
    rw[eb] at rc;exact rc
def EQD:Nat:=40
def neD(x y:D):M D:=λt=>(eqN EQD x y).map λb=>(.bl (!b),t)
def NH(K:bN)(g:Bool->Bool):R2:=λx y H Q=>∃c dx dy b,Rep K c H x dx/\Rep K c H y dy/\eqN EQD dx dy=some b/\Q (.bl (g b)) H
theorem K0{X:Cx}(hu:X.A.units+64<cLine):OpR X (compareOp .Eq) (NH X.K id):=by
 intro bO s σ H x y v u Q I rx ry h;clear 5 h c dx dy b q1 q2 e q;have hu':X.A.units+EQD<cLine:=by unfold EQD;lia
 exact(Fc I.hok EQD rx ry q1 q2 e hu').1 X.prog X.w _ _ ⟨.bl b,H,I,rfl,q⟩
theorem K3{X:Cx}(hu:X.A.units+64<cLine):OpR X (compareOp .NotEq) (NH X.K (!·)):=by
 intro bO s σ H x y v u Q I rx ry h;clear 5 h c dx dy b q1 q2 e q;have hu':X.A.units+EQD<cLine:=by unfold EQD;lia
 exact Uv I.hok EQD rx ry q1 q2 e hu' X.prog X.w _ _ ⟨.bl (!b),H,I,rfl,q⟩
end
section
variable{g:Int->Int->D}{z:D×T}{X:Cx}{c:Cf}{H:Hp}
section
variable{K:bN}
def i2(g:Int->Int->D):D->D->M D
 |.int i,.int j=>ret (g i j)
 |_,_=>fail
theorem WF{x y:D}{t:T}(h:i2 g x y t=some z):∃i j,x=.int i/\y=.int j/\z=(g i j,t):=by
 cases x with
 |int i=>cases y with
   |int j=>cases h;exact⟨i,j,rfl,rfl,rfl⟩
   |_=>cases h
 |_=>cases h
theorem XL{gV:Int->Int->V}(hr:∀i j c H,Rep K c H (gV i j) (g i j)):Bh K (rI0 gV) (i2 g):=λ{Oo c t σ H x y dx dy r t' Q} f rx ry eq k=>by
 clear 5(WF eq)i j rfl rfl z
 cases z
 cases rx
 cases ry
 exact⟨i,j,rfl,rfl,k _ H c f .refl (hr i j c H)⟩
def i2C(C:Int->Int->Bool)(g:Int->Int->D):D->D->M D
 |.int i,.int j=>λt=>if C i j=true then some (g i j,t) else none
 |_,_=>fail
theorem Uh{C:Int->Int->Bool}{x y:D}{t:T}(h:i2C C g x y t=some z):∃i j,x=.int i/\y=.int j/\C i j=true/\z=(g i j,t):=by
 cases x with
 |int i=>cases y with
   |int j=>
     unfold i2C at h;dsimp only at h
     by_cases hc:C i j=true
     .rw[eB hc] at h;cases h;exact⟨i,j,rfl,rfl,hc,rfl⟩
     .rw[eC hc] at h;cases h
   |_=>cases h
 |_=>cases h
theorem Fs{P:Int->Int->Prop}{C:Int->Int->Bool}{gV:Int->Int->V}(hP:∀i j,C i j=true->P i j)(hr:∀i j c H,Rep K c H (gV i j) (g i j)):Bh K (rI P gV) (i2C C g):=λ{Oo c t σ H x y dx dy r t' Q} f rx ry eq k=>by
 clear 5(Uh eq)i j rfl rfl hc z
 cases z
 cases rx
 cases ry
 exact⟨i,j,rfl,rfl,hP i j hc,k _ H c f .refl (hr i j c H)⟩
def Cw:=i2 λi j=>.int (i-j)
noncomputable def J5(_ j:Int):Bool:=decide (0<j)&&decide (j<1073741824)
def D8:=i2C J5 λi j=>.int (i/j)
def CS:=i2C (λ_ j=>decide (0<j)) λi j=>.int (i%j)
noncomputable def Kc(i j:Int):Bool:=decide (0<=j)&&decide (j<=1000000)&&decide (i.natAbs<2 ^ 64)
def FX:=i2C Kc λi j=>.int (i ^ j.toNat)
noncomputable def FW(i j:Int):Bool:=(decide (-(2 ^ 64)<i)&&decide (i<2 ^ 64))||(decide (-(2 ^ 64)<j)&&decide (j<2 ^ 64))
theorem Vo:Bh K (rI0 λi j=>.int (i-j)) Cw:=XL λi j _ _=>.int _
theorem RL:Bh K (rI V1 λi j=>.int (i/j)) D8:=Fs (λi j h=>by
 unfold J5 at h;rw[uj7] at h;exact⟨uj3 h.1,uj3 h.2⟩) λi j _ _=>.int _
theorem Vl:Bh K (rI (λ_ j=>0<j) λi j=>.int (i%j)) CS:=Fs (λi j h=>uj3 h) λi j _ _=>.int _
theorem Vn:Bh K (rI V2 λi j=>.int (i ^ j.toNat)) FX:=Fs (λi j h=>by
 unfold Kc at h;rw[uj7,uj7] at h;exact⟨uj3 h.1.1,uj3 h.1.2,uj3 h.2⟩) λi j _ _=>.int _
theorem O6{i j:Int}(h:FW i j=true):CMul i j:=by
 unfold FW at h;rw[Bool.or_eq_true,uj7,uj7] at h;rcases h with h|h
 .exact .inl ⟨uj3 h.1,uj3 h.2⟩
 .exact .inr ⟨uj3 h.1,uj3 h.2⟩
def ZK:D->M D
 |.int i=>ret (.int (-i))
 |_=>fail
def Qd:D->D->M D
 |.int i,.int j=>ret (.int (i+j))
 |.str x,.str y=>lim (x.length+y.length) (.str (x++y))
 |.lst xs,.lst ys=>lim (xs.length+ys.length) (.lst (xs++ys))
 |.tup xs,.tup ys=>λt=>if xs.isEmpty=false/\xs.length+ys.length<=LIM then some (.tup (xs++ys),t) else none
 |_,_=>fail
def U3:R2:=λx y H Q=>∃i j,x=.str i/\y=.str j/\i.length+j.length<=sizeLine/\Q (.str (i++j)) H
def NG(K:bN):R2:=λx y H Q=>rI0 (λi j=>.int (i+j)) x y H Q\/(U3 x y H Q\/(Xr x y H Q\/Ta K x y H Q))
theorem op_add4:OpR X (binaryOp .Add) (NG X.K):=op_add.or (op_add_str.or (op_cat.or UD))
set_option tactic.hygienic true in
theorem U9:Bh K (NG K) Qd:=λ{Oo c t σ H x y dx dy r t' Q} f rx ry eq k=>by
 cases rx with
 |int i=>
   cases ry with
   |int j=>cases eq;exact .inl ⟨i,j,rfl,rfl,k _ H c f .refl (.int _)⟩
   |_=>cases eq
 |str i=>
   cases ry with
   |str j=>
     clear 5(DB eq)h z
     cases z
     exact .inr (.inl ⟨i,j,rfl,rfl,up6 h BM,k _ H c f .refl (.str _)⟩)
   |_=>cases eq
 |@lst a vs ds h1 h2 h3=>
   cases ry with
   |@lst b ws es g1 g2 g3=>
     clear 5(DB eq)h z
     cases z
     refine .inr (.inr (.inl ⟨a,b,vs,ws,rfl,rfl,h1,g1,?_,λp hp=>?_⟩))
     .rw[h3.length,g3.length];exact up6 h BM
     .exact k _ _ c (f.laid hp) (f.stp_laid hp) (.lst AA (f.s.free hp) ((h3.append g3).mono (Ext.laid f.s hp)))
   |_=>cases eq
 |@tup a vs ds h1 h2 h3=>
   cases ry with
   |@tup b ws es g1 g2 g3=>
     unfold Qd at eq;dsimp only at eq
     split at eq
     .next h=>
      cases eq
      have hne:vs≠[]:=λz=>by
       have:=h3.length;rw[z] at this;have h0:ds.length=0:=this.symm;have:ds=[]:=ub8.mp h0;rw[this] at h;simp at h
      refine .inr (.inr (.inr ⟨a,b,vs,ws,rfl,rfl,SqT.of h1,SqT.of g1,hne,?_,λz=>?_,λz p hp=>?_⟩))
      .rw[h3.length,g3.length];exact up6 h.2 BM
      .subst z;have:es=[]:=ub8.mp g3.length.symm;subst this;rw[um3] at k;exact k _ H c f .refl (.tup h1 h2 h3)
      .exact k _ _ c (f.laid hp) (f.stp_laid hp) (.tup AA (f.s.free hp) ((h3.append g3).mono (Ext.laid f.s hp)))
     .cases eq
   |_=>cases eq
 |_=>cases eq
def Wc:D->D->M (List D)
 |.lst xs,.lst ys=>lim (xs.length+ys.length) (xs++ys)
 |_,_=>fail
def isC:D->D->M D
 |x,.non=>λt=>some (.bl (match x with | .non=>true|_=>false),t)
 |x,.bl b=>λt=>some (.bl (match x with | .bl c=>c==b|_=>false),t)
 |_,_=>fail
def OQ(x y:D):M D:=bnd (isC x y) λd=>match d with | .bl b=>ret (.bl (!b))|_=>fail
def rIs(g:Bool->Bool):R2:=λx y H Q=>(y=.non\/∃b,y=.bl b)/\Q (.bl (g (decide (x=y)))) H
theorem Ty{x y:V}{v u:bP}(rx:RelV x v)(ry:RelV y u)(hy:y=.non\/∃b,y=.bl b):plainIs v u=true/\(v==u)=decide (x=y):=by
 rcases hy with rfl|⟨b,rfl⟩
 .cases ry
  cases x with
  |non=>cases rx;exact⟨rfl,by simp⟩
  |bl _=>cases rx;exact⟨rfl,by simp⟩
  |int _=>clear 5 rx t rfl;exact⟨rfl,by simp⟩
  |str _=>clear 5 rx t rfl;exact⟨rfl,by simp⟩
  |byt _=>clear 5 rx t rfl;exact⟨rfl,by simp⟩
  |flt _=>clear 5 rx t rfl;exact⟨rfl,by simp⟩
  |ref _=>cases rx;exact⟨rfl,by simp⟩
  |ty _=>cases rx;exact⟨rfl,by simp⟩
 .cases ry
  cases x with
  |non=>cases rx;exact⟨rfl,by simp⟩
  |bl c=>cases rx;exact⟨rfl,by simp;cases c<;>cases b<;>rfl⟩
  |int _=>clear 5 rx t rfl;exact⟨rfl,by simp⟩
  |str _=>clear 5 rx t rfl;exact⟨rfl,by simp⟩
  |byt _=>clear 5 rx t rfl;exact⟨rfl,by simp⟩
  |flt _=>clear 5 rx t rfl;exact⟨rfl,by simp⟩
  |ref _=>cases rx;exact⟨rfl,by simp⟩
  |ty _=>cases rx;exact⟨rfl,by simp⟩
theorem WY:OpR X (compareOp .Is) (rIs id):=by
 intro bO s σ H x y v u Q I rx ry h;clear 5 h hy q;clear 5(Ty rx ry hy)h1 h2;exact wpAny_is_plain h1 ⟨.bl _,H,I,by rw[h2];rfl,q⟩
set_option tactic.hygienic true in
theorem Uk{x y:V}{dx dy:D}{t:T}(rx:Rep K c H x dx)(ry:Rep K c H y dy)(eq:isC dx dy t=some z):(y=.non\/∃b,y=.bl b)/\z=(.bl (decide (x=y)),t):=by
 cases ry with
 |non=>
   refine⟨.inl rfl,?_⟩
   cases rx<;>(cases eq;first|rfl|simp)
 |bl b=>
   refine⟨.inr ⟨b,rfl⟩,?_⟩
   cases rx<;>(cases eq;first|rfl|simp)
   next a=>cases a<;>cases b<;>rfl
 |_=>cases eq
theorem XO:Bh K (rIs id) isC:=λ{Oo c t σ H x y dx dy r t' Q} f rx ry eq k=>by
 clear 5(Uk rx ry eq)h z
 cases z
 exact⟨h,k _ H c f .refl (.bl _)⟩
noncomputable def DM:D->Bool
 |.non=>true | .bl _=>true | .int _=>true | .str _=>true|_=>false
noncomputable def NL:D->Option (List D)
 |.lst ds=>some ds
 |.tup ds=>some ds
 |_=>none
noncomputable def toV:D->V
 |.bl b=>.bl b | .int i=>.int i | .str x=>.str x|_=>.non
theorem Fo{v:V}{d:D}(r:Rep K c H v d)(h:DM d=true):v=toV d:=by cases r<;>first|rfl|cases h
theorem EF{c:Cf}{H:Hp}:∀{vs:List V}{ds:List D},Reps K c H vs ds->ds.all DM=true->vs=ds.map toV
 |_,_,.nil,_=>rfl
 |_,_,.cons r t,h=>by
   rw[uo7,uj7] at h;rw[uo6,Fo r h.1,EF t h.2]
theorem FP:∀d:D,D9 (toV d)=true:=λd=>by cases d<;>rfl
def inD(neg:Bool)(x y:D):M D:=λt=>match NL y with
 |some ds=>if DM x=true/\ds.all DM=true then some (.bl (if neg then !inV (toV x) (ds.map toV) else inV (toV x) (ds.map toV)),t) else none
 |none=>none
set_option tactic.hygienic true in
theorem XN{neg:Bool}:Bh K (rIn K neg) (inD neg):=λ{Oo c t σ H x y dx dy r t' Q} f rx ry eq k=>by
 unfold inD at eq
 cases ry with
 |@lst a vs ds h1 h2 h3=>
   dsimp only[NL] at eq
   split at eq
   .next h=>
    cases eq
    refine⟨a,vs,rfl,.inl (SqL.of h1),?_,?_,?_⟩
    .rw[Fo rx h.1];exact FP _
    .rw[EF h3 h.2,uq1,uk3];exact λd _=>FP d
    .rw[Fo rx h.1,EF h3 h.2];exact k _ H c f .refl (.bl _)
   .cases eq
 |@tup a vs ds h1 h2 h3=>
   dsimp only[NL] at eq
   split at eq
   .next h=>
    cases eq
    refine⟨a,vs,rfl,.inr (SqT.of h1),?_,?_,?_⟩
    .rw[Fo rx h.1];exact FP _
    .rw[EF h3 h.2,uq1,uk3];exact λd _=>FP d
    .rw[Fo rx h.1,EF h3 h.2];exact k _ H c f .refl (.bl _)
   .cases eq
 |_=>cases eq
def ixD:D->D->M D
 |.lst ds,.int i=>λt=>(atI ds i).map λd=>(d,t)
 |.tup ds,.int i=>λt=>(atI ds i).map λd=>(d,t)
 |.scr ns,.int i=>λt=>(atI ns i).map λn=>(.int n,t)
 |.str x,.int i=>λt=>if x.length<=LIM then(atI x.cps.toList i).map λn=>(.str ⟨#[n]⟩,t) else none
 |.obj k,.int i=>λt=>match t.S[k]? with
   |some (.lst ds)=>(atI ds i).map λd=>(d,t)
   |_=>none
 |_,_=>fail
theorem Ht{vs:List V}{ds:List D}{i:Int}{d:D}(r:Reps K c H vs ds)(h:atI ds i=some d):∃v,atI vs i=some v/\Rep K c H v d:=by
 unfold atI at h⊢;clear 5(ub9.mp h)j h1 h2;clear 5(r.at h2)v h3 h4;exact⟨v,by rw[r.length,h1];exact h3,h4⟩
theorem Tw{α β:Type}(g:α->β)(xs:List α)(i:Int):atI (xs.map g) i=(atI xs i).map g:=by
 unfold atI;rw[um6]
 cases ixN xs.length i with
 |none=>rfl
 |some j=>simp
theorem WH{dx dy r:D}{t t':T}(eq:ixD dx dy t=some (r,t')):∃i,dy=.int i/\((∃ds,dx=.lst ds)\/(∃ds,dx=.tup ds)\/(∃ns,dx=.scr ns)\/(∃z,dx=.str z)\/∃k,dx=.obj k):=by
 unfold ixD at eq
 split at eq
 .exact⟨_,rfl,.inl ⟨_,rfl⟩⟩
 .exact⟨_,rfl,.inr (.inl ⟨_,rfl⟩)⟩
 .exact⟨_,rfl,.inr (.inr (.inl ⟨_,rfl⟩))⟩
 .exact⟨_,rfl,.inr (.inr (.inr (.inl ⟨_,rfl⟩)))⟩
 .exact⟨_,rfl,.inr (.inr (.inr (.inr ⟨_,rfl⟩)))⟩
 .cases eq
set_option tactic.hygienic true in
theorem XQ:Bh K (rIx K) ixD:=λ{Oo c t σ H x y dx dy r t' Q} f rx ry eq k=>by
 clear 5(WH eq)i rfl hd
 cases ry
 rcases hd with⟨ds,rfl⟩|⟨ds,rfl⟩|⟨ns,rfl⟩|⟨z,rfl⟩|⟨kk,rfl⟩
 .obtain⟨a,vs,rfl,h1,h2,h3⟩:=rx.rv
  clear 5(uc6.mp eq)d e1 e2
  cases e2
  clear 5(Ht h3 e1)v e3 e4;exact .inl ⟨a,vs,i,v,rfl,rfl,SqL.of h1,e3,k _ H c f .refl e4⟩
 .obtain⟨a,vs,rfl,h1,h2,h3⟩:=rx.rv
  clear 5(uc6.mp eq)d e1 e2
  cases e2
  clear 5(Ht h3 e1)v e3 e4;exact .inr (.inl ⟨a,vs,i,v,rfl,rfl,SqT.of h1,e3,k _ H c f .refl e4⟩)
 .obtain⟨a,rfl,h1⟩:=rx.rv
  clear 5(uc6.mp eq)n e1 e2
  cases e2
  exact .inl ⟨a,_,i,.int n,rfl,rfl,h1.sq,by rw[Tw,e1];rfl,k _ H c f .refl (.int n)⟩
 .cases rx
  unfold ixD at eq;dsimp only at eq
  split at eq
  .next hl=>
   clear 5(uc6.mp eq)n e1 e2
   cases e2
   exact .inr (.inr ⟨z,i,n,rfl,rfl,up6 hl BM,e1,k _ H c f .refl (.str _)⟩)
  .cases eq
 .obtain⟨a,rfl,h1⟩:=rx.rv
  unfold ixD at eq;dsimp only at eq
  cases es:t.S[kk]? with
  |none=>rw[es] at eq;cases eq
  |some o=>
    rw[es] at eq
    cases o with
    |dct _|ins _ _|dtu _=>cases eq
    |lst ds=>
      clear 5(uc6.mp eq)d e1 e2
      cases e2
      clear 5(f.s.obs kk a _ h1 es)vs g1 g2;clear 5(Ht g2 e1)v e3 e4;exact .inl ⟨a,vs,i,v,rfl,rfl,SqL.of g1,e3,k _ H c f .refl e4⟩
end
variable{f:M D}{id:String}{R:List V->Hp->VK->Prop}{x:Str}{p:Pos}
section
variable{X:Cx}{e a b:Expr}{es:List Expr}{pos:Pos}
inductive RO(K:bN)(f:M (Option Int))(σ:L2.St)(H:Hp)(Q:Option Int->Hp->Prop):Prop where
 |mk (Oo:bQ->Prop) (c:Cf) (t:T) (fi:FInv K Oo c t σ H) (r:Option Int) (t':T) (e:f t=some (r,t')) (k:∀H' c',FInv K Oo c' t' σ H'->Stp Oo c H c' H'->Q r H'):RO K f σ H Q
theorem N6{oe:Option Expr}{t t':TO}(h:PO X oe t)(i:∀σ H Q,t' σ H Q->t σ H Q):PO X oe t':=λbO s σ H Q I q=>h bO s σ H Q I (i σ H Q q)
def fNo:M (Option Int):=ret none
def asI:D->M (Option Int)
 |.int i=>ret (some i)
 |_=>fail
def Bc(f:M D):M (Option Int):=bnd f asI
theorem T4:PO X none (RO X.K fNo):=N6 UU λσ H Q z9=>by
 clear 5 z9 Oo c t fi r t' eq k
 cases eq
 exact k H c fi .refl
theorem T5(h:PE X e (RE X.K f)):PO X (some e) (RO X.K (Bc f)):=N6 (UV h) λσ H Q z9=>by
 clear 5 z9 Oo c t fi r t' eq k;clear 5(Af eq)d t1 e1 eq;refine⟨Oo,c,t,fi,d,t1,e1,λv H1 c1 f1 s1 rv=>?_⟩
 cases rv with
 |int i=>cases eq;exact⟨i,rfl,k H1 c1 f1 s1⟩
 |_=>cases eq
def M5(K:bN)(R:V->Option Int->Option Int->Hp->VK->Prop)(h:D->Option Int->Option Int->M D):Prop:=∀{Oo:bQ->Prop}{c:Cf}{t:T}{σ:L2.St}{H:Hp}{x:V}{dx r:D}{lo hi:Option Int}{t':T}{Q:VK},FInv K Oo c t σ H->Rep K c H x dx->h dx lo hi t=some (r,t')->
 (∀v H' c',FInv K Oo c' t' σ H'->Stp Oo c H c' H'->Rep K c' H' v r->Q v H')->R x lo hi H Q
def fSl(f:M D)(l u:M (Option Int))(h:D->Option Int->Option Int->M D):M D:=bnd f λx=>bnd l λlo=>bnd u λhi=>h x lo hi
theorem KF{R:V->Option Int->Option Int->Hp->VK->Prop}{h:D->Option Int->Option Int->M D}{l u:M (Option Int)}{lo hi:Option Expr}{p2:Pos}(hr:SlR X R)(s:M5 X.K R h)(he:PE X e (RE X.K f))(hl:PO X lo (RO X.K l))(hu:PO X hi (RO X.K u)):PE X (.Subscript e (.Slice lo hi none p2) pos) (RE X.K (fSl f l u h)):=
 Az (K9 hr he hl hu) λσ H Q z9=>by
  clear 5 z9 Oo c t fi r t' eq k;clear 5(Af eq)d t1 e1 eq;clear 5(Af eq)ol t2 e2 eq;clear 5(Af eq)oh t3 e3 eq;exact⟨Oo,c,t,fi,d,t1,e1,λv H1 c1 f1 s1 rv=>⟨Oo,c1,t1,f1,ol,t2,e2,λH2 c2 f2 s2=>⟨Oo,c2,t2,f2,oh,t3,e3,λH3 c3 f3 s3=>
   s f3 (rv.mono (s2.trans s3).ext) eq λv H' c' f' s' rv'=>k v H' c' f' (((s1.trans s2).trans s3).trans s') rv'⟩⟩⟩
def AK{α:Type}(xs:List α)(lo hi:Option Int):List α:=(xs.drop (HT.sIx xs.length 0 lo)).take (HT.sIx xs.length xs.length hi-HT.sIx xs.length 0 lo)
def slD:D->Option Int->Option Int->M D
 |.lst ds,lo,hi=>ret (.lst (AK ds lo hi))
 |.scr ns,lo,hi=>ret (.lst ((AK ns lo hi).map .int))
 |.tup ds,lo,hi=>λt=>if HT.sIx ds.length 0 lo=0/\HT.sIx ds.length ds.length hi=ds.length then none else some (.tup (AK ds lo hi),t)
 |_,_,_=>fail
theorem DG{K:bN}{vs:List V}{ds:List D}(r:Reps K c H vs ds)(lo hi:Option Int):Reps K c H (FM vs lo hi) (AK ds lo hi):=by
 unfold FM AK;rw[r.length];exact(r.drop _).take _
theorem Ql{α β:Type}(g:α->β)(xs:List α)(lo hi:Option Int):AK (xs.map g) lo hi=(AK xs lo hi).map g:=by
 unfold AK;rw[um6,uo9,up0]
theorem JG(ns:List Int)(lo hi:Option Int):FM (ns.map V.int) lo hi=(AK ns lo hi).map V.int:=Ql V.int ns lo hi
def Ro(K:bN):V->Option Int->Option Int->Hp->VK->Prop:=λx lo hi H Q=>XC K x lo hi H Q\/XF K x lo hi H Q
theorem sl2:SlR X (Ro X.K):=sl_list.or XS
set_option tactic.hygienic true in
theorem XR{K:bN}:M5 K (Ro K) slD:=λ{Oo c t σ H x dx r lo hi t' Q} f rx eq k=>by
 cases rx with
 |@lst p vs ds h1 h2 h3=>
   cases eq
   exact .inl ⟨p,vs,rfl,SqL.of h1,λq hq=>k _ _ c (f.laid hq) (f.stp_laid hq) (.lst AA (f.s.free hq) ((DG h3 lo hi).mono (Ext.laid f.s hq)))⟩
 |@scr p ns h1=>
   cases eq
   refine .inl ⟨p,_,rfl,h1.sq,λq hq=>k _ _ c (f.laid hq) (f.stp_laid hq) (.lst AA (f.s.free hq) ?_)⟩;rw[JG];exact Reps.ints _
 |@tup p vs ds h1 h2 h3=>
   unfold slD at eq;dsimp only at eq
   split at eq
   .cases eq
   .next hn=>
    cases eq
    exact .inr ⟨p,vs,rfl,SqT.of h1,by rw[h3.length];exact hn,λq hq=>k _ _ c (f.laid hq) (f.stp_laid hq) (.tup AA (f.s.free hq) ((DG h3 lo hi).mono (Ext.laid f.s hq)))⟩
 |_=>cases eq
theorem Zy{h:List D->M D}{f:M (List D)}(hc:Bs X (.builtin id) R)(s:DU X.K R h)(hg:Gl X x)(hm:X.mg x=none)(hv:bootBuiltins x=some (.builtin id))(ha:PA X (e::es) (RA X.K f))(hn:autoParam (x≠"__name__") q1T)(hdb:autoParam ((x==("__debug__":Str))=false) q1T)
 (he:autoParam (starEach (e::es) X.env=(false,eval e X.env)::starEach es X.env) q3T) (hpl:autoParam ((backTo pos (starEach es X.env)).any (·.1)=false) q3T):PE X (.Call (.Name x p) (e::es) [] pos) (RE X.K (fB f h)):=
 Az (HF hc hg hm hv ha hn hdb he hpl) λ_ _ _ q=>RE.callB s q
theorem Zz{h:List D->M D}{f:M (List D)}(hc:Bs X (.type id) R)(s:DU X.K R h)(hg:Gl X x)(hm:X.mg x=none)(hv:bootBuiltins x=some (.type id))(ha:PA X (e::es) (RA X.K f))(hn:autoParam (x≠"__name__") q1T)(hdb:autoParam ((x==("__debug__":Str))=false) q1T)
 (he:autoParam (starEach (e::es) X.env=(false,eval e X.env)::starEach es X.env) q3T) (hpl:autoParam ((backTo pos (starEach es X.env)).any (·.1)=false) q3T):PE X (.Call (.Name x p) (e::es) [] pos) (RE X.K (fB f h)):=
 Az (DS hc hg hm hv ha hn hdb he hpl) λ_ _ _ q=>RE.callB s q
theorem ZA{h:List D->M (List D)}{f:M (List D)}(hc:Bs X (.type id) R)(s:FE X.K R h)(hg:Gl X x)(hm:X.mg x=none)(hv:bootBuiltins x=some (.type id))(ha:PA X (e::es) (RA X.K f))(hn:autoParam (x≠"__name__") q1T)(hdb:autoParam ((x==("__debug__":Str))=false) q1T)
 (he:autoParam (starEach (e::es) X.env=(false,eval e X.env)::starEach es X.env) q3T) (hpl:autoParam ((backTo pos (starEach es X.env)).any (·.1)=false) q3T):PE X (.Call (.Name x p) (e::es) [] pos) (RF X.K (fBF f h)):=
 Az (DS hc hg hm hv ha hn hdb he hpl) λ_ _ _ q=>RF.callB s q
theorem Ym{op:Operator}{R:R2}{g:M D}{h:D->D->M (List D)}(ho:OpR X (binaryOp op) R)(s:M4 X.K R h)(ha:PE X a (RE X.K f))(hb:PE X b (RE X.K g)):PE X (.BinOp a op b pos) (RF X.K (bnd f λx=>bnd g λy=>h x y)):=
 Az (SX ho ha hb) λ_ _ _ q=>RF.two s q
end
section
variable{K:bN}
theorem Ds{xs:List V}{d:D}(r:Reps K c H xs [d]):∃v,xs=[v]/\Rep K c H v d:=by
 cases r with
 |cons r rs=>cases rs;exact⟨_,rfl,r⟩
theorem NJ{xs:List V}{d e:D}(r:Reps K c H xs [d,e]):∃v u,xs=[v,u]/\Rep K c H v d/\Rep K c H u e:=by
 cases r with
 |cons r rs=>
   clear 5(Ds rs)u rfl q;exact⟨_,u,rfl,r,q⟩
def AD:List D->M D
 |[.lst ds]=>ret (.int ds.length)
 |[.tup ds]=>ret (.int ds.length)
 |[.scr ns]=>ret (.int ns.length)
 |[.str x]=>lim x.length (.int x.length)
 |[.obj k]=>λt=>match t.S[k]? with
   |some (.lst ds)=>some (.int ds.length,t)
   |_=>none
 |_=>fail
theorem Vh:DU K (λxs H Q=>∃x n,xs=[x]/\V5 K x H n/\Q (.int n) H) AD:=λ{Oo c t σ H xs ds r t' Q} f rx eq k=>by
 match ds,rx,eq with
 |[],_,eq=>cases eq
 |d0::_::_,_,eq=>cases d0<;>cases eq
 |[d],rx,eq=>
   clear 5(Ds rx)v rfl rv
   cases rv with
   |@lst a vs ds h1 h2 h3=>cases eq;exact⟨_,ds.length,rfl,.inl ⟨vs,SqL.of h1,h3.length.symm⟩,k _ H c f .refl (.int _)⟩
   |@tup a vs ds h1 h2 h3=>cases eq;exact⟨_,ds.length,rfl,.inr ⟨vs,SqT.of h1,h3.length.symm⟩,k _ H c f .refl (.int _)⟩
   |@scr a ns h1=>cases eq;exact⟨_,ns.length,rfl,.inl ⟨_,h1.sq,by simp⟩,k _ H c f .refl (.int _)⟩
   |str x=>
     clear 5(DB eq)hl z
     cases z
     exact⟨_,x.length,rfl,⟨up6 hl BM,rfl⟩,k _ H c f .refl (.int _)⟩
   |@obj a kk h1=>
     unfold AD at eq;dsimp only at eq
     cases es:t.S[kk]? with
     |none=>rw[es] at eq;cases eq
     |some o=>
       rw[es] at eq
       cases o with
       |dct _|ins _ _|dtu _=>cases eq
       |lst ds=>
         cases eq
         clear 5(f.s.obs kk a _ h1 es)vs g1 g2;exact⟨_,ds.length,rfl,.inl ⟨vs,SqL.of g1,g2.length.symm⟩,k _ H c f .refl (.int _)⟩
   |_=>cases eq
noncomputable def tyD:D->Option String
 |.non=>some "NoneType"
 |.bl _=>some "bool"
 |.int _=>some "int"
 |.str _=>some "str"
 |.lst _=>some "list"
 |.tup _=>some "tuple"
 |.dic=>some "dict"
 |_=>none
noncomputable def Eu(n m:String):Option Bool:=match m with
 | "int"=>some (n == "int" || n == "bool")
 | "bool"=>some (n == "bool")
 | "str"=>some (n == "str")
 | "list"=>some (n == "list")
 | "tuple"=>some (n == "tuple")
 | "dict"=>some (n == "dict")
 |_=>none
def CP:List D->M D
 |[d,.ty m]=>λt=>match tyD d with
   |some n=>(Eu n m).map λb=>(.bl b,t)
   |none=>none
 |_=>fail
theorem Mq{d:D}{n m:String}{b:Bool}(h1:tyD d=some n)(h2:Eu n m=some b):PySem.W.kitOne K (.type n) (.type m)=some b:=by
 have hm:m = "int"\/m = "bool"\/m = "str"\/m = "list"\/m = "tuple"\/m = "dict":=by
  unfold Eu at h2
  split at h2<;>simp_all
 have hn:n = "NoneType"\/n = "bool"\/n = "int"\/n = "str"\/n = "list"\/n = "tuple"\/n = "dict":=by
  cases d<;>simp[tyD] at h1<;>simp[<-h1]
 rcases hm with rfl|rfl|rfl|rfl|rfl|rfl<;>rcases hn with rfl|rfl|rfl|rfl|rfl|rfl|rfl<;>(cases h2;rfl)
def Rm(K:bN):List V->Hp->VK->Prop:=λxs H Q=>∃x n t b,xs=[x,.ty n]/\TyOf K H x t/\PySem.W.kitOne K t (.type n)=some b/\Q (.bl b) H
theorem Kt:Bs X (.builtin "isinstance") (Rm X.K):=by
 intro bO s σ H xs us Q I r h;clear 5 h x n t b rfl ty e q;clear 5(Tj r)u w' rfl rx rt
 cases rt
 exact OT I rx ty e λtk=>⟨.bl b,H,I.tok tk,rfl,q⟩
set_option tactic.hygienic true in
theorem MK:DU K (Rm K) CP:=λ{Oo c t σ H xs ds r t' Q} f rx eq k=>by
 unfold CP at eq
 split at eq
 .next d m=>
  clear 5(NJ rx)v u rfl rv ru
  cases ru
  cases et:tyD d with
  |none=>rw[et] at eq;cases eq
  |some n=>
    rw[et] at eq;clear 5(uc6.mp eq)b e1 e2
    cases e2
    refine⟨v,m,.type n,b,rfl,?_,Mq et e1,k _ H c f .refl (.bl b)⟩
    cases rv<;>first|(cases et;first|exact .non|exact .bl _|exact .int _|exact .str _|exact .lst ‹_› | exact .tup ‹_› | exact .dK ‹_›)|cases et
 .cases eq
def HN:List D->M D
 |[.lst ds]=>ret (.tup ds)
 |[.tup ds]=>ret (.tup ds)
 |[.obj k]=>λt=>match t.S[k]? with
   |some (.lst ds)=>some (.tup ds,t)
   |_=>none
 |_=>fail
theorem Vq:DU K (λxs H Q=>∃p ys,xs=[.ref p]/\((SqL K H p ys/\∀l,H l=none->Q (.ref l) (upd H l (.tup ys)))\/(SqT K H p ys/\Q (.ref p) H))) HN:=λ{Oo c t σ H xs ds r t' Q} f rx eq k=>by
 match ds,rx,eq with
 |[],_,eq=>cases eq
 |d0::_::_,_,eq=>cases d0<;>cases eq
 |[d],rx,eq=>
   clear 5(Ds rx)v rfl rv
   cases rv with
   |@lst a vs ds h1 h2 h3=>cases eq;exact⟨a,vs,rfl,.inl ⟨SqL.of h1,λq hq=>k _ _ c (f.laid hq) (f.stp_laid hq) (.tup AA (f.s.free hq) (h3.mono (Ext.laid f.s hq)))⟩⟩
   |@tup a vs ds h1 h2 h3=>cases eq;exact⟨a,vs,rfl,.inr ⟨SqT.of h1,k _ H c f .refl (.tup h1 h2 h3)⟩⟩
   |@obj a kk h1=>
     unfold HN at eq;dsimp only at eq
     cases es:t.S[kk]? with
     |none=>rw[es] at eq;cases eq
     |some o=>
       rw[es] at eq
       cases o with
       |dct _|ins _ _|dtu _=>cases eq
       |lst ds=>
         cases eq
         clear 5(f.s.obs kk a _ h1 es)vs g1 g2;exact⟨a,vs,rfl,.inl ⟨SqL.of g1,λq hq=>k _ _ c (f.laid hq) (f.stp_laid hq) (.tup AA (f.s.free hq) (g2.mono (Ext.laid f.s hq)))⟩⟩
   |_=>cases eq
def Gy:List D->M (List D)
 |[.lst ds]=>ret ds
 |[.tup ds]=>ret ds
 |[.scr ns]=>ret (ns.map .int)
 |[.obj k]=>λt=>match t.S[k]? with
   |some (.lst ds)=>some (ds,t)
   |_=>none
 |_=>fail
theorem Vi:FE K (λxs H Q=>∃p ys,xs=[.ref p]/\(SqL K H p ys\/SqT K H p ys)/\∀l,H l=none->Q (.ref l) (upd H l (.lst ys))) Gy:=λ{Oo c t σ H xs ds r t' Q} f rx eq k=>by
 match ds,rx,eq with
 |[],_,eq=>cases eq
 |d0::_::_,_,eq=>cases d0<;>cases eq
 |[d],rx,eq=>
   clear 5(Ds rx)v rfl rv
   cases rv with
   |@lst a vs ds h1 h2 h3=>cases eq;exact⟨a,vs,rfl,.inl (SqL.of h1),λq hq=>k q vs H c f .refl h3 hq⟩
   |@tup a vs ds h1 h2 h3=>cases eq;exact⟨a,vs,rfl,.inr (SqT.of h1),λq hq=>k q vs H c f .refl h3 hq⟩
   |@scr a ns h1=>cases eq;exact⟨a,_,rfl,.inl h1.sq,λq hq=>k q _ H c f .refl (Reps.ints ns) hq⟩
   |@obj a kk h1=>
     unfold Gy at eq;dsimp only at eq
     cases es:t.S[kk]? with
     |none=>rw[es] at eq;cases eq
     |some o=>
       rw[es] at eq
       cases o with
       |dct _|ins _ _|dtu _=>cases eq
       |lst ds=>
         cases eq
         clear 5(f.s.obs kk a _ h1 es)vs g1 g2;exact⟨a,vs,rfl,.inl (SqL.of g1),λq hq=>k q vs H c f .refl g2 hq⟩
   |_=>cases eq
def DX:List D->M D
 |[.int i]=>ret (.int i)
 |[.bl b]=>ret (.int (if b then 1 else 0))
 |_=>fail
theorem Vf:DU K (λxs H Q=>(∃i,xs=[.int i]/\Q (.int i) H)\/∃k,xs=[.bl k]/\Q (.int (if k then 1 else 0)) H) DX:=λ{Oo c t σ H xs ds r t' Q} f rx eq k=>by
 match ds,rx,eq with
 |[],_,eq=>cases eq
 |d0::_::_,_,eq=>cases d0<;>cases eq
 |[d],rx,eq=>
   clear 5(Ds rx)v rfl rv
   cases rv with
   |int i=>cases eq;exact .inl ⟨i,rfl,k _ H c f .refl (.int _)⟩
   |bl b=>cases eq;exact .inr ⟨b,rfl,k _ H c f .refl (.int _)⟩
   |_=>cases eq
def Zu:List D->M D
 |[.int i]=>ret (.int (if i<0 then -i else i))
 |_=>fail
def FV:List D->M D
 |[.int i,.int j]=>ret (.int (if j<i then j else i))
 |_=>fail
def ZI:List D->M D
 |[.int i,.int j]=>ret (.int (if j > i then j else i))
 |_=>fail
set_option tactic.hygienic true in
theorem Vk:DU K (λxs H Q=>∃i j,xs=[.int i,.int j]/\Q (.int (if j<i then j else i)) H) FV:=λ{Oo c t σ H xs ds r t' Q} f rx eq k=>by
 unfold FV at eq
 split at eq
 .next i j=>
  clear 5(NJ rx)v u rfl rv ru
  cases rv;cases ru;cases eq
  exact⟨i,j,rfl,k _ H c f .refl (.int _)⟩
 .cases eq
end
end
open AutoSeq1 (wpAny_loadPart')
def SZ(K:bN):R2:=λx y H Q=>∃a b ys,x=.ref a/\y=.ref b/\SqT K H a []/\SqT K H b ys/\Q (.ref b) H
theorem UC{X:Cx}:OpR X (binaryOp .Add) (SZ X.K):=by
 intro bO s σ H x y v u Q I rx ry h;clear 5 h a b ys rfl rfl h1 h2 q
 cases rx
 cases ry
 obtain⟨its,r,⟨⟨cls,dd,data,sl⟩,ho,hc,n,hd⟩,z⟩:=I.tuple h1;obtain⟨its2,r2,⟨⟨cls2,dd2,data2,sl2⟩,ho2,hc2,n2,hd2⟩,z2⟩:=I.tuple h2;simp only at hc hd hc2 hd2;subst hc hd hc2 hd2
 cases r
 exact concat_meets ⟨_,ho,rfl⟩ ⟨_,ho2,rfl⟩ cY seq_tuple_add uc5 ub7 (ub4 _ _)
  (tuple_addW0 a b #[] its2.toArray n n2 dd dd2 sl sl2 rfl) ⟨ho,ho2,.ref b,H,I,rfl,q⟩
theorem HE:fillsNumberSlot (.type "tuple") "mul" = pure false:=
 PySem.fillsNumberSlot_seq (id:="tuple.__mul__") (r:=some (.builtin "tuple.__rmul__")) c7.lookup (by decide +kernel) F.slot_tuple_rmul.lookup (by decide +kernel)
theorem Ll:seqRepeat? (.type "tuple")=pure (some (.builtin "tuple.__mul__")):=by
 unfold seqRepeat?;rw[PySem.seqSlot_of (T:="tuple") (name:="__mul__") (id:="tuple.__mul__") c7.lookup (by decide +kernel),PySem.seqSlot_of (T:="tuple") (name:="__rmul__") (id:="tuple.__rmul__") F.slot_tuple_rmul.lookup (by decide +kernel)];rfl
theorem Jm(a:Int)(t:Tok)(l:bQ)(items:Array bP)(n:Nat)(dd:Option bQ)(sl:Array (Option bP)) :
 Meets (Builtin.«int.__rmul__» ⟨[.int a t,.ref l],[]⟩) (λ_ R s=>s.heap.get? l=some {cls:=.type "tuple",dict:=dd,data:=.seq items n,slots:=sl}/\R (.ok (.ret Value.notImplemented)) s):=
 .of_wp λprog w A R s h=>by clear 5 s hp g d tk os;clear 5 h hl h;wp_walk;exact⟨_,rfl,h⟩
theorem LV(l:bQ)(items:Array bP)(n:Nat)(dd:Option bQ)(sl:Array (Option bP))(x:Int)(u:Tok)(hc0:(decide (x < -(2 ^ 63))||decide (x ≥ 2 ^ 63))=false)(hc1:(items.isEmpty||x==1)=true) :
 Meets (Builtin.«tuple.__mul__» ⟨[.ref l,.int x u],[]⟩) (λ_ R s=>s.heap.get? l=some {cls:=.type "tuple",dict:=dd,data:=.seq items n,slots:=sl}/\R (.ok (.ret (Value.ref l))) s):=
 .of_wp λprog w A R s h=>by
  clear 5 s hp g d tk os;clear 5 h hl h;have f1:=c6;have f2:=cb;have f3:=cF;have f4:=cv;have f5:=cx
  wp_walk using wpAny_loadPart' hl
  refine df (λz=>absurd z (by rw[hc0];decide)) λ_=>?_
  wp_walk using wpAny_loadPart' hl
  exact⟨_,rfl,h⟩
theorem LX(l:bQ)(items:Array bP)(n:Nat)(dd:Option bQ)(sl:Array (Option bP))(x:Int)(u:Tok)(hc0:(decide (x < -(2 ^ 63))||decide (x ≥ 2 ^ 63))=false)(hc1:(items.isEmpty||x==1)=false)(hc2:(decide (x<=0)||items.isEmpty)=true) :
 Meets (Builtin.«tuple.__mul__» ⟨[.ref l,.int x u],[]⟩) (λ_ R s=>s.heap.get? l=some {cls:=.type "tuple",dict:=dd,data:=.seq items n,slots:=sl}/\R (.ok (.ret (Value.ref s.heap.objs.size))) {s with heap:=s.heap.push {cls:=Value.type "tuple",data:=Data.seq #[]},toks:=s.toks}):=
 .of_wp λprog w A R s h=>by
  clear 5 s hp g d tk os;clear 5 h hl h;have f1:=c6;have f2:=cb;have f3:=cF;have f4:=cv;have f5:=cx
  wp_walk using wpAny_loadPart' hl
  refine df (λz=>absurd z (by rw[hc0];decide)) λ_=>?_
  wp_walk using wpAny_loadPart' hl
  exact⟨_,rfl,h⟩
theorem LY(l:bQ)(items:Array bP)(n:Nat)(dd:Option bQ)(sl:Array (Option bP))(x:Int)(u:Tok)(hc0:(decide (x < -(2 ^ 63))||decide (x ≥ 2 ^ 63))=false)(hc1:(items.isEmpty||x==1)=false)(hc2:(decide (x<=0)||items.isEmpty)=false)
 (hc3:¬(items.size:Int)*x > (2 ^ 63-1)/8) (hc4:Builtin.Tuple.tupleTooMany ((items.size:Int)*x)=false) (hsz:(List.foldl (λx1 x2=>x1++x2) #[] (List.replicate x.toNat items)).size<=sizeLine) :
 Meets (Builtin.«tuple.__mul__» ⟨[.ref l,.int x u],[]⟩) (λ_ R s=>s.heap.get? l=some {cls:=.type "tuple",dict:=dd,data:=.seq items n,slots:=sl}/\R (.ok (.ret (Value.ref s.heap.objs.size))) {s with heap:=s.heap.push {cls:=Value.type "tuple",data:=Data.seq (List.foldl (λx1 x2=>x1++x2) #[] (List.replicate x.toNat items))},toks:=s.toks}):=
 .of_wp λprog w A R s h=>by
  clear 5 s hp g d tk os;clear 5 h hl h;have f1:=c6;have f2:=cb;have f3:=cF;have f4:=cv;have f5:=cx
  wp_walk using wpAny_loadPart' hl
  refine df (λz=>absurd z (by rw[hc0];decide)) λ_=>?_
  wp_walk using wpAny_loadPart' hl
  refine df (λz=>absurd z hc3) λ_=>?_
  wp_walk using wpAny_loadPart' hl
  exact⟨_,rfl,h⟩
open AutoSeq1 (wpAny_loadPart')
def Te(K:bN):R2:=λx y H Q=>∃a k xs,x=.ref a/\y=.int k/\SqT K H a xs/\-(2 ^ 62)<=k/\k<2 ^ 62/\xs.length*k.toNat<=sizeLine/\
 ((xs=[]\/k=1)->Q (.ref a) H)/\(¬(xs=[]\/k=1)->∀p,H p=none->Q (.ref p) (upd H p (.tup (List.replicate k.toNat xs).flatten)))
theorem Inv.tnew{X:Cx}{bO:List (bQ×Obj)}{σ:L2.St}{H:Hp}{s:bR}{ys:List V}{its:List bP}{t':Nat}(I:Inv X bO σ H s)(hv:Vals ys its)(hz:ys.length<=sizeLine) :
 Inv X bO σ (upd H s.heap.objs.size (.tup ys)) {s with heap:=s.heap.push {cls:=.type "tuple",data:=.seq its.toArray},toks:=t'}:=
 I.laid (λb u e=>uc4 _ e) (uq9 _) ⟨hz,its,hv,⟨_,uf8 _ rfl,rfl,_,rfl⟩⟩
theorem op_mulT{X:Cx}:OpR X (binaryOp .Mult) (Te X.K):=by
 intro bO s σ H x y v u Q I rx ry h;clear 5 h a k xs rfl rfl hq h1 h2 hz q1 q2
 cases rx
 clear 5 ry t rfl;obtain⟨its,r,⟨⟨cls,dd,data,sl⟩,ho,hc,n,hd⟩,z⟩:=I.tuple hq;simp only at hc hd;subst hc hd;have hl:=r.length;have hc0:(decide (k < -(2 ^ 63))||decide (k ≥ 2 ^ 63))=false:=by
  rw[Bool.or_eq_false_iff];exact⟨un7 ∅,un7 ∅⟩
 refine bY (T:="tuple") (U:="int") (by decide) ⟨_,ho,rfl⟩ (λs'=>dI s' k t) HE F.fills_int_mul de Ll F.slot_int_index.lookup
  (dJ de (dI s k t) F.entry_int_rmul (F.args_int_rmul_2 _ _) (Jm k t a its.toArray n dd sl) ⟨ho,rfl,⟨_,ho,rfl⟩,?_⟩)
 by_cases hs:xs=[]\/k=1
 .have hc1:(its.toArray.isEmpty||k==1)=true:=by
   rw[Bool.or_eq_true];rcases hs with z|z
   .subst z;cases r;exact .inl rfl
   .exact .inr (by simp[z])
  exact dJ c7 ⟨_,ho,rfl⟩ cV (cR _ _) (LV a its.toArray n dd sl k t hc0 hc1) ⟨ho,.ref a,H,I,rfl,q1 hs⟩
 .have hne:its≠[]:=λz=>hs (.inl (by subst z;cases r;rfl))
  have hk1:k≠1:=λz=>hs (.inr z);have hem:its.toArray.isEmpty=false:=by cases its with|nil=>exact absurd rfl hne|cons _ _=>rfl
  have hc1:(its.toArray.isEmpty||k==1)=false:=by rw[hem];simpa using hk1
  by_cases hk:k<=0
  .have hc2:(decide (k<=0)||its.toArray.isEmpty)=true:=by rw[uo3 hk];rfl
   refine dJ c7 ⟨_,ho,rfl⟩ cV (cR _ _) (LX a its.toArray n dd sl k t hc0 hc1 hc2) ⟨ho,?_⟩;have hk0:k.toNat=0:=by lia
   refine⟨.ref _,_,I.tnew (t':=s.toks) (ys:=[]) (its:=[]) .nil (ur0 _),rfl,?_⟩;have:=q2 hs _ I.fresh;rw[hk0] at this;exact this
  .have hc2:(decide (k<=0)||its.toArray.isEmpty)=false:=by rw[un7 hk,hem];rfl
   have hsz:its.length*k.toNat<=sizeLine:=by rw[<-hl];exact hz
   have hmul:((its.toArray.size:Nat):Int)*k=((its.length*k.toNat:Nat):Int):=by
    rw[uh5,Int.natCast_mul,ug1 ∅]
   have hline:(sizeLine:Nat)<=(2 ^ 63-1)/8:=by decide
   have hc3:¬(its.toArray.size:Int)*k > (2 ^ 63-1)/8:=by rw[hmul];lia
   have hc4:Builtin.Tuple.tupleTooMany ((its.toArray.size:Int)*k)=false:=by
    unfold Builtin.Tuple.tupleTooMany;rw[hmul];exact un7 ∅
   have f0:List.foldl (λx1 x2=>x1++x2) #[] (List.replicate k.toNat its.toArray)=(List.replicate k.toNat its).flatten.toArray:=by
    have:=Go its k.toNat [];rw[um8] at this;exact this
   have hfz:(List.foldl (λx1 x2=>x1++x2) #[] (List.replicate k.toNat its.toArray)).size<=sizeLine:=by
    rw[f0,uh5,Jc,uq0];exact hsz
   refine dJ c7 ⟨_,ho,rfl⟩ cV (cR _ _) (LY a its.toArray n dd sl k t hc0 hc1 hc2 hc3 hc4 hfz) ⟨ho,?_⟩;rw[f0];exact⟨.ref _,_,I.tnew (t':=s.toks) (r.rep k.toNat) (by rw[Jc,uq0];exact hz),rfl,q2 hs _ I.fresh⟩
theorem MtM.or{X:Cx}{id:String}{r r':V->List V->Hp->VK->Prop}(h:MtM X id r)(h':MtM X id r'):MtM X id (λx xs H Q=>r x xs H Q\/r' x xs H Q):=by
 intro bO s σ H x xs v us Q I rx rv q;rcases q with q|q
 .exact h bO s σ H x xs v us Q I rx rv q
 .exact h' bO s σ H x xs v us Q I rx rv q
section
variable{X:Cx}{a b c d:Expr}{ta tb tc td:TE}{pos:Pos}
end
section
variable{K:bN}
def Aw(x y:D):M D:=match x,y with
 |.tup [],.tup ys=>ret (.tup ys)
 |x,y=>Qd x y
def SY(K:bN):R2:=λx y H Q=>NG K x y H Q\/SZ K x y H Q
theorem UB{X:Cx}:OpR X (binaryOp .Add) (SY X.K):=op_add4.or UC
set_option tactic.hygienic true in
theorem RJ:Bh K (SY K) Aw:=λ{Oo c t σ H x y dx dy r t' Q} f rx ry eq k=>by
 unfold Aw at eq
 split at eq
 .next ys=>
  cases eq
  obtain⟨_,_,rfl,h1,h2,h3⟩:=rx.rv
  cases h3
  cases ry with
  |tup g1 g2 g3=>exact .inr ⟨_,_,_,rfl,rfl,SqT.of h1,SqT.of g1,k _ H c f .refl (.tup g1 g2 g3)⟩
 .exact .inl (U9 f rx ry eq k)
def HC:D->D->M D
 |.int i,.int j=>λt=>if FW i j=true then some (.int (i*j),t) else none
 |.tup xs,.int k=>λt=>if small k=true/\xs.length*k.toNat<=LIM then some (.tup (List.replicate k.toNat xs).flatten,t) else none
 |.lst xs,.int k=>λt=>if small k=true/\xs.length*k.toNat<=LIM then some (.lst (List.replicate k.toNat xs).flatten,t) else none
 |_,_=>fail
def NI(K:bN):R2:=λx y H Q=>rI CMul (λi j=>.int (i*j)) x y H Q\/(Te K x y H Q\/Rn x y H Q)
theorem op_mul3{X:Cx}:OpR X (binaryOp .Mult) (NI X.K):=op_mul.or (op_mulT.or Pf)
theorem Uu{dx dy r:D}{t t':T}(eq:HC dx dy t=some (r,t')):∃j,dy=.int j/\((∃i,dx=.int i)\/(∃ds,dx=.tup ds)\/∃ds,dx=.lst ds):=by
 unfold HC at eq
 split at eq
 .exact⟨_,rfl,.inl ⟨_,rfl⟩⟩
 .exact⟨_,rfl,.inr (.inl ⟨_,rfl⟩)⟩
 .exact⟨_,rfl,.inr (.inr ⟨_,rfl⟩)⟩
 .cases eq
set_option tactic.hygienic true in
theorem Vm:Bh K (NI K) HC:=λ{Oo c t σ H x y dx dy r t' Q} f rx ry eq k=>by
 clear 5(Uu eq)j rfl hd
 cases ry
 rcases hd with⟨i,rfl⟩|⟨ds,rfl⟩|⟨ds,rfl⟩
 .cases rx
  unfold HC at eq;dsimp only at eq
  split at eq
  .next h=>cases eq;exact .inl ⟨i,j,rfl,rfl,O6 h,k _ H c f .refl (.int _)⟩
  .cases eq
 .obtain⟨a,vs,rfl,h1,h2,h3⟩:=rx.rv
  unfold HC at eq;dsimp only at eq
  split at eq
  .next h=>
   cases eq
   clear 5(CU h.1)g1 g2;refine .inr (.inl ⟨a,j,vs,rfl,rfl,SqT.of h1,g1,g2,by rw[h3.length];exact up6 h.2 BM,λhs=>?_,λhs p hp=>?_⟩)
   .rcases hs with z|z
    .subst z;have:ds=[]:=ub8.mp h3.length.symm;subst this;have e:(List.replicate j.toNat ([]:List D)).flatten=[]:=by simp
     rw[e] at k;exact k _ H c f .refl (.tup h1 h2 h3)
    .subst z;have e:(List.replicate (1:Int).toNat ds).flatten=ds:=by simp
     rw[e] at k;exact k _ H c f .refl (.tup h1 h2 h3)
   .exact k _ _ c (f.laid hp) (f.stp_laid hp) (.tup AA (f.s.free hp) ((h3.rep j.toNat).mono (Ext.laid f.s hp)))
  .cases eq
 .obtain⟨a,vs,rfl,h1,h2,h3⟩:=rx.rv
  unfold HC at eq;dsimp only at eq
  split at eq
  .next h=>
   cases eq
   clear 5(CU h.1)g1 g2;refine .inr (.inr ⟨a,j,vs,rfl,rfl,h1,by lia,by lia,by rw[h3.length];exact up6 h.2 BM,λp hp=>?_⟩);exact k _ _ c (f.laid hp) (f.stp_laid hp) (.lst AA (f.s.free hp) ((h3.rep j.toNat).mono (Ext.laid f.s hp)))
  .cases eq
end
section
variable{K:bN}{μ:Cf->Hp->D->(V->Hp->Prop)->Prop}
section
variable{X:Cx}{e a b:Expr}{pos:Pos}
def AZ(xs:List D):List D->Option (List D)
 |[d]=>if xs.length<LIM then some (xs++[d]) else none
 |_=>none
def EW(xs:List D):List D->Option (List D)
 |[.lst ys]=>if xs.length+ys.length<=LIM then some (xs++ys) else none
 |_=>none
def ownM(i:Nat)(h:List D->List D->Option (List D))(g:M (List D)):M Out:=λt=>match t.env[i]? with
 | some (some (.own _))=>bnd g (λds t1=>match t1.env[i]? with
   |some (some (.own xs))=>(h xs ds).map λys=>(.next,{t1 with env:=t1.env.set i (some (.own ys))})
   |_=>none) t
 |_=>none
def M6(K:bN)(R:V->List V->Hp->VK->Prop)(h:List D->List D->Option (List D)):Prop:=∀{c:Cf}{S:List Ob}{H:Hp}{a:bQ}{vs us:List V}{xs ds ys:List D}{Q:VK},SInv K c S H->H a=some (.lst vs)->Reps K c H vs xs->Reps K c H us ds->h xs ds=some ys->
 (∀ws,Reps K c H ws ys->Q .non (upd H a (.lst ws)))->R (.ref a) us H Q
set_option tactic.hygienic true in
theorem MH:M6 K Mz AZ:=λ{c S H a vs us xs ds ys Q} s h r rs e k=>by
 unfold AZ at e
 split at e
 .next d=>
  split at e
  .next hl=>
   cases e
   clear 5(Ds rs)v rfl rv;exact⟨a,vs,v,rfl,rfl,h,by rw[r.length];exact ug4 hl BM,k _ (r.append (.cons rv .nil))⟩
  .cases e
 .cases e
def Tb(K:bN):V->List V->Hp->VK->Prop:=MA
theorem Ut{X:Cx}:MtM X "list.extend" (Tb X.K):=O5
set_option tactic.hygienic true
theorem Vb:M6 K (Tb K) EW:=λ{c S H a vs us xs ds ys Q} s h r rs e k=>by
 unfold EW at e
 split at e
 .split at e
  .next hl=>
   cases e
   clear 5(Ds rs)v rfl rv
   obtain⟨_,_,rfl,h1,h2,h3⟩:=rv.rv
   exact⟨a,_,vs,_,rfl,rfl,h,h1,by rw[r.length,h3.length];exact up6 hl BM,k _ (r.append h3)⟩
  .cases e
 .cases e
theorem RS.ownM{μ:Cf->Hp->D->(V->Hp->Prop)->Prop}{K:bN}{i:Nat}{h:List D->List D->Option (List D)}{g:M (List D)}{R:V->List V->Hp->VK->Prop}(s:M6 K R h){E:Ends}{σ:L2.St}{H:Hp}(q:RSg K μ (L2.ownM i h g) E σ H):Ti (tBM K "list" R (XW i) (RA K g)) E σ H:=by
 clear 5 q Oo c t fi o t' eq k;unfold L2.ownM at eq
 split at eq
 .next xs0 e0=>
  clear 5(Af eq)ds t1 e1 eq;clear 5(fi.own i xs0 e0)a vs0 h1 h2 h3 h4 h5;refine⟨.ref a,h1,.inl ⟨rfl,vs0,SqL.of h4⟩,Oo,c,t,fi,ds,t1,e1,λus H1 c1 f1 s1 rus=>?_⟩
  split at eq
  .next xs ex=>
   clear 5(uc6.mp eq)ys ey ez
   cases ez
   clear 5(f1.own i xs ex)a' vs g1 g2 g3 g4 g5;rw[h1] at g1;injection g1 with g1;injection g1 with g1;injection g1 with g1;subst g1
   refine s f1.s g4 g5 rus ey λws rws=>?_;clear 5(f1.wrOwn ex h1 rws)f2 s2;exact k σ _ c1 f2 (s1.trans s2)
  .cases eq
 .cases eq
set_option tactic.hygienic false
theorem OF(i:Nat){x:Str}{es:List Expr}{g:M (List D)}{px apos cpos:Pos}(ha:PA X (e::es) (RA X.K g))(hN:autoParam (X.N[i]?=some x) q3T)(hv:autoParam (Vis X.env.scope x) q0T)(hd:autoParam ((x==("__debug__":Str))=false) q1T)
 (hcd:autoParam ((x==("__classdict__":Str))=false) q1T)
 (hbase:autoParam (attributeBase (.Name x px) "append" X.env (eval (.Name x px) X.env)=eval (.Name x px) X.env) q3T)
 (hfew:autoParam (((backTo cpos (starEach (e::es) X.env)).all (λx=>!x.1)&&(backToKw cpos (keywordEach [] X.env)).all (λx=>x.1.isSome)&&decide ((e::es).length+([]:List Keyword).length+(if ([]:List Keyword).isEmpty then 0 else 1)<30))=true) q3T)
 (hline:autoParam ((apos.endLine==cpos.line)=true) q3T) (hs:autoParam (starEach (e::es) X.env=(false,eval e X.env)::starEach es X.env) q3T) (hplain:autoParam ((backTo cpos (starEach es X.env)).any (·.1)=false) q3T) :
 PS X (.Expr (.Call (.Attribute (.Name x px) "append" apos) (e::es) [] cpos) pos) (RSg X.K μ (ownM i AZ g)):=
 B3 (Jk (IE uc0 cj ck JN (Fl hN hv hd hcd) ha hbase hfew hline hs hplain)) λ_ _ _ q=>RS.ownM MH q
theorem OG(i:Nat){x:Str}{es:List Expr}{g:M (List D)}{px apos cpos:Pos}(ha:PA X (e::es) (RA X.K g))(hN:autoParam (X.N[i]?=some x) q3T)(hv:autoParam (Vis X.env.scope x) q0T)(hd:autoParam ((x==("__debug__":Str))=false) q1T)
 (hcd:autoParam ((x==("__classdict__":Str))=false) q1T)
 (hbase:autoParam (attributeBase (.Name x px) "extend" X.env (eval (.Name x px) X.env)=eval (.Name x px) X.env) q3T)
 (hfew:autoParam (((backTo cpos (starEach (e::es) X.env)).all (λx=>!x.1)&&(backToKw cpos (keywordEach [] X.env)).all (λx=>x.1.isSome)&&decide ((e::es).length+([]:List Keyword).length+(if ([]:List Keyword).isEmpty then 0 else 1)<30))=true) q3T)
 (hline:autoParam ((apos.endLine==cpos.line)=true) q3T) (hs:autoParam (starEach (e::es) X.env=(false,eval e X.env)::starEach es X.env) q3T) (hplain:autoParam ((backTo cpos (starEach es X.env)).any (·.1)=false) q3T) :
 PS X (.Expr (.Call (.Attribute (.Name x px) "extend" apos) (e::es) [] cpos) pos) (RSg X.K μ (ownM i EW g)):=
 B3 (Jk (IE uc0 PySem.F.slot_list_extend PySem.F.type_list_extend Ut (Fl hN hv hd hcd) ha hbase hfew hline hs hplain)) λ_ _ _ q=>RS.ownM Vb q
def objM(h:List D->List D->Option (List D))(f:M D)(g:M (List D)):M D:=bnd f λo=>match o with
 |.obj k=>λt=>match t.S[k]? with
   | some (.lst _)=>bnd g (λds t1=>match t1.S[k]? with
     |some (.lst xs)=>(h xs ds).map λys=>(.non,{t1 with S:=t1.S.set k (.lst ys)})
     |_=>none) t
   |_=>none
 |_=>fail
set_option tactic.hygienic true in
theorem RE.objM{K:bN}{h:List D->List D->Option (List D)}{f:M D}{g:M (List D)}{R:V->List V->Hp->VK->Prop}(s:M6 K R h){σ:L2.St}{H:Hp}{Q:VK}(q:RE K (L2.objM h f g) σ H Q):tBM K "list" R (RE K f) (RA K g) σ H Q:=by
 clear 5 q Oo c t fi r t' eq k;clear 5(Af eq)o t0 e0 eq;refine⟨Oo,c,t,fi,o,t0,e0,λx H0 c0 f0 s0 rx=>?_⟩
 cases rx with
 |@obj a kk hk=>
   dsimp only at eq
   split at eq
   .next xs0 ex0=>
    clear 5(Af eq)ds t1 e1 eq;clear 5(f0.s.obs kk a _ hk ex0)vs0 g0 g0';refine⟨.inl ⟨rfl,vs0,SqL.of g0⟩,Oo,c0,t0,f0,ds,t1,e1,λus H1 c1 f1 s1 rus=>?_⟩
    split at eq
    .next xs ex=>
     clear 5(uc6.mp eq)ys ey ez
     cases ez
     have hk1:=s1.ext.io _ _ hk;clear 5(f1.s.obs kk a _ hk1 ex)vs g1 g2;refine s f1.s g1 g2 rus ey λws rws=>?_;obtain⟨f2,s2⟩:=f1.wrObj (o:=.lst ys) (u:=.lst ws) hk1 λc' H' ext hu=>⟨ws,hu,rws.mono ext⟩;exact k _ _ c1 f2 ((s0.trans s1).trans s2) .non
    .cases eq
   .cases eq
 |_=>cases eq
theorem Ov{o:Expr}{es:List Expr}{f:M D}{g:M (List D)}{apos cpos:Pos}(ho:PE X o (RE X.K f))(ha:PA X (e::es) (RA X.K g))
 (hbase:autoParam (attributeBase o "append" X.env (eval o X.env)=eval o X.env) q3T)
 (hfew:autoParam (((backTo cpos (starEach (e::es) X.env)).all (λx=>!x.1)&&(backToKw cpos (keywordEach [] X.env)).all (λx=>x.1.isSome)&&decide ((e::es).length+([]:List Keyword).length+(if ([]:List Keyword).isEmpty then 0 else 1)<30))=true) q3T)
 (hline:autoParam ((apos.endLine==cpos.line)=true) q3T) (hs:autoParam (starEach (e::es) X.env=(false,eval e X.env)::starEach es X.env) q3T) (hplain:autoParam ((backTo cpos (starEach es X.env)).any (·.1)=false) q3T) :
 PE X (.Call (.Attribute o "append" apos) (e::es) [] cpos) (RE X.K (objM AZ f g)):=
 Az (IE uc0 cj ck JN ho ha hbase hfew hline hs hplain) λ_ _ _ q=>RE.objM MH q
def E7(o i d:D):M Unit:=match o,i with
 |.obj k,.int j=>λt=>match t.S[k]? with
   |some (.lst xs)=>(ixN xs.length j).map λn=>((),{t with S:=t.S.set k (.lst (xs.set n d))})
   |_=>none
 |_,_=>fail
def stD(f g:M D)(d:D):M Unit:=bnd f λo=>bnd g λi=>E7 o i d
set_option tactic.hygienic true in
theorem Wt{o i:Expr}{f g:M D}(ho:PE X o (RE X.K f))(hi:PE X i (RE X.K g))
 (ha:∀v,assign (.Subscript o i pos) X.env v=(do
   let ov <-holding [v] (eval o X.env)
   let iv <-holding [v,ov] (eval i X.env)
   standAt pos
   holding [v,ov,iv] (setItem ov iv v)
   release [v,ov,iv] []):=by intro _;rfl):PG X (.Subscript o i pos) (RG X.K (stD f g)):=
 F8 (La ho hi RZ ha) λv σ H Q z9=>by
  clear 5 z9 Oo c t d fi rv t' eq k;clear 5(Af eq)d0 t1 e1 eq;clear 5(Af eq)di t2 e2 eq;refine⟨Oo,c,t,fi,_,t1,e1,λx H1 c1 f1 s1 rx=>⟨Oo,c1,t1,f1,di,t2,e2,λy H2 c2 f2 s2 ry=>?_⟩⟩;unfold E7 at eq
  split at eq
  .cases ry with
   |int j=>
   obtain⟨a,rfl,hk⟩:=rx.rv
   split at eq
   .next xs ex=>
    clear 5(uc6.mp eq)n en ez
    cases ez
    have hk2:=s2.ext.io _ _ hk;clear 5(f2.s.obs _ a _ hk2 ex)vs g1 g2;refine⟨a,vs,_,n,rfl,rfl,g1,by rw[g2.length];exact en,?_⟩;have rv2:=rv.mono (s1.trans s2).ext;obtain⟨f3,s3⟩:=f2.wrObj (o:=.lst (xs.set n d)) (u:=.lst (vs.set n v)) hk2 λc' H' ext hu=>⟨_,hu,(Reps.set rv2 n g2).mono ext⟩;exact k σ _ c2 f3 ((s1.trans s2).trans s3)
   .cases eq
  .cases eq
end
variable{H:Hp}
section
variable{X:Cx}{e a b tg iter elt:Expr}{ifs:List Expr}{pos:Pos}{scope:Scope}{N':List Str}{n:Nat}{fr:List Nat}{f:M (List D)}{st:D->M Unit}{tst:M Bool}{el:M D}
def BL:M Bool:=ret true
theorem TY:PIf X [] (RT X.K BL):=λbO s σ H Q I z9=>by
 clear 5 z9 Oo c t fi r t' eq k;exact US bO s σ H Q I (by cases eq;exact k H c fi .refl)
theorem TZ{g:M Bool}(h:PT X e (RT X.K g)):PIf X [e] (RT X.K g):=UT h
theorem Di(O:CmpOk X scope N' (Dy n fr))(hc:X.calm=true)(hi:PI X tg iter (RI X.K f))
 (hg:∀cl C s2 H2 fp,PG (Bq X N' scope cl C s2 H2 fp) tg (RG X.K st)) (ht:∀cl C s2 H2 fp,PIf (Bq X N' scope cl C s2 H2 fp) ifs (RT X.K tst)) (he:∀cl C s2 H2 fp,PE (Bq X N' scope cl C s2 H2 fp) elt (RE X.K el))
 (hs:autoParam (∀x,foldedSetIterable iter X.env x=pure x) q2T):PE X (.ListComp elt [⟨tg,iter,ifs,0⟩] scope pos) (RF X.K (AN n fr f st tst el)):=
 Az (Jj O hc hi hg ht he hs) λ_ _ _ q=>RF.comp q
theorem RF.ofPure{f:M (List D)}{σ:L2.St}{Q:VK}(q:RE K (Al f) σ H Q):RF K f σ H Q:=by
 clear 5 q Oo c t fi r t' eq k;clear 5(Af eq)ds t1 e1 eq
 cases eq
 exact⟨Oo,c,t,fi,ds,_,e1,λp xs H1 c1 f1 s1 rxs hp=>k _ _ c1 (f1.laid hp) (s1.trans (f1.stp_laid hp)) (.lst AA (f1.s.free hp) (rxs.mono (Ext.laid f1.s hp)))⟩
theorem Jb{i:Nat}{y:Str}{py spos:Pos}(O:CmpOk X scope N' (Dy n fr))(hc:X.calm=true)(hN:X.N.Nodup)(hiN:X.N[i]?=some y)(hx:X.env.scope.names.lookup y=some .local)(hi:PI X tg iter (RI X.K f))
 (hg:∀cl C s2 H2 fp,PG (Bq X N' scope cl C s2 H2 fp) tg (RG X.K st)) (ht:∀cl C s2 H2 fp,PIf (Bq X N' scope cl C s2 H2 fp) ifs (RT X.K tst)) (he:∀cl C s2 H2 fp,PE (Bq X N' scope cl C s2 H2 fp) elt (RE X.K el))
 (hsw:autoParam (swapsWith (.ListComp elt [⟨tg,iter,ifs,0⟩] scope pos) (some (.Name y py)) spos.line X.env=pure true) q3T)
 (hs:autoParam (∀x,foldedSetIterable iter X.env x=pure x) q2T):PS X (.Assign [.Name y py] (.ListComp elt [⟨tg,iter,ifs,0⟩] scope pos) spos) (RSg X.K μ (Am i (Al (AN n fr f st tst el)))):=
 B3 (UW O hc hN hiN hx hi hg ht he hsw hs) λE σ H q=>RF.comp (RF.ofPure (RS.set q))
theorem Cd(tgs:List Str)(frn:List (Nat×Str))(hk:scope.kind=.function)(hcell:(scope.names.all λy=>y.2 != .cell)=true)(hloc:(scope.names.all λy=>y.2 != .local||scope.names.lookup y.1==some .local)=true)
 (hfree:(scope.names.all λy=>y.2 != .free||X.env.kindOf y.1==some .cell||X.env.kindOf y.1==some .free)=true)
 (hf:(frn.all λp=>X.N[p.1]?==some p.2&&scope.names.lookup p.2==some .free)=true):CmpOk X scope (tgs++frn.map (·.2)) (Dy tgs.length (frn.map (·.1))):=by
 rw[uk3] at hcell hloc hfree hf;refine⟨hk,λy hy=>by simpa using hcell y hy,λy hy hl=>?_,λy hy hl=>?_,λσ _=>by simp[Dy],λσ j x v h1 h2=>?_⟩
 .have:=hloc y hy;simpa[hl] using this
 .have:=hfree y hy;simpa[hl] using this
 .unfold Dy at h2
  by_cases hj:j<tgs.length
  .rw[ub1 (by simpa using hj),ub6] at h2
   split at h2<;>simp at h2
  .rw[ua6 (by simpa using hj),ud2,uh6,uh6] at h2;rw[ua6 (by simpa using hj),uh6] at h1
   cases e:frn[j-tgs.length]? with
   |none=>rw[e] at h1;cases h1
   |some p=>
     rw[e] at h1 h2;simp only[un2,Option.some.injEq] at h1 h2;have hp:=hf p (ue6 e);rw[uj7] at hp;refine⟨p.1,by rw[<-h1];simpa using hp.1,?_,by rw[<-h1];simpa using hp.2⟩
     cases e2:σ[p.1]? with
     |none=>rw[e2] at h2;cases h2
     |some o=>rw[e2] at h2;simpa using h2
end
mutual
noncomputable def Bg:D->Bool
 |.tup xs=>DF xs
 |.lst xs=>DF xs
 |.obj _=>false
 |.scr _=>false
 |.exc _ _=>false
 |_=>true
noncomputable def DF:List D->Bool
 |[]=>true
 |d::r=>Bg d&&DF r
end
def c0:Cf:=⟨[],λ_=>False⟩
theorem IX(a:bQ):¬c0.A a:=λh=>h.elim (λz=>nomatch z) λz=>z
mutual
theorem EE{K:bN}{c:Cf}{H:Hp}{v:V}{d:D}(r:Rep K c H v d)(p:Bg d=true):Rep K c0 H v d:=by
 cases r with
 |non=>exact .non
 |bl b=>exact .bl b
 |int i=>exact .int i
 |str x=>exact .str x
 |ty n=>exact .ty n
 |tup h n r=>exact .tup h (IX _) (G8 r (by simpa[Bg] using p))
 |lst h n r=>exact .lst h (IX _) (G8 r (by simpa[Bg] using p))
 |scr h=>simp[Bg] at p
 |dic h n=>exact .dic h (IX _)
 |obj h=>simp[Bg] at p
 |exc _ _ _ _ _=>simp[Bg] at p
theorem G8{K:bN}{c:Cf}{H:Hp}{vs:List V}{ds:List D}(r:Reps K c H vs ds)(p:DF ds=true):Reps K c0 H vs ds:=by
 cases r with
 |nil=>exact .nil
 |cons h t=>
   simp only[DF,uj7] at p;exact .cons (EE h p.1) (G8 t p.2)
end
noncomputable def BQ(S:List Ob):D->D
 |.obj k=>match S[k]? with
   |some (.lst ds)=>.lst ds
   |_=>.obj k
 |d=>d
noncomputable def QM:D->Bool
 |.obj _=>true
 |_=>false
def eqS(g:Bool->Bool)(x y:D):M D:=λt=>
 if (QM x||QM y)=true then(if (Bg (BQ t.S x)&&Bg (BQ t.S y))=true then(eqN EQD (BQ t.S x) (BQ t.S y)).map λb=>(.bl (g b),t) else none)
 else(eqN EQD x y).map λb=>(.bl (g b),t)
set_option tactic.hygienic true
theorem A3{c:Cf}{S:List Ob}{v:V}{d:D}(s:SInv K c S H)(r:Rep K c H v d)(p:Bg (BQ S d)=true):Rep K c0 H v (BQ S d):=by
 cases r with
 |@obj a k hk=>
   unfold BQ at p⊢;dsimp only at p⊢
   split
   .next ds e=>
    rw[e] at p;clear 5(s.obs k a _ hk e)vs h1 h2;exact .lst h1 (IX _) (G8 h2 (by simpa[Bg] using p))
   .next h=>
    split at p
    .next ds e=>exact absurd e (h ds)
    .simp[Bg] at p
 |non=>exact .non
 |bl b=>exact .bl b
 |int b=>exact .int b
 |str b=>exact .str b
 |ty b=>exact .ty b
 |tup h n q=>exact EE (.tup h n q) p
 |lst h n q=>exact EE (.lst h n q) p
 |scr h=>exact EE (c:=c) (.scr h) p
 |dic h n=>exact EE (.dic h n) p
 |exc a b n f q=>exact EE (.exc a b n f q) p
theorem Ha{g:Bool->Bool}:Bh K (NH K g) (eqS g):=λ{Oo c t σ H x y dx dy r t' Q} f rx ry eq k=>by
 unfold eqS at eq
 split at eq
 .split at eq
  .next hp=>
   rw[uj7] at hp;clear 5(uc6.mp eq)b e1 e2
   cases e2
   exact⟨c0,_,_,b,A3 f.s rx hp.1,A3 f.s ry hp.2,e1,k _ H c f .refl (.bl (g b))⟩
  .cases eq
 .obtain⟨b,e1,e2⟩:=uc6.mp eq
  cases e2
  exact⟨c,dx,dy,b,rx,ry,e1,k _ H c f .refl (.bl (g b))⟩
set_option tactic.hygienic false
theorem OY{a:bQ}{ns:List Int}{f:Fn}{S':List Ob}(hO:M1 H)(hS:SqL K H a (ns.map V.int))(e:f [.scr ns] []=some (.bl true,S')):spF K f [.ref a] H (λv _=>v=.bl true) λ_ _ _=>False:=by
 refine⟨c0,[.scr ns],[],⟨rfl,List.Pairwise.nil,λk a o h=>by simp[c0] at h,λb z=>z.elim,λb z=>z.elim⟩,.cons (.scr ?_) .nil,.bl true,S',e,λv H' c' _ _ _ rv=>by cases rv;rfl⟩;rcases hS with (h|h)|h
 .rcases hO a with z|⟨o,xs,z⟩
  .rw[z] at h;cases h
  .rw[z] at h;cases h
 .exact .inl ⟨h,IX _⟩
 .exact .inr h
end
section
variable{prog:bS}{w:bT}{A:Around}{E:bP->bR->Prop}{s:bR}
theorem Ii{it l:bQ}{items:Array bP}(hne:l≠it):∀(n i:Nat) (s:bR) (Q:List bP->bR->Prop),s.heap.IsListIter it l i->s.heap.IsList l items->i+n<=items.size->
 (∀h',h'.IsListIter it l (i+n)->Heap.SameBut it s.heap h'->Q ((items.toList.drop i).take n) {s with heap:=h'})->wpAny (model prog w) A (draw (.ref it) n) Q E s
 |0,i,s,Q,hit,_,_,hQ=>ur5 (by simpa using hQ s.heap hit (Heap.SameBut.refl ..))
 |n+1,i,s,Q,hit,ht,hle,hQ=>by
   have hlt:i<items.size:=by lia
   refine ur4 (wpAny_pyNext_list_item hit ht (x:=items[i]) (by simp[hlt]) λh1 hit1 hs1=>?_);refine ur4 (up3 (Ii hne n (i+1) _ _ hit1 (ht.extBut hs1.extBut hne) ∅ λh2 hit2 hs2=>ur5 ?_));have hd:items.toList.drop i=items[i]::items.toList.drop (i+1):=by simp[ub2,hlt]
   have:=hQ h2 (by rw[show i+(n+1)=i+1+n by lia];exact hit2) (hs1.trans hs2);rw[hd,List.take_succ_cons] at this;exact this
theorem LI{l:bQ}{items:Array bP}{targets:List (Bool×(bP->Sem Unit))}{Q:Unit->bR->Prop}(hh:A.handled=none)(ht:s.heap.IsList l items)(hn:targets.length=items.size)(hstar:targets.findIdx? (·.1)=none)
 (h:∀h',Heap.ExtBut s.heap.objs.size s.heap h'->wpAny (model prog w) A (assignInOrder (targets.map (·.2)) items.toList) Q E {s with heap:=h'}):wpAny (model prog w) A (unpack (.ref l) targets) Q E s:=by
 have hlt:l≠s.heap.objs.size:=by obtain⟨o,ho,_⟩:=ht;exact up5 (up4 ho)
 unfold unpack;rw[hn,hstar];refine ur4 (up3 ?_);unfold unpackItems;refine ur4 ?_;unfold notIterableAtAll;refine ur4 (wpAny_specialOf ht.typeIs PySem.F.slot_list_iter.lookup ?_);refine ur5 ?_;simp only[ug8,dR];refine ur4 (up3 (cW ht ?_));have hp:Heap.IsList (s.heap.push {cls:=.type "list_iterator",data:=.fields #[.ref l,.int 0 0]}) l items:=by
  clear 5 ht o ho r;exact⟨o,uc4 _ ho,r⟩
 refine ur4 (up3 (Ii hlt items.size 0 _ _ ⟨_,uf8 _ rfl,rfl,rfl⟩ hp ∅ λh1 hit1 hs1=>?_));have hall:List.take items.size (List.drop 0 items.toList)=items.toList:=by
  rw[uo0];exact uc7 (by simp)
 rw[hall];rw[eC (by simp)];have ht1:Heap.IsList h1 l items:=hp.extBut hs1.extBut hlt;refine ur4 (up3 (wpAny_pyNext_list_end hh hit1 ht1 (by simp) λh2 he2=>?_));simp only[Option.isSome_none,ug8,dR];exact ur5 (h h2 λb o hb e=>he2 b o hb (hs1.extBut b o hb (uc4 _ e)))
end
section
variable{X:Cx}{pos:Pos}
def gUn(K:bN)(n:Nat)(t:TGs):TG:=λv σ H Q=>∃a xs,v=.ref a/\(SqT K H a xs\/SqL K H a xs)/\xs.length=n/\t xs σ H Q
theorem YB{es:List Expr}{k:Nat}{t:TGs}{n:Nat}(hc:X.calm=true)(h:PGs X es t)
 (hn:autoParam ((assignEach es X.env).length=n) q3T) (hst:autoParam ((assignEach es X.env).findIdx? (·.1)=none) q3T):PG X (.Tuple es k pos) (gUn X.K n t):=by
 intro bO s σ H v u Q I r hw;obtain⟨a,xs,e1,hq|hq,hl,hw⟩:=hw
 .exact Xk hc h hn hst bO s σ H v u Q I r ⟨a,xs,e1,hq,hl,hw⟩
 .subst e1
  cases r
  clear 5(I.list hq)its rv ht hz;rw[assign_Tuple];refine ur4 (dr (LI (I.ok.hd hc) ht.isList (by simp[hn,<-hl,rv.length]) hst λh' hx=>?_));have I1:Inv X bO σ H {s with heap:=h'}:=I.kept (t':=s.toks) λb o e=>hx b o (up5 (up4 e)) e;exact h bO _ σ H xs _ Q I1 (by simpa using rv) hw
end
section
open HT
variable{prog:bS}{w:bT}{A:Around}{E:bP->bR->Prop}{s:bR}
theorem F7{t sl:bQ}{items:Array bP}{vl vu:bP}{lo hi:Option Int}{Q:bP->bR->Prop}(ht:IsTup s.heap t items)(hs:s.heap.IsSliceOf sl vl vu .none)(pl:IsPart vl lo)(pu:IsPart vu hi)
 (hw:sIx items.size 0 lo=0/\sIx items.size items.size hi=items.size) (h:Q (.ref t) s):wpAny (model prog w) A (getItem (.ref t) (.ref sl)) Q E s:=by
 clear 5(id hs)os hos hcs hds;have hTs:s.TypeIs (.ref sl) "slice":=⟨os,hos,hcs⟩;unfold getItem
 try with_reducible refine up3 ?_
 first|refine ur4 (ur5 ?_)|skip
 refine ur4 (wpAny_sequenceKey ht.typeIs (by decide) ?_);refine ur4 (wpAny_callSpecial?_slot (name:=Str.ofString "__getitem__") ht.typeIs ua0
  (cZ ua0 ht.typeIs entry_tuple_getitem ?_ (args_tuple_getitem _ _)))
 show wpAny _ _ (Builtin.Tuple.tupleItemsOf (.ref t) >>= _) _ _ s;refine ur4 (tupleItemsOf_ ht ?_);refine ur4 (wpAny_typeOf hTs ?_);rw[eB (by decide)];refine ur4 (EG hs pl pu ?_);have hyes:(((sIx items.size 0 lo:Nat):Int)==0&&(1:Int)==1&&(sIx items.size items.size hi-sIx items.size 0 lo)==items.size)=true:=by
  rw[hw.1,hw.2];simp
 show wpAny _ _ (if (((sIx items.size 0 lo:Nat):Int)==0&&(1:Int)==1&&(sIx items.size items.size hi-sIx items.size 0 lo)==items.size)=true then _ else _) _ _ s;rw[eB hyes];refine ur4 (m:=Builtin.Tuple.tupleIsExact _) ?_;unfold Builtin.Tuple.tupleIsExact;refine ur4 (wpAny_typeOf ht.typeIs (ur5 ?_));rw[eB (by decide)]
 first
  |exact ur4 (dL (ur5 ⟨_,rfl,ur5 h⟩))
  |exact ur4 (dL (ur4 (ur5 (ur5 ⟨_,rfl,ur5 h⟩))))
end
section
variable{X:Cx}
def XG(K:bN):V->Option Int->Option Int->Hp->VK->Prop:=λx lo hi H Q=>∃a xs,x=.ref a/\SqT K H a xs/\(HT.sIx xs.length 0 lo=0/\HT.sIx xs.length xs.length hi=xs.length)/\Q (.ref a) H
theorem Vu:SlR X (XG X.K):=by
 intro bO s σ H x v vl vu lo hi sl Q I rx hs pl pu h;clear 5 h a xs rfl hx hw q
 cases rx
 clear 5(I.tuple hx)its r ht hz;have hlen:its.toArray.size=xs.length:=by rw[uh5];exact r.length.symm
 exact⟨"tuple",_,ua0.lookup,ht.typeIs,F7 ht hs pl pu (by rw[hlen];exact hw) ⟨.ref a,H,I,rfl,q⟩⟩
end
noncomputable def Its(z:Str):It:=⟨λi _=>i<z.cps.size,λi H x H'=>H'=H/\∃c,z.cps[i]?=some c/\x=.str ⟨#[c]⟩,λi _=>i=z.cps.size⟩
theorem LH{P:bS}{w:bT}{K:bN}{tg:Expr}{T:String}{x:Str}{t:Tok}(it:bQ)(hT:["enumerate", "zip", "dict_itemiterator", "dict_reverseitemiterator", "odict_iterator", "itertools.zip_longest", "itertools.pairwise"].contains T=false)
 (W:∀A:Around,A.handled=none->Walks P w A it [it] [it] x.cps.size (SignAt x) (λi h=>h.IsStrIter it T x t i))
 (self:∀(A:Around) (i:Nat) (s:bR) (Q:bP->bR->Prop) (E:bP->bR->Prop),s.heap.IsStrIter it T x t i->Q (.ref it) s->wpAny (model P w) A (pyIter (.ref it)) Q E s) :
 Turn P w K tg (Its x) [it] it (λi h=>h.IsStrIter it T x t i) where
 mem:=by simp
 obj:=λi h st b hb=>by
  have e:b=it:=by simpa using hb
  subst e;clear 5 st o e c d;exact⟨o,e,λv z=>by rw[d] at z;cases z⟩
 keep:=λi h h' st k=>by
  clear 5 st o e r;exact⟨o,k it (by simp) o e,r⟩
 item:=by
  intro X hP hw hK hc i bO s σ H E I hf st hg;subst hP hw hK;clear 5(hf it (by simp))f0 f1 f2 f3 f4 f5;refine(W X.A (I.ok.hd hc)).item i s _ _ hg st λv h' tk hv st' kk=>?_;clear 5 hv c u hcc rfl;have I1:Inv X bO σ H {s with heap:=h',toks:=tk}:=I.turned (λb o hb e=>kk b o (by simpa using hb) e) f0 f1 f3 f4 f5;clear 5(id st')o e ec ed;exact⟨_,rfl,J8 (s:={s with heap:=h',toks:=tk}) e ec ed hT ⟨.str ⟨#[c]⟩,H,I1,⟨u,rfl⟩,⟨rfl,c,hcc,rfl⟩,st',λb hb=>(hf b hb).1⟩⟩
 done:=by
  intro X hP hw hK hc i bO s σ H E I hf st hg;subst hP hw hK;clear 5(hf it (by simp))f0 f1 f2 f3 f4 f5;have hg':i=x.cps.size:=hg;subst hg';exact(W X.A (I.ok.hd hc)).done s _ _ st λh' tk kk=>⟨rfl,I.turned (λb o hb e=>kk b o (by simpa using hb) e) f0 f1 f3 f4 f5⟩
 self:=λA i s Q E st h=>self A i s Q E st h
section
variable{X:Cx}{tg:Expr}{pos:Pos}
def ZE(K:bN)(tl:TE):TI:=λσ H R=>tl σ H λx H1=>(∃a,x=.ref a/\(∃xs,SqL K H1 a xs)/\R (Itl K a) H1)\/(∃a,x=.ref a/\(∃xs,SqT K H1 a xs)/\R (Itt K a) H1)\/∃z,x=.str z/\R (Its z) H1
theorem Lb{l:Expr}{tl:TE}(hl:PE X l tl):PI X tg l (ZE X.K tl):=by
 intro bO s σ H R I h;refine thn (hl bO s σ H _ I h) λv s1 z9=>?_;clear 5 z9 x H1 I1 r1 q1;have fp:∀b∈[s1.heap.objs.size],FpOk X bO H1 b:=λb hb=>by
  have e:b=s1.heap.objs.size:=by simpa using hb
  subst e;exact I1.fpOk (uq9 _) (I1.hok.fresh (uq9 _))
 rcases q1 with⟨a,rfl,⟨xs,hq⟩,q⟩|⟨a,rfl,⟨xs,hq⟩,q⟩|⟨z,rfl,q⟩
 .cases r1
  clear 5(I1.list hq)its rv p hz;refine cW p.isList ?_;exact⟨s1.heap.objs.size,[s1.heap.objs.size],_,_,H1,rfl,I1.kept (t':=s1.toks) λb o e=>uc4 _ e,P0 a _,⟨_,uf8 _ rfl,rfl,rfl⟩,fp,q⟩
 .cases r1
  clear 5(I1.tuple hq)its rv p hz;refine wpAny_pyIter_tuple (show s1.heap.IsTuple a its.toArray from p) ?_;exact⟨s1.heap.objs.size,[s1.heap.objs.size],_,_,H1,rfl,I1.kept (t':=s1.toks) λb o e=>uc4 _ e,NS a _,⟨_,uf8 _ rfl,rfl,rfl⟩,fp,q⟩
 .obtain⟨t,rfl⟩:=r1
  cases ha:z.cps.all (· < 128)
  .refine wpAny_pyIter_wide ha ?_;exact⟨s1.heap.objs.size,[s1.heap.objs.size],_,_,H1,rfl,I1.kept (t':=s1.toks) λb o e=>uc4 _ e,LH (T:="str_iterator") (x:=z) (t:=t) _ (by decide) (λA hA=>Walks.strWide hA _ z t) (λ_ _ _ _ _ st h=>wpAny_pyIter_striter_wide st h),⟨_,uf8 _ rfl,rfl,rfl⟩,fp,q⟩
  .refine wpAny_pyIter_ascii ha ?_;exact⟨s1.heap.objs.size,[s1.heap.objs.size],_,_,H1,rfl,I1.kept (t':=s1.toks) λb o e=>uc4 _ e,LH (T:="str_ascii_iterator") (x:=z) (t:=t) _ (by decide) (λA hA=>Walks.strAscii hA _ z t) (λ_ _ _ _ _ st h=>wpAny_pyIter_striter_ascii st h),⟨_,uf8 _ rfl,rfl,rfl⟩,fp,q⟩
def Td:R2:=λx y H Q=>∃z k,x=.str z/\y=.int k/\MulOk z k/\Q (.str (Txt.mul z k)) H
theorem UG:OpR X (binaryOp .Mult) Td:=by
 intro bO s σ H x y v u Q I rx ry h;clear 5 h z k rfl rfl hk q;clear 5 rx t rfl;clear 5 ry t' rfl;exact SB.mul hk λt2 tk=>⟨.str _,H,I.tok tk,⟨t2,rfl⟩,q⟩
def XD:V->Option Int->Option Int->Hp->VK->Prop:=λx lo hi H Q=>∃z,x=.str z/\z.length<=sizeLine/\Q (.str (Txt.slice z lo hi)) H
theorem sl_str:SlR X XD:=by
 intro bO s σ H x v vl vu lo hi sl Q I rx hs pl pu h;clear 5 h z rfl hz q;clear 5 rx t rfl;refine⟨"str",_,PySem.F.slot_str_getitem.lookup,typeIs_str _ _ _,?_⟩;have part:∀{v:bP}{o:Option Int},IsPart v o->∃l:Option (Int×Tok),v=partValue l/\l.map (·.1)=o:=λ{v o} p=>by
  cases p with
  |none=>exact⟨none,rfl,rfl⟩
  |int i t=>exact⟨some (i,t),rfl,rfl⟩
 clear 5(part pl)l rfl el;clear 5(part pu)u rfl eu;refine wpAny_getItem_str_slice (l:=l) (u:=u) (st:=none) (by clear 5 hs o h1 h2 h3;exact⟨o,h1,h2,h3⟩) rfl ?_;unfold sliceMade slicePicked;rw[el,eu];show(if ((1:Int)==1&&(Builtin.Str.strSliceIndices lo hi 1 z.length).length==z.length)=true then Made.val (.str z t) else Made.str ⟨((Builtin.Str.strSliceIndices lo hi 1 z.length).filterMap (z.cps[·]?)).toArray⟩).post _ s;have hle:=Txt.slice_le z lo hi;unfold Txt.slice at q hle
 by_cases hc:((1:Int)==1&&(Builtin.Str.strSliceIndices lo hi 1 z.length).length==z.length)=true
 .rw[eB hc] at q⊢;exact⟨.str z,H,I,⟨t,rfl⟩,q⟩
 .rw[eC hc] at q hle⊢;exact⟨up6 hle hz,.str _,H,I.tok _,⟨_,rfl⟩,q⟩
def FZ(g:Int->Int->Bool)(h:List Nat->List Nat->Bool):R2:=λx y H Q=>(∃i j,x=.int i/\y=.int j/\Q (.bl (g i j)) H)\/∃i j,x=.str i/\y=.str j/\Q (.bl (h i.cps.toList j.cps.toList)) H
theorem W0:OpR X (compareOp .Lt) (FZ (λi j=>decide (i<j)) λi j=>decide (i<j)):=op_lt.or λbO s σ H x y v u Q I rx ry h=>by
 clear 5 h i j rfl rfl q;clear 5 rx t rfl;clear 5 ry t' rfl;exact P.lt_str ⟨.bl _,H,I,rfl,q⟩
theorem WZ:OpR X (compareOp .LtE) (FZ (λi j=>decide (i<=j)) λi j=>!(decide (j<i))):=op_le.or λbO s σ H x y v u Q I rx ry h=>by
 clear 5 h i j rfl rfl q;clear 5 rx t rfl;clear 5 ry t' rfl;exact P.le_str ⟨.bl _,H,I,rfl,q⟩
theorem Pc:OpR X (compareOp .Gt) (FZ (λi j=>decide (j<i)) λi j=>decide (j<i)):=op_gt.or λbO s σ H x y v u Q I rx ry h=>by
 clear 5 h i j rfl rfl q;clear 5 rx t rfl;clear 5 ry t' rfl;exact P.gt_str ⟨.bl _,H,I,rfl,q⟩
theorem WX:OpR X (compareOp .GtE) (FZ (λi j=>decide (j<=i)) λi j=>!(decide (i<j))):=op_ge.or λbO s σ H x y v u Q I rx ry h=>by
 clear 5 h i j rfl rfl q;clear 5 rx t rfl;clear 5 ry t' rfl;exact P.ge_str ⟨.bl _,H,I,rfl,q⟩
end
def Db:D->M (List D)
 |.lst ds=>ret ds
 |.scr ns=>ret (ns.map .int)
 |.tup ds=>ret ds
 |.str x=>ret (x.cps.toList.map λc=>.str ⟨#[c]⟩)
 |_=>fail
def BH(f:M D):M (List D):=bnd f Db
def Ct:D->D->M D
 |.str x,.int k=>λt=>if small k=true/\x.length*k.toNat<=LIM/\k<=LIM/\x.length<=LIM then some (.str (Txt.mul x k),t) else none
 |x,y=>HC x y
def BK:D->Option Int->Option Int->M D
 |.str x,lo,hi=>lim x.length (.str (Txt.slice x lo hi))
 |.tup ds,lo,hi=>ret (.tup (AK ds lo hi))
 |x,lo,hi=>slD x lo hi
def Kx(g:Int->Int->Bool)(h:List Nat->List Nat->Bool):D->D->M D
 |.int i,.int j=>ret (.bl (g i j))
 |.str x,.str y=>ret (.bl (h x.cps.toList y.cps.toList))
 |_,_=>fail
def ltA:=Kx (λi j=>decide (i<j)) (λi j=>decide (i<j))
def leA:=Kx (λi j=>decide (i<=j)) (λi j=>!(decide (j<i)))
def gtA:=Kx (λi j=>decide (j<i)) (λi j=>decide (j<i))
def geA:=Kx (λi j=>decide (j<=i)) (λi j=>!(decide (i<j)))
def unS(n:Nat)(g:List D->M Unit):D->M Unit
 |.tup ds=>if ds.length=n then g ds else fail
 |.lst ds=>if ds.length=n then g ds else fail
 |_=>fail
def Zx:M D:=fC .dic
section
variable{K:bN}{n:Nat}{g:List D->M Unit}{es:List Expr}
section
variable{X:Cx}{e a b:Expr}{pos:Pos}{st:Stmt}
theorem ItOk.str{K:bN}{c:Cf}{H:Hp}{x:Str}:ItOk K (Its x) c H (x.cps.toList.map λc=>.str ⟨#[c]⟩):=by
 refine⟨λc' H' i ex hi=>?_,λc' H' i y H'' d ex hd hy=>?_,λc' H' ex=>?_⟩
 .show i<x.cps.size;simpa using hi
 .clear 5 hy rfl n hn rfl;refine⟨rfl,?_⟩;have:d=.str ⟨#[n]⟩:=by
   rw[uh6] at hd;have hn':x.cps.toList[i]?=some n:=by simpa using hn
   rw[hn'] at hd;simpa using hd.symm
  rw[this];exact .str _
 .show _=x.cps.size;simp
theorem Wu{tg:Expr}{f:M D}(h:PE X e (RE X.K f)):PI X tg e (RI X.K (BH f)):=
 HW (Lb h) λσ H R z9=>by
  clear 5 z9 Oo c t fi ds t' eq k;clear 5(Af eq)d t1 e1 eq;refine⟨Oo,c,t,fi,d,t1,e1,λv H1 c1 f1 s1 rv=>?_⟩
  cases rv with
  |@lst p vs ds' h1 h2 h3=>
    cases eq
    exact .inl ⟨p,rfl,⟨vs,SqL.of h1⟩,k _ H1 c1 f1 s1 (ItOk.lst λc' H' ex=>⟨vs,SqL.of (ex.keep _ _ h1 h2),h3.mono ex⟩)⟩
  |@scr p ns h1=>
    cases eq
    exact .inl ⟨p,rfl,⟨_,h1.sq⟩,k _ H1 c1 f1 s1 (ItOk.lst λc' H' ex=>⟨_,(h1.mono ex).sq,Reps.ints ns⟩)⟩
  |@tup p vs ds' h1 h2 h3=>
    cases eq
    exact .inr (.inl ⟨p,rfl,⟨vs,SqT.of h1⟩,k _ H1 c1 f1 s1 (ItOk.tup λc' H' ex=>⟨vs,SqT.of (ex.keep _ _ h1 h2),h3.mono ex⟩)⟩)
  |str x=>
    cases eq
    exact .inr (.inr ⟨x,rfl,k _ H1 c1 f1 s1 ItOk.str⟩)
  |_=>cases eq
theorem RG.un{v:V}{σ:L2.St}{H:Hp}{Q:L2.St->Hp->Prop}(q:RG K (unS n g) v σ H Q):gUn K n (RGs K g) v σ H Q:=by
 clear 5 q Oo c t d fi rv t' eq k
 cases rv with
 |@tup a vs ds h1 h2 h3=>
   unfold unS at eq
   by_cases hn:ds.length=n
   .dsimp only at eq;rw[eB hn] at eq;exact⟨a,vs,rfl,.inl (SqT.of h1),by rw[h3.length];exact hn,Oo,c,t,ds,fi,h3,t',eq,k⟩
   .dsimp only at eq;rw[eC hn] at eq;cases eq
 |@lst a vs ds h1 h2 h3=>
   unfold unS at eq
   by_cases hn:ds.length=n
   .dsimp only at eq;rw[eB hn] at eq;exact⟨a,vs,rfl,.inr (SqL.of h1),by rw[h3.length];exact hn,Oo,c,t,ds,fi,h3,t',eq,k⟩
   .dsimp only at eq;rw[eC hn] at eq;cases eq
 |_=>cases eq
theorem Yn{k:Nat}(hc:X.calm=true)(h:PGs X es (RGs X.K g))(hn:autoParam ((assignEach es X.env).length=n) q3T)(hst:autoParam ((assignEach es X.env).findIdx? (·.1)=none) q3T):PG X (.Tuple es k pos) (RG X.K (unS n g)):=
 F8 (YB hc h hn hst) λ_ _ _ _ q=>RG.un q
theorem QH{f:D->M Unit}(h1:PG X e (RG X.K f))(h2:PGs X es (RGs X.K g))(hs:autoParam ((assignEach (e::es) X.env).map (·.2)=assign e X.env::(assignEach es X.env).map (·.2)) q3T):PGs X (e::es) (RGs X.K (Ak f g)):=
 L6 (Rf h1 h2 hs) λ_ _ _ _ q=>RGs.cons q
end
variable{x:Str}
section
variable{K:bN}
def Tc(K:bN):R2:=λx y H Q=>NI K x y H Q\/Td x y H Q
theorem UF{X:Cx}:OpR X (binaryOp .Mult) (Tc X.K):=op_mul3.or UG
theorem LR{k:Int}(h:small k=true/\x.length*k.toNat<=LIM/\k<=LIM/\x.length<=LIM):MulOk x k:=by
 clear 5(CU h.1)g1 g2;have hL:LIM=100000:=rfl;refine⟨?_,λh1 _=>?_,λh1 _=>?_⟩
 .rw[Bool.or_eq_false_iff];exact⟨un7 ∅,un7 ∅⟩
 .have h2:k<=100000:=by have:=h.2.2.1;rw[hL] at this;exact this
  have h3:x.length<=100000:=by have:=h.2.2.2;rw[hL] at this;exact this
  have h4:(92233720368547:Int)<=(2 ^ 63-1)/k:=by
   rw[Int.le_ediv_iff_mul_le ∅];lia
  lia
 .have h5:=h.2.1;rw[hL] at h5;unfold Builtin.Str.tooLong
  first|exact un7 (by unfold sizeLine;lia)|(unfold sizeLine;exact un7 ∅)
set_option tactic.hygienic true in
theorem RN:Bh K (Tc K) Ct:=λ{Oo c t σ H x y dx dy r t' Q} f rx ry eq k=>by
 unfold Ct at eq
 split at eq
 .next z kk=>
  split at eq
  .next h=>
   cases eq
   cases rx
   cases ry
   exact .inr ⟨z,kk,rfl,rfl,LR h,k _ H c f .refl (.str _)⟩
  .cases eq
 .exact .inl (Vm f rx ry eq k)
def Rp(K:bN):V->Option Int->Option Int->Hp->VK->Prop:=λx lo hi H Q=>Ro K x lo hi H Q\/(XD x lo hi H Q\/XG K x lo hi H Q)
theorem sl3{X:Cx}:SlR X (Rp X.K):=sl2.or (sl_str.or Vu)
theorem Nh{α:Type}{xs:List α}{lo hi:Option Int}(h:HT.sIx xs.length 0 lo=0/\HT.sIx xs.length xs.length hi=xs.length):AK xs lo hi=xs:=by
 unfold AK;rw[h.1,h.2];simp
set_option tactic.hygienic true in
theorem ML:M5 K (Rp K) BK:=λ{Oo c t σ H x dx r lo hi t' Q} f rx eq k=>by
 unfold BK at eq
 split at eq
 .next z=>
  clear 5(DB eq)h e
  cases e
  cases rx
  exact .inr (.inl ⟨z,rfl,up6 h BM,k _ H c f .refl (.str _)⟩)
 .next ds=>
  cases eq
  obtain⟨p,vs,rfl,h1,h2,h3⟩:=rx.rv
  by_cases hw:HT.sIx ds.length 0 lo=0/\HT.sIx ds.length ds.length hi=ds.length
  .rw[Nh hw] at k;exact .inr (.inr ⟨p,vs,rfl,SqT.of h1,by rw[h3.length];exact hw,k _ H c f .refl (.tup h1 h2 h3)⟩)
  .exact .inl (.inr ⟨p,vs,rfl,SqT.of h1,by rw[h3.length];exact hw,λq hq=>k _ _ c (f.laid hq) (f.stp_laid hq) (.tup AA (f.s.free hq) ((DG h3 lo hi).mono (Ext.laid f.s hq)))⟩)
 .exact .inl (XR f rx eq k)
theorem G9{g:Int->Int->Bool}{h:List Nat->List Nat->Bool}:Bh K (FZ g h) (Kx g h):=λ{Oo c t σ H x y dx dy r t' Q} f rx ry eq k=>by
 cases rx with
 |int i=>cases ry with
   |int j=>cases eq;exact .inl ⟨i,j,rfl,rfl,k _ H c f .refl (.bl _)⟩
   |_=>cases eq
 |str i=>cases ry with
   |str j=>cases eq;exact .inr ⟨i,j,rfl,rfl,k _ H c f .refl (.bl _)⟩
   |_=>cases eq
 |_=>cases eq
theorem Vj:Bh K (FZ (λi j=>decide (i<j)) λi j=>decide (i<j)) ltA:=G9
theorem Vg:Bh K (FZ (λi j=>decide (i<=j)) λi j=>!(decide (j<i))) leA:=G9
theorem MJ:Bh K (FZ (λi j=>decide (j<i)) λi j=>decide (j<i)) gtA:=G9
theorem Vc:Bh K (FZ (λi j=>decide (j<=i)) λi j=>!(decide (i<j))) geA:=G9
end
variable{fa:bQ}{fd:bU}
theorem Ww{P:bS}{w:bT}{mg:Str->Option bP}{base:Heap}{qual:Str}{st:Stmt}{N ps:List Str}{k m:Nat}{g:M Out}(e1:ps.length=n)(e2:N.length=m)(F:Fun K x qual st fa fd)(S:FnScope N ps (AO st))
 (hb:∀(cdv:bP) (A:Around) (outer:List Env) (s:bR) (H:Hp) (E:XK),Room k (A.deeper (PyProof.Rows.envOfC qual (AO st) s.heap.objs.size fa cdv))->
   PSs (FN CX0 P w K mg base N qual (AO st) fa cdv A outer s H E).nox (CY st) (RS K g)):FnOk P w K mg base CX0 (k+1) fa fd ps (spF K (fnOf n m g)):=by
 subst e1 e2;exact Yp F S hb
theorem XI{P:bS}{w:bT}{mg:Str->Option bP}{base:Heap}{ps:List Str}{k:Nat}{f g:Fn}(e:f=g)(h:FnOk P w K mg base CX0 k fa fd ps (spF K g)):FnOk P w K mg base CX0 k fa fd ps (spF K f):=by rw[e];exact h
theorem Oe:bootBuiltins "len" = some (.builtin "len"):=by decide +kernel
theorem F4:bootBuiltins "isinstance" = some (.builtin "isinstance"):=by decide +kernel
theorem Wb:bootBuiltins "min" = some (.builtin "min"):=by decide +kernel
theorem JD:bootBuiltins "sorted" = some (.builtin "sorted"):=by decide +kernel
theorem Od:bootBuiltins "int" = some (.type "int"):=by decide +kernel
theorem Tz:bootBuiltins "bool" = some (.type "bool"):=by decide +kernel
theorem Mc:bootBuiltins "list" = some (.type "list"):=by decide +kernel
theorem Ko:bootBuiltins "tuple" = some (.type "tuple"):=by decide +kernel
noncomputable def Bn:Expr->Bool
 |.Starred _ _=>true
 |_=>false
theorem A6{e:Expr}{env:Env}(h:Bn e=false):starEach (e::es) env=(false,eval e env)::starEach es env:=by
 cases e<;>first|rfl|cases h
def Bi(es:List Expr):Bool:=es.all λe=>!Bn e
theorem AX:∀{es:List Expr}{env:Env}{p:Pos},Bi es=true->(backTo p (starEach es env)).any (·.1)=false/\(backTo p (starEach es env)).all (λx=>!x.1)=true
 |[],env,p,_=>⟨rfl,rfl⟩
 |e::es,env,p,h=>by
   have h':Bn e=false/\Bi es=true:=by
    rw[Bi,uo7,uj7] at h;exact⟨by simpa using h.1,h.2⟩
   clear 5(AX (es:=es) (env:=env) (p:=p) h'.2)h1 h2;rw[A6 h'.1];refine⟨?_,?_⟩
   .show(false||(backTo p (starEach es env)).any (·.1))=false;rw[h1];rfl
   .show(!false&&(backTo p (starEach es env)).all (λx=>!x.1))=true;rw[h2];rfl
variable{f:M (List D)}{p:Pos}{id:String}{R:List V->Hp->VK->Prop}
section
variable{X:Cx}{e a b:Expr}{es:List Expr}{pos:Pos}
theorem Qw{f:M D}{g:M (List D)}(ha:PE X e (RE X.K f))(hr:PA X es (RA X.K g))(hs:autoParam (Bn e=false) q3T):PA X (e::es) (RA X.K (Aa f g)):=TL ha hr (A6 hs)
theorem Qx{k:Nat}{ps:List Str}{g:Fn}(F:FnOk X.prog X.w X.K X.mg X.base CX0 k fa fd ps (spF X.K g))(hr:Room k X.A)(hg:Gl X x)(hm:X.mg x=some (.ref fa))(hk:PySem.W.keepIn X.K (.ref fa)=true)(hb:Binds X.K fd ps [])
 (ha:PA X (e::es) (RA X.K f)) (hdb:autoParam ((x==("__debug__":Str))=false) q1T) (h1:autoParam (Bn e=false) q3T) (h2:autoParam (Bi es=true) q3T) :
 PE X (.Call (.Name x p) (e::es) [] pos) (RE X.K (Ag g f)):=TM F hr hg hm hk hb ha hdb (A6 h1) (AX h2).1
theorem Ik{h:List D->M D}(hc:Bs X (.builtin id) R)(s:DU X.K R h)(hg:Gl X x)(hm:X.mg x=none)(hv:bootBuiltins x=some (.builtin id))(ha:PA X (e::es) (RA X.K f))(hn:autoParam (x≠"__name__") q1T)(hdb:autoParam ((x==("__debug__":Str))=false) q1T)
 (h1:autoParam (Bn e=false) q3T) (h2:autoParam (Bi es=true) q3T):PE X (.Call (.Name x p) (e::es) [] pos) (RE X.K (fB f h)):=Zy hc s hg hm hv ha hn hdb (A6 h1) (AX h2).1
theorem SK{h:List D->M D}(hc:Bs X (.type id) R)(s:DU X.K R h)(hg:Gl X x)(hm:X.mg x=none)(hv:bootBuiltins x=some (.type id))(ha:PA X (e::es) (RA X.K f))(hn:autoParam (x≠"__name__") q1T)(hdb:autoParam ((x==("__debug__":Str))=false) q1T)
 (h1:autoParam (Bn e=false) q3T) (h2:autoParam (Bi es=true) q3T):PE X (.Call (.Name x p) (e::es) [] pos) (RE X.K (fB f h)):=Zz hc s hg hm hv ha hn hdb (A6 h1) (AX h2).1
theorem Yl{h:List D->M (List D)}(hc:Bs X (.type id) R)(s:FE X.K R h)(hg:Gl X x)(hm:X.mg x=none)(hv:bootBuiltins x=some (.type id))(ha:PA X (e::es) (RA X.K f))(hn:autoParam (x≠"__name__") q1T)(hdb:autoParam ((x==("__debug__":Str))=false) q1T)
 (h1:autoParam (Bn e=false) q3T) (h2:autoParam (Bi es=true) q3T):PE X (.Call (.Name x p) (e::es) [] pos) (RF X.K (fBF f h)):=ZA hc s hg hm hv ha hn hdb (A6 h1) (AX h2).1
theorem Nl{tg:Expr}(hg:Gl X "range")(hm:X.mg "range" = none)(ha:PA X [a] (RA X.K f))(h1:autoParam (Bn a=false) q3T):PI X tg (.Call (.Name "range" p) [a] [] pos) (RI X.K (B2 f)):=OE hg hm ha (A6 h1)
theorem OC{cpos:Pos}(h1:Bn e=false)(h2:Bi es=true)(h3:es.length<20):((backTo cpos (starEach (e::es) X.env)).all (λx=>!x.1)&&(backToKw cpos (keywordEach [] X.env)).all (λx=>x.1.isSome)&&decide ((e::es).length+([]:List Keyword).length+(if ([]:List Keyword).isEmpty then 0 else 1)<30))=true:=by
 rw[(AX (es:=e::es) (env:=X.env) (p:=cpos) (by rw[Bi,uo7,h1];exact h2)).2];show(true&&true&&decide (es.length+1+0+0<30))=true;simp;lia
theorem No{μ:Cf->Hp->D->(V->Hp->Prop)->Prop}(i:Nat){x:Str}{g:M (List D)}{px apos cpos:Pos}(ha:PA X (e::es) (RA X.K g))(hN:autoParam (X.N[i]?=some x) q3T)(hv:autoParam (Vis X.env.scope x) q0T)(hd:autoParam ((x==("__debug__":Str))=false) q1T)
 (hcd:autoParam ((x==("__classdict__":Str))=false) q1T) (hline:autoParam ((apos.endLine==cpos.line)=true) q3T) (h1:autoParam (Bn e=false) q3T) (h2:autoParam (Bi es=true) q3T) (h3:autoParam (es.length<20) q1T) :
 PS X (.Expr (.Call (.Attribute (.Name x px) "append" apos) (e::es) [] cpos) pos) (RSg X.K μ (ownM i AZ g)):=OF i ha hN hv hd hcd rfl (OC h1 h2 h3) hline (A6 h1) (AX h2).1
theorem Np{μ:Cf->Hp->D->(V->Hp->Prop)->Prop}(i:Nat){x:Str}{g:M (List D)}{px apos cpos:Pos}(ha:PA X (e::es) (RA X.K g))(hN:autoParam (X.N[i]?=some x) q3T)(hv:autoParam (Vis X.env.scope x) q0T)(hd:autoParam ((x==("__debug__":Str))=false) q1T)
 (hcd:autoParam ((x==("__classdict__":Str))=false) q1T) (hline:autoParam ((apos.endLine==cpos.line)=true) q3T) (h1:autoParam (Bn e=false) q3T) (h2:autoParam (Bi es=true) q3T) (h3:autoParam (es.length<20) q1T) :
 PS X (.Expr (.Call (.Attribute (.Name x px) "extend" apos) (e::es) [] cpos) pos) (RSg X.K μ (ownM i EW g)):=OG i ha hN hv hd hcd rfl (OC h1 h2 h3) hline (A6 h1) (AX h2).1
end
end
end L2
namespace HT
open PySem PySem.Spec L2 PyProof.Rows
section
variable{prog:bS}{w:bT}{A:Around}{E:bP->bR->Prop}{s:bR}
end
end HT
namespace L2
open PySem PySem.Spec PyProof.Rows
section
variable{X:Cx}{e ek:Expr}{p2 pos:Pos}{te:TE}{tk:TO}
end
section
variable{X:Cx}
end
section
variable{X:Cx}
end
section
variable{X:Cx}
end
section
variable{X:Cx}{K:bN}
def CA:List D->Option (List Int)
 |[]=>some []
 |.int i::r=>(CA r).map (i :: ·)
 |_=>none
theorem Hx{c:Cf}{H:Hp}:∀{ds:List D}{vs:List V}{ns:List Int},Reps K c H vs ds->CA ds=some ns->vs=ns.map V.int
 |[],_,ns,r,e=>by
   cases r
   cases e
   rfl
 |d::ds,_,ns,r,e=>by
   cases r with
   |cons r1 r2=>
     cases r1 with
     |int i=>
       clear 5(uc6.mp e)zs e1 rfl;rw[Hx r2 e1];rfl
     |_=>cases e
end
def Pt:R2:=λx y H Q=>∃a kvs k v,x=.ref a/\y=.str k/\H a=some (.dK kvs)/\Br kvs (Sum.inr k:Key)=some v/\Q v H
def Xu:V->V->V->Hp->(Hp->Prop)->Prop:=λo i v H Q=>∃a kvs k,o=.ref a/\i=.str k/\H a=some (.dK kvs)/\kvs.length<sizeLine/\Q (upd H a (.dK (BP kvs (Sum.inr k:Key) v)))
section
variable{X:Cx}
theorem WG:IxR X Pt:=by
 intro value slice bO s σ H x y v u Q I rx ry h hs;clear 5 h a kvs k z rfl rfl e l q
 cases rx
 obtain⟨_,_,vs,rel,dd⟩:=D6 I.hok e;have g:DGet H a (kV (Sum.inr k:Key)) (some z):=by rw[<-l];exact DGet.k e
 have hT:=dd.typeIs;unfold subscriptTail;refine ur4 ?_;rw[getitemInPython_of_ne hT.not_modules];refine ur4 (wpAny_specialOf hT PySem.F.slot_dict_getitem.lookup ?_);have get:wpAny (model X.prog X.w) X.A (getItem (.ref a) u) (EP X bO σ Q) X.xe s:=by
  clear 5(RelO.some_of (v:=z) (o:=valueAt vs (Sum.inr k:Key)) (by rw[<-l];exact rel.val _))w' hw rw';exact wpAny_getItem_of (Eb (k:=(Sum.inr k:Key)) ry) dd.mapOf hw ⟨z,H,I.tok _,rw',q⟩
 have fin:wpAny (model X.prog X.w) X.A (subscripted slice false (.ref a) u) (λr s₃=>wpAny (model X.prog X.w) X.A (letTemporaryGo value (.ref a) r >>= λ_=>pure r) (EP X bO σ Q) X.xe s₃) X.xe s:=by
  rw[hs];exact wpAny_operating (ur6 get (λr s₃ h₃=>ur4 (wpAny_letTemporaryGo (ur5 h₃))) λ_ _ x=>x)
 first
  |exact ur5 (ur4 fin)
  |exact ur4 (ur5 (ur4 fin))
  |exact ur4 fin
theorem Vs:M3 X Xu:=by
 intro bO s σ H o i v ov iv u Q I ro ri rv h;clear 5 h a kvs k rfl rfl e l q
 cases ro
 clear 5(D6 I.hok e)z hd vs rel dd;have hz:vs.length<=sizeLine:=by rw[<-rel.length];exact z
 have hl:(BP kvs (Sum.inr k:Key) v).length<=sizeLine:=by have:=DO kvs (Sum.inr k:Key) v;lia
 refine wpAny_setItem_pairs (hsz:=hz) (Eb (k:=(Sum.inr k:Key)) ri) dd λh' dd' hs=>⟨_,?_,q⟩;have he:∃q,h'.get? a=some q:=let ⟨q,_,_,hq,_⟩:=dd';⟨q,hq⟩;exact Ee I (by rw[e];exact True.intro) hs he (Gc hl hd (rel.put _ rv) dd')
end
noncomputable def AR(kvs:List (Key×D))(k:Key):Option D:=(kvs.find? λkv=>decide (kv.1=k)).map (·.2)
noncomputable def CJ(kvs:List (Key×D))(k:Key)(d:D):List (Key×D):=
 if (kvs.any λkv=>decide (kv.1=k))=true then kvs.map (λkv=>if kv.1=k then(kv.1,d) else kv) else kvs++[(k,d)]
def Dm:D->D->M D
 |.obj n,.str x=>λt=>match t.S[n]? with
   |some (.dct kvs)=>(AR kvs (.inr x)).map λd=>(d,t)
   |_=>none
 |_,_=>fail
def Fv:D->D->D->M Unit
 |.obj n,.str x,d=>λt=>match t.S[n]? with
   |some (.dct kvs)=>if kvs.length<LIM then some ((),{t with S:=t.S.set n (.dct (CJ kvs (.inr x) d))}) else none
   |_=>none
 |_,_,_=>fail
def Dv(f g:M D)(d:D):M Unit:=bnd f λo=>bnd g λi=>Fv o i d
def C9:List (Str×M D)->M (List (Key×D))
 |[]=>ret []
 |(k,f)::r=>bnd f λd=>bnd (C9 r) λps=>ret ((.inr k,d)::ps)
def Fh(ps:List (Key×D)):List (Key×D):=ps.foldl (λacc kv=>CJ acc kv.1 kv.2) []
def Ef(n:Nat)(ps:List (Key×D)):M D:=λt=>match t.S[n]? with
 |some (.dct [])=>if ps.length<=15 then some (.obj n,{t with S:=t.S.set n (.dct (Fh ps))}) else none
 |_=>none
def Ij(l:List (Str×M D)):M D:=λt=>bnd (C9 l) (Ef t.S.length) {t with S:=t.S++[.dct []]}
section
variable{K:bN}{c:Cf}{H:Hp}
theorem KVR.get{us:List (Key×V)}{kvs:List (Key×D)}(r:KVR K c H us kvs)(k:Key){d:D}(e:AR kvs k=some d):∃v,Br us k=some v/\Rep K c H v d:=by
 unfold KVR at r
 induction r with
 |nil=>simp[AR] at e
 |@cons p q ps qs h t ih=>
   by_cases hk:p.1=k
   .have hq:q.1=k:=h.1.symm.trans hk;have:AR (q::qs) k=some q.2:=by simp[AR,um9,hq]
    rw[this] at e;cases e
    exact⟨p.2,EI hk,h.2⟩
   .have hq:¬q.1=k:=λz=>hk (h.1.trans z);have:AR (q::qs) k=AR qs k:=by simp[AR,um9,hq]
    rw[this] at e;rw[DJ hk];exact ih e
theorem KVR.any{us:List (Key×V)}{kvs:List (Key×D)}(r:KVR K c H us kvs)(k:Key):(us.any λkv=>decide (kv.1=k))=(kvs.any λkv=>decide (kv.1=k)):=by
 unfold KVR at r
 induction r with
 |nil=>rfl
 |@cons p q ps qs h t ih=>rw[uo8,uo8,ih,h.1]
theorem KVR.put{us:List (Key×V)}{kvs:List (Key×D)}(r:KVR K c H us kvs)(k:Key){v:V}{d:D}(rv:Rep K c H v d):KVR K c H (BP us k v) (CJ kvs k d):=by
 unfold BP CJ;rw[r.any k]
 by_cases q:(kvs.any λkv=>decide (kv.1=k))=true
 .rw[eB q,eB q];clear q;unfold KVR at r⊢
  induction r with
  |nil=>exact .nil
  |@cons p q ps qs h t ih=>
    rw[uo6,uo6];refine .cons ?_ ih
    by_cases e:p.1=k
    .rw[eB e,eB (h.1.symm.trans e)];exact⟨h.1,rv⟩
    .rw[eC e,eC (λz=>e (h.1.trans z))];exact h
 .rw[eC q,eC q];exact Paired.snoc r ⟨rfl,rv⟩
theorem KVR.length{us:List (Key×V)}{kvs:List (Key×D)}(r:KVR K c H us kvs):us.length=kvs.length:=dq r
theorem KVR.mono{c':Cf}{H':Hp}{us:List (Key×V)}{kvs:List (Key×D)}(e:Ext c H c' H')(r:KVR K c H us kvs):KVR K c' H' us kvs:=Paired.mapP r λ_ _ z=>⟨z.1,z.2.mono e⟩
theorem KVR.merge:∀{ps:List (Key×D)}{us:List (Key×V)}{acc:List (Key×D)}{ua:List (Key×V)},KVR K c H us ps->KVR K c H ua acc->KVR K c H (EB ua us) (ps.foldl (λacc kv=>CJ acc kv.1 kv.2) acc):=by
 intro ps us acc ua r;unfold KVR at r
 induction r generalizing acc ua with
 |nil=>intro q;exact q
 |@cons p q ps qs h t ih=>
   intro r0;refine ih ?_;show KVR K c H (BP ua p.1 p.2) (CJ acc q.1 q.2);have:=KVR.put r0 p.1 h.2;rw[<-h.1];exact this
set_option tactic.hygienic true in
theorem Pz:Bh K Pt Dm:=λ{Oo c t σ H x y dx dy r t' Q} f rx ry eq k=>by
 unfold Dm at eq
 split at eq
 .next n z=>
  cases ry
  obtain⟨a,rfl,hk⟩:=rx.rv
  split at eq
  .next kvs es=>
   clear 5(uc6.mp eq)d e1 e2
   cases e2
   clear 5(f.s.obs _ a _ hk es)us g1 g2;clear 5(g2.get _ e1)v e3 e4;exact⟨a,us,z,v,rfl,rfl,g1,e3,k _ H c f .refl e4⟩
  .cases eq
 .cases eq
end
section
variable{X:Cx}{pos:Pos}{e:Expr}
set_option tactic.hygienic true in
theorem OD{o i:Expr}{f g:M D}(ho:PE X o (RE X.K f))(hi:PE X i (RE X.K g))
 (ha:∀v,assign (.Subscript o i pos) X.env v=(do
   let ov <-holding [v] (eval o X.env)
   let iv <-holding [v,ov] (eval i X.env)
   standAt pos
   holding [v,ov,iv] (setItem ov iv v)
   release [v,ov,iv] []):=by intro _;rfl):PG X (.Subscript o i pos) (RG X.K (Dv f g)):=
 F8 (La ho hi Vs ha) λv σ H Q z9=>by
  clear 5 z9 Oo c t d fi rv t' eq k;clear 5(Af eq)d0 t1 e1 eq;clear 5(Af eq)di t2 e2 eq;refine⟨Oo,c,t,fi,_,t1,e1,λx H1 c1 f1 s1 rx=>⟨Oo,c1,t1,f1,di,t2,e2,λy H2 c2 f2 s2 ry=>?_⟩⟩;unfold Fv at eq
  split at eq
  .next n z dd=>
   cases ry
   obtain⟨a,rfl,hk⟩:=rx.rv
   split at eq
   .next kvs es=>
    split at eq
    .next hl=>
     cases eq
     have hk2:=s2.ext.io _ _ hk;clear 5(f2.s.obs _ a _ hk2 es)us g1 g2;refine⟨a,us,z,rfl,rfl,g1,by rw[g2.length];exact dB hl N3,?_⟩;have rv2:=rv.mono (s1.trans s2).ext;obtain⟨f3,s3⟩:=f2.wrObj (o:=.dct (CJ kvs (.inr z) d)) (u:=.dK (BP us (.inr z) v)) hk2 λc' H' ext hu=>⟨_,hu,(g2.put _ rv2).mono ext⟩;exact k σ _ c2 f3 ((s1.trans s2).trans s3)
    .cases eq
   .cases eq
  .cases eq
def RP(K:bN)(f:M (List (Key×D)))(σ:St)(H:Hp)(Q:List (V×V)->Hp->Prop):Prop:=
 ∃Oo c t,FInv K Oo c t σ H/\∃ps t',f t=some (ps,t')/\∀us H' c',FInv K Oo c' t' σ H'->Stp Oo c H c' H'->KVR K c' H' us ps->Q (us.map λkv=>(kV kv.1,kv.2)) H'
def PPf(X:Cx)(pos:Pos)(keys:List (Option Expr))(values:List Expr)(f:M (List (Key×D))):Prop:=
 ∃trs,PPs X pos keys values trs/\∀σ H Q,RP X.K f σ H Q->IJ trs σ H Q
theorem T6:PPf X pos [] [] (C9 []):=⟨[],My,λσ H Q z9=>by
 clear 5 z9 Oo c t fi ps t' eq k
 cases eq
 exact k [] H c fi .refl .nil⟩
theorem QI{k:Str}{j:Nat}{kp:Pos}{v:Expr}{ks:List (Option Expr)}{vs:List Expr}{f:M D}{r:List (Str×M D)}(hv:PE X v (RE X.K f))(hr:PPf X pos ks vs (C9 r)) :
 PPf X pos (some (.Constant (.str k) j kp)::ks) (v::vs) (C9 ((k,f)::r)):=by
 clear 5 hr trs h1 h2;refine⟨_,Lf Pj hv h1,λσ H Q z9=>?_⟩;clear 5 z9 Oo c t fi ps t' eq kk;clear 5(Af eq)d t1 e1 eq;clear 5(Af eq)qs t2 e2 eq
 cases eq
 refine⟨Oo,c,t,fi,d,t1,e1,λy H1 c1 f1 s1 ry=>?_⟩;refine h2 σ H1 _ ⟨Oo,c1,t1,f1,qs,_,e2,λus H2 c2 f2 s2 ru=>?_⟩;exact kk ((.inr k,y)::us) H2 c2 f2 (s1.trans s2) (.cons ⟨rfl,ry.mono s2.ext⟩ ru)
set_option tactic.hygienic true in
theorem TQ{keys:List (Option Expr)}{values:List Expr}{l:List (Str×M D)}(h:PPf X pos keys values (C9 l))(hall:autoParam (keys.all (·.isSome)=true) q3T)(hl:autoParam (keys.length=values.length) q3T)(h0:autoParam (keys≠[]) q4T)
 (h15:autoParam (keys.length<=15) q5T):PE X (.Dict keys values pos) (RE X.K (Ij l)):=by
 clear 5 h trs h1 h2;refine Az (UN h1 hall hl h0 h15) λσ H Q z9=>?_;clear 5 z9 Oo c t fi r t' eq k;intro p hp;obtain⟨c1,f1,s1,e1⟩:=fi.newObj (o:=.dct []) (u:=.dK []) hp λc' H' ex hu=>⟨[],hu,.nil⟩;clear 5(Af eq)ps t2 e2 eq;refine h2 σ _ _ ⟨Oo,c1,_,f1,ps,t2,e2,λus H2 c2 f2 s2 ru=>?_⟩;unfold Ef at eq
 split at eq
 .next es=>
  split at eq
  .next hl15=>
   cases eq
   have hk2:=s2.ext.io _ _ e1;clear 5(f2.s.obs _ p _ hk2 es)u0 g1 g2
   cases g2
   refine⟨g1,us,rfl,by rw[ru.length];exact hl15,?_⟩;obtain⟨f3,s3⟩:=f2.wrObj (o:=.dct (Fh ps)) (u:=.dK (EB [] us)) hk2 λc' H' ext hu=>⟨_,hu,(KVR.merge ru .nil).mono ext⟩;exact k _ _ c2 f3 (s1.trans (s2.trans s3)) (.obj hk2)
  .cases eq
 .cases eq
end
def NK(a b c:Int)(t u v:Tok):Obj:={cls:=.type "range",data:=.fields #[.int a t,.int b u,.int c v]}
def E5(a b c:Int):Nat:=if 0<c/\a<b then((b-a-1)/c+1).toNat else 0
section
variable{X:Cx}
theorem R7{a c:Int}:∀{n:Nat}{acc:Array bP},ItemsOf (λi v=>∃t,v=.int (a+i*c) t) acc n->Vals ((List.range n).map λi:Nat=>V.int (a+i*c)) acc.toList:=by
 intro n acc h;clear 5 h h1 h2;have key:∀(l:List bP) (k m:Nat),l.length=m->(∀j v,l[j]?=some v->∃t,v=Value.int (a+((k+j:Nat):Int)*c) t)->Vals ((List.range' k m).map λi:Nat=>V.int (a+i*c)) l:=by
  intro l
  induction l with
  |nil=>intro k m hm _;subst hm;exact .nil
  |cons x l ih=>
    intro k m hm hv;subst hm;rw[uj8,uk4,uo6];refine .cons ?_ (ih (k+1) _ rfl λj v e=>?_)
    .clear 5(hv 0 x rfl)t e;exact⟨t,by rw[e];rfl⟩
    .have:=hv (j+1) v (by simpa using e);rw[show k+(j+1)=k+1+j by lia] at this;exact this
 have:=key acc.toList 0 n (by simpa using h1) λj v e=>by
  have:=h2 j v (by simpa using e);simpa using this
 rw[ue8];exact this
theorem Oi(hc:X.calm=true):Bs X (.type "list") (λxs H Q=>XB7 λp a b c t u v=>AB6 (xs=[.ref p]) (H p=some (.frz (NK a b c t u v) (.own p))) (Builtin.Range.small a b c=true) (0<c) (E5 a b c<=100000) (∀l,H l=none->Q (.ref l) (upd H l (.lst ((List.range (E5 a b c)).map λi:Nat=>V.int (a+i*c)))))):=by
 intro bO s σ H xs us Q I r h;clear 5 h p a b c t u v rfl hp hs h0 hn q;clear 5(Dx r)w rfl rx
 cases rx
 obtain⟨e,_⟩:=(show ObjOk X.prog X.w H s.heap p (.frz (NK a b c t u v) (.own p)) from I.hok p _ hp);have hz:Builtin.Range.rangeSize a b c=E5 a b c:=by
  unfold Builtin.Range.rangeSize E5
  by_cases hab:a<b
  .rw[eB h0,eB hab,eB ⟨h0,hab⟩];have:=Int.ediv_nonneg (a:=b-a-1) (b:=c) ∅ ∅;lia
  .rw[eB h0,eC hab,eC λz=>hab z.2];rfl
 refine call_list_range (I.ok.hd hc) e hs hz ∅ λh' tk acc' c' hk hS hacc=>?_;refine⟨.ref s.heap.objs.size,_,I.laid (t':=tk) hk (uq9 _) (show ObjOk X.prog X.w _ h' _ (.lst _) from⟨?_,acc'.toList,c',R7 hacc,by simpa using hS⟩),rfl,q _ (I.hok.fresh (uq9 _))⟩;rw[um6,ui5];exact up6 hn (by decide)
end
def Ka:List D->M (List D)
 |[.int a,.int b,.int c]=>λt=>if 0<c/\c<1073741824/\small a=true/\small b=true/\E5 a b c<=LIM then some ((List.range (E5 a b c)).map (λi:Nat=>D.int (a+i*c)),t) else none
 |_=>fail
theorem Reps.rng{K:bN}{c:Cf}{H:Hp}(f:Nat->Int):∀l:List Nat,Reps K c H (l.map λi=>V.int (f i)) (l.map λi=>D.int (f i))
 |[]=>.nil
 |n::r=>.cons (.int _) (Reps.rng f r)
theorem LS{a b c:Int}(h0:0<c)(h1:c<1073741824)(ha:small a=true)(hb:small b=true):Builtin.Range.small a b c=true:=by
 clear 5(CU ha)a0 a1;clear 5(CU hb)b0 b1;have hz:0<=Builtin.Range.rangeSize a b c/\Builtin.Range.rangeSize a b c<=9223372036854775807:=by
  unfold Builtin.Range.rangeSize;rw[eB h0]
  split
  .have q0:=Int.ediv_nonneg (a:=b-a-1) (b:=c) ∅ ∅;have q1:=Int.ediv_le_self (a:=b-a-1) c ∅;lia
  .lia
 unfold Builtin.Range.small;simp[Builtin.Range.rangeFitsLong,h0];lia
section
variable{X:Cx}{pos:Pos}{e:Expr}{es:List Expr}
end
section
variable{prog:bS}{w:bT}{A:Around}{I:bQ}{fp wr:List bQ}{G:Array GenState->Array GenState->Prop}{n:Nat}{P:Nat->bP->Prop}{St:Nat->bR->Prop}
end
section
variable{X:Cx}
end
section
variable{X:Cx}{pos:Pos}{e:Expr}
end
noncomputable def CD(f:M Bool)(b:M Out):Nat->M Out
 |0=>λ_=>none
 |n+1=>λt=>match f t with
   |none=>none
   |some (false,t1)=>some (.next,t1)
   |some (true,t1)=>match b t1 with
     |some (.next,t2)=>CD f b n t2
     |some (.cont,t2)=>CD f b n t2
     |some (.brk,t2)=>some (.next,t2)
     |some (.ret x,t2)=>some (.ret x,t2)
     |none=>none
def GQ:Nat:=1000000
def FB(f:M Bool)(b:M Out):M Out:=CD f b GQ
theorem RS.while{μ:Cf->Hp->D->(V->Hp->Prop)->Prop}{K:bN}{f:M Bool}{b:M Out}{E:Ends}{σ:L2.St}{H:Hp}(q:RSg K μ (FB f b) E σ H):PQ (RT K f) (RSg K μ b) E σ H:=by
 clear 5 q Oo c t fi o t' eq k;refine⟨λm σ' H'=>∃c' t2,FInv K Oo c' t2 σ' H'/\Stp Oo c H c' H'/\CD f b m t2=some (o,t'),⟨GQ,c,t,fi,.refl,eq⟩,?_⟩;rintro m σ' H' ⟨c',t2,f2,s2,e2⟩
 cases m with
 |zero=>cases e2
 |succ m=>
 rw[CD] at e2;dsimp only at e2
 cases ef:f t2 with
 |none=>rw[ef] at e2;cases e2
 |some p=>
 clear 5 p r t3;rw[ef] at e2;refine⟨Oo,c',t2,f2,r,t3,ef,λH3 c3 f3 s3=>?_⟩
 cases r with
 |false=>
   cases e2
   exact k σ' H3 c3 f3 (s2.trans s3)
 |true=>
   rw[eB rfl];dsimp only at e2;refine⟨λσ4 H4=>∃c4 t4,FInv K Oo c4 t4 σ4 H4/\Stp Oo c H c4 H4/\CD f b m t4=some (o,t'),λσ4 H4 h=>⟨m,Nat.lt_succ_self m,h⟩,?_⟩
   cases eb:b t3 with
   |none=>rw[eb] at e2;cases e2
   |some p=>
   clear 5 p ob t4;rw[eb] at e2;refine⟨Oo,c3,t3,f3,ob,t4,eb,λσ4 H4 c4 f4 s4=>?_⟩
   cases ob with
   |next=>exact⟨c4,t4,f4,(s2.trans s3).trans s4,e2⟩
   |cont=>exact⟨c4,t4,f4,(s2.trans s3).trans s4,e2⟩
   |brk=>
     cases e2
     exact k σ4 H4 c4 f4 ((s2.trans s3).trans s4)
   |ret x=>
     cases e2
     exact k σ4 H4 c4 f4 ((s2.trans s3).trans s4)
section
variable{X:Cx}{pos:Pos}
theorem QJ{μ:Cf->Hp->D->(V->Hp->Prop)->Prop}{e:Expr}{body:List Stmt}{f:M Bool}{b:M Out}(hp:PassesOwn (model X.prog X.w) X.A X.env X.xe)(hc:PT X e (RT X.K f))(hb:PSs X body (RSg X.K μ b)):PS X (.While e body [] pos) (RSg X.K μ (FB f b)):=
 B3 (Rj hp hc hb) λ_ _ _ q=>RS.while q
end
section
variable{X:Cx}{tg:Expr}
end
section
variable{X:Cx}{pos:Pos}{e:Expr}{es:List Expr}
end
noncomputable def DE(H:Hp)(a:bQ):Hp:=λb=>if b=a then none else H b
theorem Ra{H:Hp}{a:bQ}{o:HO}(h:H a=some o):upd (DE H a) a o=H:=by
 funext b
 by_cases e:b=a
 .subst e;rw[AA];exact h.symm
 .rw[Ar e];unfold DE;rw[eC e]
section
variable{K:bN}{Oo:bQ->Prop}{c:Cf}{t:T}{σ:L2.St}{H:Hp}
theorem FInv.out(f:FInv K Oo c t σ H){i:Nat}{ds:List D}(e:t.env[i]?=some (some (.own ds))){a:bQ}(ha:σ[i]?=some (some (.ref a))) :
 FInv K Oo ⟨c.ι,λb=>c.O b/\b≠a⟩ {t with env:=t.env.set i none} σ (DE H a)/\Stp Oo c H ⟨c.ι,λb=>c.O b/\b≠a⟩ (DE H a):=by
 clear 5(f.own i ds e)a' vs g1 g2 g3 g4 g5;rw[ha] at g1;injection g1 with g1;injection g1 with g1;injection g1 with g1;subst g1
 have ni:a∉c.ι:=f.s.dis a g2;have ext:Ext c H ⟨c.ι,λb=>c.O b/\b≠a⟩ (DE H a):=by
  refine⟨λb o hb hn=>?_,λb o hb z=>?_,λk b h=>h⟩
  .unfold DE;rw[eC λz=>hn (by rw[z];exact .inr g2)];exact hb
  .rcases z with z|z
   .exact .inl z
   .exact .inr z.1
 have stp:Stp Oo c H ⟨c.ι,λb=>c.O b/\b≠a⟩ (DE H a):=⟨ext,λb hb=>by unfold DE;rw[eC λz=>g3 (by rw[<-z];exact hb)]⟩;have old:∀{j:Nat}{x:Sl},(t.env.set i none)[j]?=some (some x)->j≠i/\t.env[j]?=some (some x):=λ{j x} q=>by
  by_cases h:j=i
  .subst h;rw[ui3] at q
   split at q
   .split at q<;>simp at q
   .contradiction
  .exact⟨h,by rw[ue5 (Ne.symm h)] at q;exact q⟩
 refine⟨⟨⟨f.s.len,f.s.nd,λk b o e1 e2=>?_,λb hb=>?_,λb hb=>f.s.dis b hb.1⟩,by simpa using f.len,λb hb=>⟨f.sub b hb,λz=>g3 (by rw[<-z];exact hb)⟩,λj d q=>?_,λj es q=>?_,λj k es fs b q1 q2 q3 q4=>?_⟩,stp⟩
 .refine(f.s.obs k b o e1 e2).mono ext ?_;unfold DE;rw[eC λz=>ni (by rw[<-z];exact ue6 e1)]
 .clear 5(f.s.trk b hb.1)o ho;exact⟨o,by unfold DE;rw[eC hb.2];exact ho⟩
 .clear 5(f.val j d (old q).2)v h1 h2;exact⟨v,h1,h2.mono ext⟩
 .clear 5(old q)nj q';clear 5(f.own j es q')b us k1 k2 k3 k4 k5;have nb:b≠a:=λz=>nj (f.inj j i es ds a q' e (by rw[k1,z]) ha);exact⟨b,us,k1,⟨k2,nb⟩,k3,by unfold DE;rw[eC nb];exact k4,k5.mono ext⟩
 .exact f.inj j k es fs b (old q1).2 (old q2).2 q3 q4
end
noncomputable def Fp(i:Nat):M Out:=λt=>match t.env[i]? with
 |some (some (.own xs))=>some (.ret (.lst xs),{t with env:=t.env.set i none})
 |_=>none
section
variable{g:Fn}{fa:bQ}{fd:bU}
section
variable{X:Cx}{pos:Pos}{e:Expr}{es:List Expr}
set_option tactic.hygienic true
theorem OI(i:Nat){x:Str}{px:Pos}(hN:autoParam (X.N[i]?=some x) q3T)(hv:autoParam (Vis X.env.scope x) q0T)(hd:autoParam ((x==("__debug__":Str))=false) q1T)
 (hcd:autoParam ((x==("__classdict__":Str))=false) q1T):PS X (.Return (some (.Name x px)) pos) (RSg X.K (μF X.K) (Fp i)):=
 B3 (Po (Fl hN hv hd hcd)) λE σ H z9=>by
  clear 5 z9 Oo c t fi o t' eq k;unfold Fp at eq
  split at eq
  .next xs ex=>
   cases eq
   clear 5(fi.own i xs ex)a vs h1 h2 h3 h4 h5;refine⟨.ref a,h1,?_⟩;clear 5(fi.out ex h1)f2 s2;have:=k σ (DE H a) _ f2 s2 a vs (by unfold DE;rw[eB rfl]) (h5.mono s2.ext);rw[Ra h4] at this;exact this
  .cases eq
inductive spFF(K:bN)(f:Fn)(vs:List V)(H:Hp)(Q:VK)(E:XK):Prop where
 |mk (c:Cf) (ds:List D) (S:List Ob) (si:SInv K c S H) (rp:Reps K c H vs ds) (rs:List D) (S':List Ob) (e:f ds S=some (.lst rs,S')) (k:∀p us H' c',SInv K c' S' H'->Stp c.O c H c' H'->(∀b,c'.O b↔c.O b)->Reps K c' H' us rs->H' p=none->Q (.ref p) (upd H' p (.lst us))):spFF K f vs H Q E
def Et(g:Fn)(f:M (List D)):M (List D):=bnd f λds t=>match g ds t.S with
 |some (.lst rs,S')=>some (rs,{t with S:=S'})
 |_=>none
theorem Nb{ds:List D}{t:T}{rs:List D}{t':T}(h:(match g ds t.S with|some (.lst rs,S')=>some (rs,{t with S:=S'})|_=>none:Option (List D×T))=some (rs,t')):∃S',g ds t.S=some (.lst rs,S')/\t' = {t with S:=S'}:=by
 split at h
 .next rs' S' e=>cases h;exact⟨S',e,rfl⟩
 .cases h
set_option tactic.hygienic false
theorem QD{k:Nat}{ps:List Str}{f:M (List D)}{x:Str}{p:Pos}(F:FnOk X.prog X.w X.K X.mg X.base CX0 k fa fd ps (spFF X.K g))(hr:Room k X.A)(hg:Gl X x)(hm:X.mg x=some (.ref fa))(hk:PySem.W.keepIn X.K (.ref fa)=true)(hb:Binds X.K fd ps [])
 (ha:PA X (e::es) (RA X.K f)) (hdb:autoParam ((x==("__debug__":Str))=false) q1T) (h1:autoParam (Bn e=false) q3T) (h2:autoParam (Bi es=true) q3T) :
 PE X (.Call (.Name x p) (e::es) [] pos) (RF X.K (Et g f)):=
 Az (Mw F hr hg hm hk hb .nil SW ha hdb (A6 h1) (AX h2).1) λσ H Q z9=>by
  clear 5 z9 Oo c t fi rs t' eq kk;clear 5(Af eq)ds t1 e1 eq;clear 5(Nb eq)S' e2 rfl;refine⟨Oo,c,t,fi,ds,t1,e1,λvs H1 c1 f1 s1 rvs=>?_⟩;show spFF X.K g (vs++[]) H1 Q E0;rw[um3];refine⟨c1,ds,t1.S,f1.s,rvs,rs,S',e2,λp us H' c' si st ho ru hp=>?_⟩;clear 5(f1.after si st ho)f2 s2;exact kk p us H' c' f2 (s1.trans s2) ru hp
end
set_option tactic.hygienic true in
theorem T0{P:bS}{w:bT}{K:bN}{mg:Str->Option bP}{base:Heap}{x qual:Str}{st:Stmt}{N ps:List Str}{k n m:Nat}{g:M Out}(e1:ps.length=n)(e2:N.length=m)(F:Fun K x qual st fa fd)(S:FnScope N ps (AO st))
 (hb:∀(cdv:bP) (A:Around) (outer:List Env) (s:bR) (H:Hp) (E:XK),Room k (A.deeper (PyProof.Rows.envOfC qual (AO st) s.heap.objs.size fa cdv))->
   PSs (FN CX0 P w K mg base N qual (AO st) fa cdv A outer s H E).nox (CY st) (RSg K (μF K) g)):FnOk P w K mg base CX0 (k+1) fa fd ps (spFF K (fnOf n m g)):=by
 subst e1 e2;have hlen:∀{ds:List D}{S:List Ob}{z:D×List Ob},fnOf ps.length N.length g ds S=some z->ds.length=ps.length:=λ{ds S z} h=>by
  unfold fnOf at h
  split at h
  .next h1=>exact h1
  .cases h
 refine F.ok S (λvs H Q E h=>?_) (λcdv A outer s H vs Q E hr h=>?_)
 .obtain⟨c,ds,S,si,rs,r,S',e,_⟩:=h;rw[rs.length];exact hlen e
 clear 5 h c ds S0 si rs r S' e kk;refine⟨RSg K (μF K) g,hb cdv A outer s H E hr,?_⟩;have hl:=hlen e;unfold fnOf at e;rw[eB hl] at e
 cases eg:g ⟨env0 N.length ds,S0⟩ with
 |none=>rw[eg] at e;cases e
 |some p=>
   clear 5 p o t;rw[eg] at e;refine⟨c.O,c,_,Il si rs,o,t,eg,λσ' H' c' f' s'=>?_⟩;clear 5 f'.leave si' ext';have st':Stp c.O c H ⟨c'.ι,c.O⟩ H':=⟨s'.ext.trans ext',s'.oo⟩
   cases o with
   |next=>cases e
   |ret d=>
     cases e
     exact λp us hp ru=>kk p us H' _ si' st' (λ_=>d8) (ru.mono ext') hp
   |brk=>cases e
   |cont=>cases e
theorem U8{P:bS}{w:bT}{K:bN}{mg:Str->Option bP}{base:Heap}{ps:List Str}{k:Nat}{f:Fn}(e:f=g)(h:FnOk P w K mg base CX0 k fa fd ps (spFF K g)):FnOk P w K mg base CX0 k fa fd ps (spFF K f):=by rw[e];exact h
end
section
variable{X:Cx}
theorem UK{o:Expr}{to:TE}{apos cpos:Pos}(ho:PE X o to)(hbase:autoParam (attributeBase o "bit_length" X.env (eval o X.env)=eval o X.env) q3T)(hline:autoParam ((apos.endLine==cpos.line)=true) q3T) :
 PE X (.Call (.Attribute o "bit_length" apos) [] [] cpos) (λσ H Q=>to σ H λv H1=>∃i,v=.int i/\Q (.int (Builtin.Int.intBits i:Nat)) H1):=by
 intro bO s σ H Q I h;refine Call_method0 hbase hline (thn (ho bO s σ H _ I h) λu s1 z9=>?_);clear 5 z9 v H1 I1 rv i ex q;subst ex;clear 5 rv t rfl;exact⟨"int", "int.bit_length",PySem.F.plainAttrs_int,ua4,PySem.F.type_int_bit_length,dI _ _ _,(λ_ e=>nomatch e),
  method0_gives ua4 PySem.F.entry_int_bit_length (dI _ _ _) (PySem.F.args_int_bit_length_1 _) (PySem.AutoIntG2.int_bit_length_int_0 i t) ⟨.int (Builtin.Int.intBits i:Nat),H1,I1.tok _,⟨_,rfl⟩,q⟩⟩
end
def H9:D->M D
 |.int i=>ret (.int (Builtin.Int.intBits i:Nat))
 |_=>fail
section
variable{X:Cx}{pos:Pos}{e:Expr}{es:List Expr}
set_option tactic.hygienic true in
theorem Ox{o:Expr}{f:M D}{apos cpos:Pos}(ho:PE X o (RE X.K f))(hbase:autoParam (attributeBase o "bit_length" X.env (eval o X.env)=eval o X.env) q3T)(hline:autoParam ((apos.endLine==cpos.line)=true) q3T) :
 PE X (.Call (.Attribute o "bit_length" apos) [] [] cpos) (RE X.K (fUn f H9)):=
 Az (UK ho hbase hline) λσ H Q z9=>by
  clear 5 z9 Oo c t fi r t' eq k;clear 5(Af eq)d t1 e1 eq;refine⟨Oo,c,t,fi,d,t1,e1,λx H1 c1 f1 s1 rx=>?_⟩;unfold H9 at eq
  split at eq
  .next i=>
   cases eq
   cases rx
   exact⟨i,rfl,k _ H1 c1 f1 s1 (.int _)⟩
  .cases eq
end
def Do(n:Nat)(fr:List Nat)(i:Nat)(st:D->M Unit)(tst:M Bool)(elt:M D):M (List D):=λt=>match t.env[i]? with
 |some (some (.own ds))=>match AQ st tst elt ds ⟨cenv n fr t.env,t.S⟩ with
   |some (xs,t')=>if xs.length<=LIM then some (xs,{t with S:=t'.S}) else none
   |none=>none
 |_=>none
section
variable{X:Cx}{b elt:Expr}{pos:Pos}
set_option tactic.hygienic true in
theorem RF.compO{K:bN}{n i:Nat}{fr:List Nat}{st:D->M Unit}{tst:M Bool}{elt:M D}{σ:L2.St}{H:Hp}{Q:VK}(q:RF K (Do n fr i st tst elt) σ H Q):∃a vs,σ[i]?=some (some (.ref a))/\SqL K H a vs/\Lz (Itl K a) (RG K st) (RT K tst) (RE K elt) (Dy n fr σ) H λacc H'=>∀p,H' p=none->acc.length<=sizeLine->Q (.ref p) (upd H' p (.lst acc)):=by
 clear 5 q Oo c1 t1 f1 xs t' eq k;unfold Do at eq
 split at eq
 case h_2=>cases eq
 next ds e0=>
 clear 5(f1.own i ds e0)a vs h1 h2 h3 h4 h5;refine⟨a,vs,h1,SqL.of h4,?_⟩
 cases e3:AQ st tst elt ds ⟨cenv n fr t1.env,t1.S⟩ with
 |none=>rw[e3] at eq;cases eq
 |some p=>
   clear 5 p ys t3;rw[e3] at eq;dsimp only at eq
   split at eq
   case isFalse=>cases eq
   next hl=>
   cases eq
   have sq:∀{c' H'},Stp c1.O c1 H c' H'->SqL K H' a vs/\Reps K c' H' vs ds:=λ{c' H'} s=>⟨SqL.of ((s.oo a h2).trans h4),h5.mono s.ext⟩;refine⟨λi m acc σ' H'=>m=ds.length-i/\i<=ds.length/\∃c' t2 zs rest,FInv K c1.O c' t2 σ' H'/\Stp c1.O c1 H c' H'/\Reps K c' H' acc zs/\AQ st tst elt (ds.drop i) t2=some (rest,t3)/\xs=zs++rest,
    ⟨_,rfl,ur0 _,c1,_,[],xs,FO f1,.refl,.nil,by rw[uo0];exact e3,rfl⟩,?_⟩
   rintro i m acc σ' H' ⟨rfl,hi,c',t2,zs,rest,f2,s2,ra,e2,ez⟩;have hacc:acc.length<=sizeLine:=by
    have:zs.length<=xs.length:=by rw[ez,ug7];exact uk2 _ _
    rw[ra.length];exact up6 this (up6 hl BM)
   refine⟨hacc,?_⟩;clear 5(sq s2)q1 q2
   by_cases hlt:i<ds.length
   .obtain⟨v0,ev,_⟩:=q2.at (ub5 hlt);refine .inr ⟨⟨vs,v0,q1,ev⟩,λx H'' hy=>?_⟩;clear 5 hy rfl hx;have rx:=q2.get (hx vs q1) (ub5 hlt);rw[ub2 hlt] at e2;unfold AQ at e2;clear 5(Af e2)u t4 e4 e2;clear 5(Af e2)kb t5 e5 e2;refine⟨c1.O,c',t2,_,f2,rx,t4,e4,λσ3 H3 c3 f3 s3=>⟨c1.O,c3,t4,f3,kb,t5,e5,λH4 c4 f4 s4=>?_⟩⟩
    cases kb with
    |false=>
      rw[eC ug6] at e2⊢;exact⟨ds.length-(i+1),by lia,rfl,hlt,c4,t5,zs,rest,f4,(s2.trans s3).trans s4,ra.mono (s3.trans s4).ext,e2,ez⟩
    |true=>
      rw[eB rfl] at e2⊢;clear 5(Af e2)x6 t6 e6 e2;clear 5(Af e2)r7 t7 e7 e2
      cases e2
      refine⟨c1.O,c4,t5,f4,x6,t6,e6,λv H5 c5 f5 s5 rv=>?_⟩;exact⟨ds.length-(i+1),by lia,rfl,hlt,c5,t6,zs++[x6],r7,f5,((s2.trans s3).trans s4).trans s5,(ra.mono ((s3.trans s4).trans s5).ext).append (.cons rv .nil),e7,by rw[ez,ui0];rfl⟩
   .have hi':i=ds.length:=by lia
    subst hi';rw[uk1] at e2
    cases e2
    refine .inl ⟨⟨vs,q1,by rw[q2.length];exact uq9 _⟩,λp hp _=>?_⟩;clear 5 f2.leave si ext;clear 5(f1.after si ⟨s2.ext.trans ext,s2.oo⟩ (λ_=>d8))f6 s6;rw[um3] at ez;subst ez;exact k p acc H' _ f6 s6 (ra.mono ext) hp
theorem QF(i:Nat){tg:Expr}{ifs:List Expr}{scope:Scope}{N':List Str}{n:Nat}{fr:List Nat}{st:D->M Unit}{tst:M Bool}{el:M D}{x:Str}{px:Pos}(O:CmpOk X scope N' (Dy n fr))(hc:X.calm=true)
 (hg:∀cl C s2 H2 fp,PG (Bq X N' scope cl C s2 H2 fp) tg (RG X.K st)) (ht:∀cl C s2 H2 fp,PIf (Bq X N' scope cl C s2 H2 fp) ifs (RT X.K tst)) (he:∀cl C s2 H2 fp,PE (Bq X N' scope cl C s2 H2 fp) elt (RE X.K el))
 (hN:autoParam (X.N[i]?=some x) q3T) (hv:autoParam (Vis X.env.scope x) q0T) (hd:autoParam ((x==("__debug__":Str))=false) q1T) (hcd:autoParam ((x==("__classdict__":Str))=false) q1T)
 (hs:autoParam (∀z,foldedSetIterable (.Name x px) X.env z=pure z) q2T):PE X (.ListComp elt [⟨tg,.Name x px,ifs,0⟩] scope pos) (RF X.K (Do n fr i st tst el)):=
 Az (Jj O hc (Lb (Fl hN hv hd hcd)) hg ht he hs) λσ H Q q=>by
  clear 5(RF.compO q)a vs h1 h2 h3;exact⟨.ref a,h1,.inl ⟨a,rfl,⟨vs,h2⟩,h3⟩⟩
end
theorem Inv.turnedL{X:Cx}{bO:List (bQ×Obj)}{σ:St}{H:Hp}{s:bR}{h':Heap}{t':Nat}(fp:List bQ)(I:Inv X bO σ H s)(hf:∀b∈fp,FpOk X bO H b)(k:∀b o,b∉fp->s.heap.get? b=some o->h'.get? b=some o):Inv X bO σ H {s with heap:=h',toks:=t'}:=by
 have nit:∀b u,H b=some u->b∉fp:=λb u e z=>by rw[(hf b z).1] at e;cases e
 refine I.step (g':=s.gens) (d':=s.drawn) (ch:=fp) (λb hb=>?_) (λb o _ _ hc e _=>k b o hc e) (λb o _ _ hc e _=>⟨o.slots,k b o hc e⟩) (λ_ _ _ _ n=>n)
  (λb o hc e=>⟨o,k b o hc e⟩) (λ_ _ e=>e) (λ_ _ _ e=>e) (λb ps e=>⟨#[],by rw[e];simp⟩) (λm hm=>?_) (λb u e=>?_) I.bare
 .obtain⟨_,h1,_,h3,h4,h5⟩:=hf b hb;exact⟨h3,h1,h4,h5⟩
 .clear 5 hm o es ep ho r;exact⟨o,es,ep,k _ o (λz=>(hf _ z).2.1 rfl) ho,r⟩
 .refine(I.hok b u e).stay (λc v hc q=>k c v ?_ q) (λ_ q=>q) λ_ _ q=>q;rcases hc with z|z
  .rw[z];exact nit b u e
  .exact nit c _ z
def Ite(K:bN)(a:bQ):It:=
 ⟨λi H=>∃xs x,SqL K H a xs/\xs[i]?=some x,λi H x H'=>∃p v,x=.ref p/\H p=none/\(∀xs,SqL K H a xs->xs[i]?=some v)/\H'=upd H p (.tup [.int i,v]),λi H=>∃xs,SqL K H a xs/\xs.length<=i⟩
theorem PZ{P:bS}{w:bT}{K:bN}{elts:List Expr}{n:Nat}{pos:Pos}(a e it:bQ)(hne:e≠it):Turn P w K (.Tuple elts n pos) (Ite K a) [e,it] e (λi h=>(∃old,IsEnum h e it i old)/\h.IsListIter it a i) where
 mem:=by simp
 obj:=λi h st b hb=>by
  obtain⟨⟨old,h1⟩,o,e1,c,d⟩:=st;simp only[uo5,uk5,dU] at hb;rcases hb with rfl|rfl
  .exact⟨_,h1,λv z=>by have z':Data.fields _=Data.cell v:=z;cases z'⟩
  .exact⟨o,e1,λv z=>by rw[d] at z;cases z⟩
 keep:=λi h h' st k=>⟨by obtain⟨⟨old,h1⟩,_⟩:=st;exact⟨old,k e (by simp) _ h1⟩,st.2.at λo e=>k it (by simp) o e⟩
 item:=by
  intro X hP hw hK hc i bO s σ H E I hf st hg;subst hP hw hK;clear 5 hg xs x hq hx;clear 5(I.list hq)its rv p hz;clear 5(rv.get hx)u hu ru;obtain⟨⟨old,st1⟩,st2⟩:=st;refine wpAny_pyNext_enum_item st1 st2 p.isList (x:=u) (by simpa using hu) hne λh' so st2' hT hsz kk=>?_;refine⟨_,rfl,?_⟩;refine wpAny_letOwnedTupleGo_enum so λh2 st1' sb=>?_;have fe:=hf e (by simp);have fi:=hf it (by simp);have le:e<s.heap.objs.size:=up4 st1;have li:it<s.heap.objs.size:=by obtain⟨o,e1,_,_⟩:=st2;exact up4 e1
  have hfr:H s.heap.objs.size=none:=I.hok.fresh (uq9 _);have h2T:h2.get? s.heap.objs.size=some {cls:=.type "tuple",data:=.seq #[.int (i:Nat) s.toks,u]}:=(sb.2 _ (up8 le)).trans hT;have I1:Inv X bO σ (upd H s.heap.objs.size (.tup [.int (i:Nat),x])) {s with heap:=s.heap.push {cls:=.type "tuple",data:=.seq #[.int (i:Nat) s.toks,u]},toks:=s.toks}:=
   I.laid (t':=s.toks) (λb u e=>uc4 _ e) (uq9 _) ⟨by show 2<=sizeLine;decide,[.int (i:Nat) s.toks,u],.cons ⟨_,rfl⟩ (.cons ru .nil),⟨_,uf8 _ rfl,rfl,_,rfl⟩⟩
  have hup:∀b,b≠s.heap.objs.size->upd H s.heap.objs.size (.tup [.int (i:Nat),x]) b=H b:=λb hb=>Ar hb;have fp':∀b∈[e,it],FpOk X bO (upd H s.heap.objs.size (.tup [.int (i:Nat),x])) b:=λb hb=>by
   clear 5(hf b hb)g0 g1;refine⟨?_,g1⟩;rw[hup b ?_];exact g0;simp only[uo5,uk5,dU] at hb;rcases hb with rfl|rfl
   .exact up5 le
   .exact up5 li
  refine⟨.ref s.heap.objs.size,upd H s.heap.objs.size (.tup [.int (i:Nat),x]),?_,rfl,⟨_,x,rfl,hfr,λys hy=>by rw[I.list_inj hy hq];exact hx,rfl⟩,⟨⟨_,by simpa using st1'⟩,?_⟩,λb hb=>(fp' b hb).1⟩
  .have I2:=Inv.turnedL (h':=h2) (t':=s.toks + 1) [e,it] I1 fp' λb o hb eb=>(by
    simp only[uo5,uk5,dU,not_or] at hb;rcases Heap.get?_push_cases eb with⟨rfl,rfl⟩|eb'
    .exact h2T
    .exact(sb.2 b hb.1).trans (kk b o hb.1 hb.2 eb'))
   exact I2
  .exact st2'.at λo e1=>(sb.2 it (Ne.symm hne)).trans e1
 done:=by
  intro X hP hw hK hc i bO s σ H E I hf st hg;subst hP hw hK;clear 5 hg xs hq hx;clear 5(I.list hq)its rv p hz;obtain⟨⟨old,st1⟩,st2⟩:=st;have hl:=rv.length;refine wpAny_pyNext_enum_end (I.ok.hd hc) st1 st2 p.isList (by simp;lia) λh' eb=>⟨rfl,?_⟩;exact Inv.turnedL [e,it] (t':=s.toks) I hf λb o hb e1=>eb b o (λz=>hb (by simp[z])) e1
 self:=λ_ _ _ _ _ st h=>by obtain⟨⟨old,h1⟩,_⟩:=st;exact wpAny_pyIter_enum h1 h
def Yt(K:bN)(ta:TA):TI:=λσ H R=>ta σ H λvs H1=>∃a xs,vs=[.ref a]/\SqL K H1 a xs/\R (Ite K a) H1
theorem UQ{X:Cx}{e:Expr}{ta:TA}{elts:List Expr}{n:Nat}{tpos p pos:Pos}(hg:Gl X "enumerate")(hm:X.mg "enumerate" = none)(ha:PA X [e] ta)(hs:autoParam (starEach [e] X.env=[(false,eval e X.env)]) q3T) :
 PI X (.Tuple elts n tpos) (.Call (.Name "enumerate" p) [e] [] pos) (Yt X.K ta):=by
 intro bO s σ H R I h;refine Call_ (Gx I hg hm boot_enumerate (ua3 (thn (ha pos bO s σ H _ I h) λus s1 z9=>?_) hs rfl));clear 5 z9 vs H1 I1 r1 q1;clear 5 q1 a xs ev hq q;subst ev
 cases r1 with
 |cons r rr=>
   cases rr
   cases r
   clear 5(I1.list hq)its rv pl hz;refine call_enumerate_list pl.isList λh' e1 e2 e3 kk=>?_;refine wpAny_pyIter_enum e1 ?_;have hfp:∀b∈[s1.heap.objs.size+1,s1.heap.objs.size],FpOk X bO H1 b:=λb hb=>by
    have hb':s1.heap.objs.size<=b:=by
     simp only[uo5,uk5,dU] at hb;lia
    exact I1.fpOk hb' (I1.hok.fresh hb')
   exact⟨s1.heap.objs.size+1,[s1.heap.objs.size+1,s1.heap.objs.size],_,_,H1,rfl,I1.kept (t':=s1.toks) kk,PZ a (s1.heap.objs.size+1) s1.heap.objs.size (Nat.succ_ne_self _),⟨⟨_,e1⟩,e2⟩,hfp,q⟩
structure ItOk2(K:bN)(J:It)(c:Cf)(H:Hp)(ds:List D):Prop where
 go:∀c' H' (i:Nat),Ext c H c' H'->i<ds.length->J.go i H'
 yld:∀c' H' (i:Nat) x H'' d,Ext c H c' H'->ds[i]?=some d->J.yld i H' x H''->∃p vs es,x=.ref p/\H' p=none/\H''=upd H' p (.tup vs)/\d=.tup es/\Reps K c' H' vs es
 stop:∀c' H',Ext c H c' H'->J.stop ds.length H'
inductive RI2(K:bN)(f:M (List D))(σ:L2.St)(H:Hp)(R:It->Hp->Prop):Prop where
 |mk (Oo:bQ->Prop) (c:Cf) (t:T) (fi:FInv K Oo c t σ H) (ds:List D) (t':T) (e:f t=some (ds,t')) (k:∀J H' c',FInv K Oo c' t' σ H'->Stp Oo c H c' H'->ItOk2 K J c' H' ds->R J H'):RI2 K f σ H R
section
variable{K:bN}{f:M (List D)}
theorem RS.for2{μ:Cf->Hp->D->(V->Hp->Prop)->Prop}{g:D->M Unit}{b:M Out}{E:Ends}{σ:L2.St}{H:Hp}(q:RSg K μ (Ba f g b) E σ H):NP (RI2 K f) (RG K g) (RSg K μ b) E σ H:=by
 clear 5 q Oo c t fi o t' eq k;clear 5(Af eq)ds t1 e1 eq;refine⟨Oo,c,t,fi,ds,t1,e1,λJ H1 c1 f1 s1 it=>?_⟩;refine⟨λi m σ' H'=>m=ds.length-i/\i<=ds.length/\∃c' t2,FInv K Oo c' t2 σ' H'/\Stp Oo c1 H1 c' H'/\A1 g b (ds.drop i) t2=some (o,t'),⟨_,rfl,ur0 _,c1,t1,f1,.refl,by rw[uo0];exact eq⟩,?_⟩;rintro i m σ' H' ⟨rfl,hi,c',t2,f2,s2,e2⟩
 by_cases hlt:i<ds.length
 .refine .inr ⟨it.go c' H' i s2.ext hlt,λσ3 H3=>∃c3 t3,FInv K Oo c3 t3 σ3 H3/\Stp Oo c1 H1 c3 H3/\A1 g b (ds.drop (i+1)) t3=some (o,t'),λσ3 H3 h=>⟨ds.length-(i+1),by lia,rfl,hlt,h⟩,λx H'' hy=>?_⟩;clear 5(it.yld c' H' i x H'' _ s2.ext (ub5 hlt) hy)p vs es rfl hp rfl ed rx;rw[ub2 hlt,ed] at e2;unfold A1 at e2
  cases e3:g (.tup es) t2 with
  |none=>rw[e3] at e2;cases e2
  |some p3=>
    clear 5 p3 u t3;rw[e3] at e2
    try dsimp only at e2
    have s2':Stp Oo c1 H1 c' (upd H' p (.tup vs)):=s2.trans (f2.stp_laid hp);refine⟨Oo,c',t2,_,f2.laid hp,.tup AA (f2.s.free hp) (rx.mono (Ext.laid f2.s hp)),t3,e3,λσ3 H3 c3 f3 s3=>?_⟩
    cases e4:b t3 with
    |none=>rw[e4] at e2;cases e2
    |some p4=>
      clear 5 p4 o4 t4;rw[e4] at e2
      try dsimp only at e2
      refine⟨Oo,c3,t3,f3,o4,t4,e4,λσ5 H5 c5 f5 s5=>?_⟩;have s':=(s2'.trans s3).trans s5
      cases o4 with
      |next=>exact⟨c5,t4,f5,s',e2⟩
      |cont=>exact⟨c5,t4,f5,s',e2⟩
      |brk=>cases e2;exact k σ5 H5 c5 f5 (s1.trans s')
      |ret r=>cases e2;exact k σ5 H5 c5 f5 (s1.trans s')
 .have hi':i=ds.length:=by lia
  subst hi';rw[uk1] at e2
  cases e2
  exact .inl ⟨it.stop c' H' s2.ext,k σ' H' c' f2 (s1.trans s2)⟩
noncomputable def CI:Nat->List D->List D
 |_,[]=>[]
 |i,d::r=>.tup [.int (i:Nat),d]::CI (i+1) r
theorem Ge:∀(ds:List D) (i:Nat),(CI i ds).length=ds.length
 |[],_=>rfl
 |d::r,i=>by rw[CI,uj8,uj8,Ge r]
theorem JH:∀(ds:List D) (i j:Nat),(CI i ds)[j]?=(ds[j]?).map λd=>.tup [.int ((i+j:Nat):Int),d]
 |[],_,_=>by simp[CI]
 |d::r,i,0=>rfl
 |d::r,i,j+1=>by
   rw[CI,cy,cy,JH r (i+1) j]
   congr 1
   funext d
   rw[show i+1+j=i+(j+1) by lia]
def SH:List D->M (List D)
 |[.lst ds]=>ret (CI 0 ds)
 |_=>fail
def GZ(f:M (List D)):M (List D):=bnd f SH
theorem ItOk2.enum{c:Cf}{H:Hp}{p:bQ}{ds:List D}(r:∀c' H',Ext c H c' H'->∃vs,SqL K H' p vs/\Reps K c' H' vs ds):ItOk2 K (Ite K p) c H (CI 0 ds):=by
 refine⟨λc' H' i ex hi=>?_,λc' H' i x H'' d ex hd hy=>?_,λc' H' ex=>?_⟩
 .clear 5(r c' H' ex)vs h1 h2;rw[Ge] at hi;obtain⟨v,e,_⟩:=h2.at (ub5 hi);exact⟨vs,v,h1,e⟩
 .clear 5(r c' H' ex)vs h1 h2;clear 5 hy q v rfl hq hs rfl;have hv:=hs vs h1;rw[JH] at hd;clear 5(uc6.mp hd)d' e1 rfl;clear 5(h2.at e1)v' e2 rv;rw[hv] at e2
  cases e2
  rw[uq2];exact⟨q,_,_,rfl,hq,rfl,rfl,.cons (.int _) (.cons rv .nil)⟩
 .clear 5(r c' H' ex)vs h1 h2;exact⟨vs,h1,by rw[Ge,h2.length];exact uq9 _⟩
section
variable{X:Cx}{pos:Pos}{e:Expr}
theorem T7{μ:Cf->Hp->D->(V->Hp->Prop)->Prop}{tg iter:Expr}{body:List Stmt}{g:D->M Unit}{b:M Out}(hp:PassesOwn (model X.prog X.w) X.A X.env X.xe)(hc:X.calm=true)(hi:PI X tg iter (RI2 X.K f))(hg:PG X tg (RG X.K g))(hb:PSs X body (RSg X.K μ b))
 (hs:autoParam (∀x,foldedSetIterable iter X.env x=pure x) q2T):PS X (.For tg iter body [] pos) (RSg X.K μ (Ba f g b)):=
 B3 (Lg hp hc hi hg hb hs) λ_ _ _ q=>RS.for2 q
set_option tactic.hygienic true in
theorem TX{elts:List Expr}{n:Nat}{tpos p:Pos}(hg:Gl X "enumerate")(hm:X.mg "enumerate" = none)(ha:PA X [e] (RA X.K f))(h1:autoParam (Bn e=false) q3T):PI X (.Tuple elts n tpos) (.Call (.Name "enumerate" p) [e] [] pos) (RI2 X.K (GZ f)):=
 HW (UQ hg hm ha (A6 h1)) λσ H R z9=>by
  clear 5 z9 Oo c t fi ds t' eq k;clear 5(Af eq)xs t1 e1 eq;refine⟨Oo,c,t,fi,xs,t1,e1,λvs H1 c1 f1 s1 rv=>?_⟩;unfold SH at eq
  split at eq
  .next es=>
   cases eq
   cases rv with
   |cons r rs=>
     cases rs
     obtain⟨a,ws,rfl,g1,g2,g3⟩:=r.rv
     exact⟨a,ws,rfl,SqL.of g1,k _ H1 c1 f1 s1 (ItOk2.enum λc' H' ex=>⟨ws,SqL.of (ex.keep _ _ g1 g2),g3.mono ex⟩)⟩
  .cases eq
end
def Li:D->D->M (List D)
 |.lst xs,.int k=>λt=>if small k=true/\xs.length*k.toNat<=LIM then some ((List.replicate k.toNat xs).flatten,t) else none
 |_,_=>fail
set_option tactic.hygienic true in
theorem RU:M4 K Rn Li:=λ{Oo c t σ H x y dx dy r t' Q} f rx ry eq k=>by
 cases rx with
 |@lst a vs ds h1 h2 h3=>
   cases ry with
   |int j=>
     unfold Li at eq;dsimp only at eq
     split at eq
     .next h=>
      cases eq
      clear 5(CU h.1)g1 g2;exact⟨a,j,vs,rfl,rfl,h1,by lia,by lia,by rw[h3.length];exact up6 h.2 BM,λp hp=>k p _ H c f .refl (h3.rep _) hp⟩
     .cases eq
   |_=>cases eq
 |_=>cases eq
end
section
variable{X:Cx}
theorem Ol:Bs X (.type "range") (λxs H Q=>∃b,xs=[.int b]/\∀p t u v,H p=none->Q (.ref p) (upd H p (.frz (NK 0 b 1 t u v) (.own p)))):=by
 intro bO s σ H xs us Q I r h;clear 5 h b rfl q
 cases r with
 |cons r1 r=>
 cases r
 clear 5 r1 t rfl;refine call_range_1 ⟨.ref s.heap.objs.size,_,I.laid (a:=s.heap.objs.size) (o:=.frz (NK 0 b 1 s.toks t (s.toks+1)) (.own s.heap.objs.size)) (t':=s.toks+1+1) (λ_ _ q=>uc4 _ q) (uq9 _) ?_,rfl,q _ s.toks t (s.toks+1) (I.hok.fresh (uq9 _))⟩;exact⟨uf8 _ rfl,⟨_,uf8 _ rfl⟩⟩
end
def Iz:List D->M (List D)
 |[.int b]=>Ka [.int 0,.int b,.int 1]
 |_=>fail
section
variable{X:Cx}{pos:Pos}{e:Expr}{es:List Expr}
set_option tactic.hygienic true in
theorem Nk{f:M (List D)}{p p2 pos2:Pos}(hc:X.calm=true)(hgl:Gl X "list")(hml:X.mg "list" = none)(hgr:Gl X "range")(hmr:X.mg "range" = none)(ha:PA X (e::es) (RA X.K f))(h1:autoParam (Bn e=false) q3T)(h2:autoParam (Bi es=true) q3T) :
 PE X (.Call (.Name "list" p) [.Call (.Name "range" p2) (e::es) [] pos2] [] pos) (RF X.K (fBF f Iz)):=
 Az (DS (Oi hc) hgl hml (by decide +kernel) (Ji (DS Ol hgr hmr (by decide +kernel) ha (by decide) (by decide) (A6 h1) (AX h2).1) K8 (A6 rfl)) (by decide) (by decide) (A6 rfl) rfl) λσ H Q z9=>by
  clear 5 z9 Oo c t fi ds t' eq k;clear 5(Af eq)as t1 e1 eq;unfold Iz Ka at eq
  split at eq
  .next b=>
   dsimp only at eq
   split at eq
   .next hh=>
    cases eq
    clear 5 hh h0 hc1 ha1 hb1 hn;refine⟨Oo,c,t,fi,_,_,e1,λvs H1 c1 f1 s1 rv=>?_⟩
    cases rv with
    |cons r1 rv=>
    cases rv
    cases r1
    refine⟨b,rfl,λq tt uu vv hq=>?_⟩;refine⟨q,0,b,1,tt,uu,vv,rfl,AA,LS h0 hc1 ha1 hb1,h0,hn,λl hl=>?_⟩;exact k l _ _ c1 (f1.laid hq) (s1.trans (f1.stp_laid hq)) (Reps.rng (λi=>0+i*1) _) hl
   .cases eq
  .cases eq
end
section
variable{X:Cx}{e ek:Expr}{p2 pos:Pos}{te:TE}{tk:TO}
end
section
variable{X:Cx}
end
section
variable{X:Cx}
theorem Og(hc:X.calm=true):Bs X (.builtin "all") (λxs H Q=>∃(p:bQ) (bs:List Bool),xs=[.ref p]/\SqL X.K H p (bs.map V.bl)/\Q (.bl (bs.all id)) H):=by
 intro bO s σ H xs us Q I r h;clear 5 h p bs rfl hq q;clear 5(Dx r)u rfl rx
 cases rx
 clear 5(I.list hq)its rv pl hz;have hl:=rv.length;rw[um6] at hl;have hlist:=pl.isList;have lp:p<s.heap.objs.size:=by obtain⟨o,ho,_⟩:=hlist;exact up4 ho
 refine call_all_walkS (cW hlist ?_);refine⟨s.heap.objs.size,_,_,_,_,_,_,λi=>bs.getD i true,rfl,(Walks.list (by simp[I.ok.hd hc]) s.heap.objs.size p (up5 lp) its.toArray).toS,⟨⟨_,uf8 _ rfl,rfl,rfl⟩,hlist.push _⟩,?_,?_⟩
 .intro i v s2 Q2 E2 e hQ;have e':its[i]?=some v:=by simpa using e
  obtain⟨hi,_⟩:=ub0.mp e';have hy:(bs.map V.bl)[i]?=some (.bl (bs.getD i true)):=by
   rw[uh6,ua7,ub5 ∅];rfl
  clear 5(rv.get hy)w' ew rw';rw[e'] at ew;cases ew
  cases rw'
  exact cT hQ
 .intro s' mv;clear 5 s' h' g' d' tk' os';obtain rfl:g'=s.gens:=mv.gens;obtain rfl:d'=s.drawn:=mv.drawn;obtain rfl:os'=s.os:=mv.os;have e:(List.range its.toArray.size).all (λi=>bs.getD i true)=bs.all id:=by
   rw[uh5,<-hl];clear q hq rv hl hz;rw[un3,uk3,uk3];constructor
   .intro h b hb;clear 5(ue7.mp hb)i hi rfl;have:=h i (un8.mpr hi);rw[ua7,ub5 hi] at this;exact this
   .intro h i hi;rw[un8] at hi;rw[ua7,ub5 hi];exact h _ (uk6 hi)
  refine⟨.bl (bs.all id),H,I.kept (t':=tk') λb o e=>?_,by rw[e];rfl,q⟩;have lb:=up4 e;exact mv.heap b o (by simp only[uo5,uk5,dU];exact up5 lb) (uc4 _ e)
end
def FJ:List D->Option (List Bool)
 |[]=>some []
 |.bl b::r=>(FJ r).map (b :: ·)
 |_=>none
theorem Mb{K:bN}{c:Cf}{H:Hp}:∀{ds:List D}{vs:List V}{bs:List Bool},Reps K c H vs ds->FJ ds=some bs->vs=bs.map V.bl
 |[],_,bs,r,e=>by cases r;cases e;rfl
 |d::ds,_,bs,r,e=>by
   cases r with
   |cons r1 r2=>
     cases r1 with
     |bl b=>
       rw[FJ] at e;clear 5(uc6.mp e)bs' e1 rfl;rw[uo6,Mb r2 e1]
     |_=>cases e
def Hs:List D->M D
 |[.lst ds]=>λt=>match FJ ds with
   |some bs=>some (.bl (bs.all id),t)
   |none=>none
 |_=>fail
set_option tactic.hygienic true in
theorem RK{K:bN}:DU K (λxs H Q=>∃(p:bQ) (bs:List Bool),xs=[.ref p]/\SqL K H p (bs.map V.bl)/\Q (.bl (bs.all id)) H) Hs:=λ{Oo c t σ H xs ds r t' Q} f rx eq k=>by
 unfold Hs at eq
 split at eq
 .next es=>
  split at eq
  .next bs e=>
   cases eq
   clear 5(Ds rx)v rfl rv
   obtain⟨a,ws,rfl,g1,g2,g3⟩:=rv.rv
   have:=Mb g3 e;subst this;exact⟨a,bs,rfl,SqL.of g1,k _ H c f .refl (.bl _)⟩
  .cases eq
 .cases eq
theorem Wa:bootBuiltins "all" = some (.builtin "all"):=by decide +kernel
section
variable{X:Cx}{pos:Pos}
end
theorem J2{x y:Int}(h0:0<y)(h1:y<18446744073709551616):Builtin.divisionGoesByPylong x y=false:=by
 unfold Builtin.divisionGoesByPylong;have hl:y.natAbs.log2<64:=(Nat.log2_lt ∅).mpr (by show y.natAbs<2 ^ 64;lia);have e:(y==0)=false:=by rw[cL];lia
 simp only[e,ug8,dR];rw[Bool.and_eq_false_iff];left;rw[decide_eq_false_iff_not];lia
def Ss(i j:Int):Prop:=0<j/\j<18446744073709551616
section
variable{X:Cx}
set_option tactic.hygienic true in
theorem JC{i:Int}(h:i.natAbs<2 ^ 512):Builtin.Int.intBits i<=2 ^ 20:=by
 unfold Builtin.Int.intBits
 split
 .exact ur0 _
 .next z=>
  have hz:i.natAbs≠0:=by
   intro e;have:i=0:=by lia
   subst this;exact z rfl
  have:=(Nat.log2_lt hz).mpr h;lia
def Su(i j:Int):Prop:=i.natAbs<2 ^ 512/\j.natAbs<2 ^ 512
theorem UH:OpR X (binaryOp .Mult) (rI Su λi j=>.int (i*j)):=opI λ_ _ _ _ _ _ _ hc q=>mul_int q (IntMulOk.of_bits (JC hc.1) (JC hc.2))
theorem Q5:OpR X (binaryOp .FloorDiv) (rI Ss λi j=>.int (i/j)):=opI λi j _ _ _ _ _ hc q=>by
 have h1:(0:Int)<j:=hc.1;exact floordiv_int ∅ (by rw[bW i ∅];exact q) (.inl (J2 hc.1 hc.2))
end
noncomputable def KB(i j:Int):Bool:=decide (0<j)&&decide (j<18446744073709551616)
def G1:=i2C KB λi j=>.int (i/j)
theorem PB{K:bN}:Bh K (rI Ss λi j=>.int (i/j)) G1:=Fs (λi j h=>by
 unfold KB at h;rw[uj7,uj2,uj2] at h;exact h) λ_ _ _ _=>.int _
noncomputable def KS(i j:Int):Bool:=decide (i.natAbs<2 ^ 512)&&decide (j.natAbs<2 ^ 512)
def HD:=i2C KS λi j=>.int (i*j)
theorem RQ{K:bN}:Bh K (rI Su λi j=>.int (i*j)) HD:=Fs (λi j h=>by
 unfold KS at h;rw[uj7] at h;exact⟨uj3 h.1,uj3 h.2⟩) λ_ _ _ _=>.int _
section
variable{X:Cx}
end
def Hw(n:Int):List Int->List Int
 |[]=>[n]
 |m::r=>if n<=m then n::m::r else m::Hw n r
def Du:List Int->List Int
 |[]=>[]
 |n::r=>Hw n (Du r)
theorem Gu(n:Int):∀l:List Int,(Hw n l).Perm (n::l)
 |[]=>.refl _
 |m::r=>by
   rw[Hw]
   split
   .exact .refl _
   .exact((Gu n r).cons m).trans (.swap n m r)
theorem DT:∀l:List Int,(Du l).Perm l
 |[]=>.refl _
 |n::r=>(Gu n _).trans ((DT r).cons n)
set_option tactic.hygienic true in
theorem KH(n:Int):∀l:List Int,l.Pairwise (·<=·)->(Hw n l).Pairwise (·<=·)
 |[],_=>by simp[Hw]
 |m::r,h=>by
   rw[uh0] at h;rw[Hw]
   split
   .next z=>
    rw[uh0,uh0];refine⟨λa ha=>?_,h.1,h.2⟩;rcases uo5.mp ha with rfl|ha
    .exact z
    .exact Int.le_trans z (h.1 a ha)
   .next z=>
    rw[uh0];refine⟨λa ha=>?_,KH n r h.2⟩;rcases uo5.mp ((Gu n r).mem_iff.mp ha) with rfl|ha
    .lia
    .exact h.1 a ha
theorem HL:∀l:List Int,(Du l).Pairwise (·<=·)
 |[]=>.nil
 |n::r=>KH n _ (HL r)
theorem Jp:∀{a b:List Int},a.Perm b->a.Pairwise (·<=·)->b.Pairwise (·<=·)->a=b
 |[],b,p,_,_=>p.nil_eq
 |x::a,[],p,_,_=>absurd p.length_eq (by simp)
 |x::a,y::b,p,h1,h2=>by
   rw[uh0] at h1 h2;have e:x=y:=by
    rcases uo5.mp (p.mem_iff.mp ug5) with e|m1
    .exact e
    .rcases uo5.mp (p.mem_iff.mpr ug5) with e|m2
     .exact e.symm
     .exact Int.le_antisymm (h1.1 y m2) (h2.1 x m1)
   subst e;rw[Jp ((List.perm_cons x).mp p) h1.2 h2.2]
section
variable{X:Cx}
theorem Nd:Bs X (.builtin "sorted") (λxs H Q=>∃(p:bQ) (ns:List Int),xs=[.ref p]/\SqL X.K H p (ns.map V.int)/\ns.length<64/\∀l,H l=none->Q (.ref l) (upd H l (.lst ((Du ns).map V.int)))):=by
 intro bO s σ H xs us Q I r h;clear 5 h p ns rfl hq h64 q;clear 5(Dx r)u rfl rx
 cases rx
 clear 5(I.list hq)its rv pl hz;have hl:=rv.length;rw[um6] at hl;refine sorted_ints pl.isList (Ir rv) ∅ λout ns' a1 a2 a3=>?_;clear 5(sortedAll_at s.heap its out)e he;have es:ns'=Du ns:=Jp (a2.trans (DT ns).symm) a3 (HL ns);subst es;have hlen:(Du ns).length=ns.length:=(DT ns).length_eq;refine⟨.ref (s.heap.objs.size+1),_,I.laid (t':=s.toks) (λb o e=>sortedAll_old e) (ur1 _) (show ObjOk X.prog X.w _ _ _ (.lst ((Du ns).map V.int)) from⟨?_,out.toList,e,GL a1,he⟩),rfl,q _ (I.hok.fresh (ur1 _))⟩;rw[um6,hlen];rw[um6] at hz;exact hz
end
section
variable{X:Cx}
end
def Hc:List D->M (List D)
 |[.lst ds]=>λt=>match CA ds with
   |some ns=>if ns.length<64 then some ((Du ns).map D.int,t) else none
   |none=>none
 |_=>fail
set_option tactic.hygienic true in
theorem PC{K:bN}:FE K (λxs H Q=>∃(p:bQ) (ns:List Int),xs=[.ref p]/\SqL K H p (ns.map V.int)/\ns.length<64/\∀l,H l=none->Q (.ref l) (upd H l (.lst ((Du ns).map V.int)))) Hc:=λ{Oo c t σ H xs ds r t' Q} f rx eq k=>by
 unfold Hc at eq
 split at eq
 .next es=>
  split at eq
  .next ns e=>
   split at eq
   .next h64=>
    cases eq
    clear 5(Ds rx)v rfl rv
    obtain⟨a,ws,rfl,g1,g2,g3⟩:=rv.rv
    have:=Hx g3 e;subst this;exact⟨a,ns,rfl,SqL.of g1,h64,λq hq=>k q _ H c f .refl (Reps.ints _) hq⟩
   .cases eq
  .cases eq
 .cases eq
section
variable{X:Cx}{pos:Pos}{e:Expr}{es:List Expr}
theorem SM{id:String}{R:List V->Hp->VK->Prop}{h:List D->M (List D)}{f:M (List D)}{x:Str}{p:Pos}(hc:Bs X (.builtin id) R)(s:FE X.K R h)(hg:Gl X x)(hm:X.mg x=none)(hv:bootBuiltins x=some (.builtin id))(ha:PA X (e::es) (RA X.K f))(hn:autoParam (x≠"__name__") q1T)(hdb:autoParam ((x==("__debug__":Str))=false) q1T)
 (h1:autoParam (Bn e=false) q3T) (h2:autoParam (Bi es=true) q3T):PE X (.Call (.Name x p) (e::es) [] pos) (RF X.K (fBF f h)):=
 Az (HF hc hg hm hv ha hn hdb (A6 h1) (AX h2).1) λ_ _ _ q=>RF.callB s q
end
section
variable{X:Cx}
end
def G0:List (Int×M D)->M (List (Key×D))
 |[]=>ret []
 |(k,f)::r=>bnd f λd=>bnd (G0 r) λps=>ret ((.inl k,d)::ps)
def C8(l:List (Int×M D)):M D:=λt=>bnd (G0 l) (Ef t.S.length) {t with S:=t.S++[.dct []]}
section
variable{K:bN}{c:Cf}{H:Hp}
end
section
variable{X:Cx}{pos:Pos}{e b:Expr}
theorem Oy:PE X (.Dict [] [] pos) (RE X.K (C8 [])):=
 Az Rc λσ H Q z9=>by
  clear 5 z9 Oo c t fi r t' eq k;intro p hp;obtain⟨c1,f1,s1,e1⟩:=fi.newObj (o:=.dct []) (u:=.dK []) hp λc' H' ex hu=>⟨[],hu,.nil⟩;have e2:C8 [] t=some (.obj t.S.length,{t with S:=t.S++[.dct []]}):=by
   simp[C8,G0,bnd,L2.ret,Ef,Fh]
  rw[e2] at eq
  cases eq
  exact k _ _ c1 f1 s1 (.obj e1)
end
noncomputable def tb(led:Bool)(pl:List Nat):SetTable:={mask:=7,place:=pl.toArray,dummies:=#[],finger:=0,led:=led,moves:=0,plain:=true}
noncomputable def pls:Nat->List (List Nat)
 |0=>[[]]
 |k+1=>(pls k).flatMap λl=>(List.range 8).filterMap λj=>if l.all (· < j) then some (l++[j]) else none
section
variable{P:bS}{w:bT}{A:Around}{E:bP->bR->Prop}{s:bR}
end
section
variable{P:bS}{w:bT}{A:Around}{I:bQ}{fp wr:List bQ}{G:Array GenState->Array GenState->Prop}{n:Nat}{Pr:Nat->bP->Prop}{St:Nat->bR->Prop}
end
section
variable{P:bS}{w:bT}{A:Around}{E:bP->bR->Prop}{s:bR}
end
section
variable{prog:bS}{w:bT}{A:Around}
end
section
variable{X:Cx}
end
section
variable{X:Cx}{pos:Pos}{e:Expr}
end
section
variable{P:bS}{w:bT}{A:Around}{E:bP->bR->Prop}{s:bR}
structure ZT(h:Heap)(z TI TO i1 i2 t1 t2:bQ)(n:Nat):Prop where
 zz:IsZip h z TI TO .none
 ti:IsPair h TI (.ref i1) (.ref i2)
 ot:∃a b,IsPair h TO a b
 p1:h.IsTupleIter i1 t1 n
 p2:h.IsTupleIter i2 t2 n
end
section
variable{P:bS}{w:bT}{A:Around}{E:bP->bR->Prop}{s:bR}
end
section
variable{X:Cx}{e a b tg iter elt:Expr}{ifs:List Expr}{pos:Pos}{scope:Scope}{N':List Str}{n:Nat}{fr:List Nat}{f:M (List D)}{st:D->M Unit}{tst:M Bool}{el:M D}
def Dz(i:Nat):M D:=λt=>match t.env[i]? with
 |some (some (.own xs))=>some (.int xs.length,t)
 |_=>none
set_option tactic.hygienic true in
theorem Oz(i:Nat){x:Str}{p px:Pos}(hg:Gl X "len")(hm:X.mg "len" = none)(hv:bootBuiltins "len" = some (.builtin "len"))(hN:autoParam (X.N[i]?=some x) q3T)(hvi:autoParam (Vis X.env.scope x) q0T)(hd:autoParam ((x==("__debug__":Str))=false) q1T)
 (hcd:autoParam ((x==("__classdict__":Str))=false) q1T):PE X (.Call (.Name "len" p) [.Name x px] [] pos) (RE X.K (Dz i)):=
 Az (HF Ku hg hm hv (Ji (Fl hN hvi hd hcd) K8 (A6 (e:=.Name x px) rfl)) (by decide) (by decide) (A6 (e:=.Name x px) rfl) (AX (es:=[]) (by simp[Bi])).1) λσ H Q z9=>by
  clear 5 z9 Oo c t fi r t' eq k;unfold Dz at eq
  split at eq
  .next xs0 e0=>
   cases eq
   clear 5(fi.own i xs0 e0)a vs0 q1 q2 q3 q4 q5;refine⟨.ref a,q1,?_⟩;refine⟨a,vs0,rfl,.inl (SqL.of q4),?_⟩;have h:=k (.int xs0.length) H c fi .refl (.int _);rw[<-q5.length] at h;exact h
  .cases eq
end
def DH(S:List Ob):D->D
 |.tup ds=>.tup (ds.map (BQ S))
 |d=>BQ S d
theorem JR{K:bN}{c:Cf}{S:List Ob}{H:Hp}(s:SInv K c S H):∀{vs:List V}{ds:List D},Reps K c H vs ds->DF (ds.map (BQ S))=true->Reps K c0 H vs (ds.map (BQ S))
 |_,_,.nil,_=>.nil
 |_,_,.cons h t,p=>by
   simp only[uo6,DF,uj7] at p;exact .cons (A3 s h p.1) (JR s t p.2)
section
variable{K:bN}
theorem Lj{c:Cf}{S:List Ob}{H:Hp}{v:V}{d:D}(s:SInv K c S H)(r:Rep K c H v d)(p:Bg (DH S d)=true):Rep K c0 H v (DH S d):=by
 cases r with
 |tup h n q=>exact .tup h (IX _) (JR s q (by simpa[DH,Bg] using p))
 |@obj a k hk=>exact A3 s (.obj hk) p
 |non=>exact A3 s .non p
 |bl b=>exact A3 s (.bl b) p
 |int b=>exact A3 s (.int b) p
 |str b=>exact A3 s (.str b) p
 |ty b=>exact A3 s (.ty b) p
 |lst h n q=>exact A3 s (.lst h n q) p
 |scr h=>exact A3 s (.scr h) p
 |dic h n=>exact A3 s (.dic h n) p
 |exc a b n f q=>exact A3 s (.exc a b n f q) p
def eqT(g:Bool->Bool)(x y:D):M D:=λt=>if (Bg (DH t.S x)&&Bg (DH t.S y))=true then(eqN EQD (DH t.S x) (DH t.S y)).map λb=>(.bl (g b),t) else none
set_option tactic.hygienic true
theorem MI{g:Bool->Bool}:Bh K (NH K g) (eqT g):=λ{Oo c t σ H x y dx dy r t' Q} f rx ry eq k=>by
 unfold eqT at eq
 split at eq
 .next hp=>
  rw[uj7] at hp;clear 5(uc6.mp eq)b e1 e2
  cases e2
  exact⟨c0,_,_,b,Lj f.s rx hp.1,Lj f.s ry hp.2,e1,k _ H c f .refl (.bl (g b))⟩
 .cases eq
def Hy:List D->M D
 |[.obj k,.ty m]=>λt=>match t.S[k]? with
   |some (.lst _)=>(Eu "list" m).map λb=>(.bl b,t)
   |_=>none
 |ds=>CP ds
theorem RM:DU K (Rm K) Hy:=λ{Oo c t σ H xs ds r t' Q} f rx eq k=>by
 unfold Hy at eq
 split at eq
 .next n m=>
  clear 5(NJ rx)v u rfl rv ru
  cases ru
  obtain⟨a,rfl,hk⟩:=rv.rv
  split at eq
  .next ds es=>
   clear 5(uc6.mp eq)b e1 e2
   cases e2
   clear 5(f.s.obs _ a _ hk es)us g1 g2;exact⟨.ref a,m,.type "list",b,rfl,.lst g1,Mq (d:=.lst []) rfl e1,k _ H c f .refl (.bl b)⟩
  .cases eq
 .exact MK f rx eq k
section
variable{X:Cx}{elt:Expr}{pos:Pos}{e:Expr}{es:List Expr}
end
end
section
variable{X:Cx}{bO:List (bQ×Obj)}{σ:St}{H:Hp}{s:bR}{a:bQ}{kvs:List (Key×V)}{o:Obj}
end
section
variable{X:Cx}
end
section
variable{X:Cx}
end
open SeqAt
def E9(K:bN)(H:Hp)(v w:V):Prop:=∃c dv dw,Rep K c H v dv/\Rep K c H w dw/\eqN EQD dv dw=some true
theorem Qe:∀n:Nat,(List.range n).all (λ_=>true)=true:=λn=>by simp
def alike1(S:List Ob)(x y:D):Bool:=Bg (BQ S x)&&Bg (BQ S y)&&decide (eqN EQD (BQ S x) (BQ S y)=some true)
theorem alike1.to{K:bN}{c:Cf}{S:List Ob}{H:Hp}(s:SInv K c S H){v w:V}{x y:D}(rx:Rep K c H v x)(ry:Rep K c H w y)(h:alike1 S x y=true):E9 K H v w:=by
 unfold alike1 at h;rw[uj7,uj7] at h;exact⟨c0,_,_,A3 s rx h.1.1,A3 s ry h.1.2,uj3 h.2⟩
theorem KVR.allK{K:bN}{c:Cf}{H:Hp}{us:List (Key×V)}{kvs:List (Key×D)}(r:KVR K c H us kvs):∀kv∈us,∃q∈kvs,kv.1=q.1/\Rep K c H kv.2 q.2:=by
 unfold KVR at r
 induction r with
 |nil=>intro kv h;cases h
 |@cons p q ps qs h _ ih=>
   intro kv hk;rcases uo5.mp hk with rfl|hk
   .exact⟨q,ug5,h⟩
   .clear 5(ih kv hk)q' m z;exact⟨q',ue3 _ m,z⟩
section
variable{X:Cx}{pos:Pos}
end
structure ZL(h:Heap)(z TI TO i1 i2 t1 t2:bQ)(n:Nat):Prop where
 zz:IsZip h z TI TO .none
 ti:IsPair h TI (.ref i1) (.ref i2)
 ot:∃a b,IsPair h TO a b
 p1:h.IsListIter i1 t1 n
 p2:h.IsListIter i2 t2 n
section
variable{X:Cx}{a b:Expr}{pos:Pos}
end
open PySem.W
section
variable{prog:bS}{w:bT}{A:Around}{h:Heap}{g:Array GenState}{d:Drawn}{t:Nat}{os:OsState}{R:Result->bR->Prop}
variable{nm q:Str}{C N fI:bQ}{bs bm bmB:List bP}{hdct:Bool}{sn:List Str}{sub:List bP}{ab:Bool}{col:Option Bool}{dd:Option bQ}{k0 k1 k2 k3 k5:Option bP}{B newId initId:String}{mN:Str->Option bP}
end
open PySem.Builtin PySem.Builtin.ObjectAttr
section
variable{prog:bS}{w:bT}{A:Around}{s:bR}{K:bN}{x C P tp:bQ}{R:Result->bR->Prop}{name:Str}{v:bP}{tk:Tok}{cd:ClassData}
end
section
variable{qx:Bool}
def V8(qx:Bool)(h:Heap)(x C:bQ)(dx:Option bQ)(tb:bP):Prop:=∃(o:Obj) (vs:Array bP),h.get? x=some o/\o.cls=.ref C/\o.dict=dx/\o.data=.fields vs/\vs[1]?=some tb/\(qx=true->vs[2]?=some .none/\4<vs.size)
structure XKeep(fs ch:List bQ)(h h':Heap):Prop where
 keep:∀b o,b∉ch->b∉fs->h.get? b=some o->h'.get? b=some o
 slot:∀b o,b∉ch->h.get? b=some o->∃sl,h'.get? b=some {o with slots:=sl}
section
variable{M:Model}{A:Around}{E:bP->bR->Prop}{s:bR}{env:Env}{outer:List Env}{base:Heap}{L x C:bQ}{dx:Option bQ}{tb:bP}{Q:Unit->bR->Prop}
end
end
section
variable{qx:Bool}
abbrev VE:List bP:=[.type "ValueError",.type "Exception",.type "BaseException",.type "object"]
structure XCl(K:bN)(C:bQ)(bm:List bP):Prop where
 ex:∃cd dd k0 k1 k2 k3 k5,K.lookup C=some {cls:=.type "type",dict:=dd,data:=.cls cd,slots:=#[k0,k1,k2,k3,some (.builtin "ValueError.__new__"),k5]}/\cd.mro=.ref C::bm/\cd.hasDel=false/\cd.hasDict=true/\nsOkIn K cd.ns=true
 tl:tailIn K VE bm=true
section
variable{M:Model}{A:Around}{E:bP->bR->Prop}{env:Env}{K:bN}{C:bQ}{bm:List bP}{s:bR}
end
section
variable{X:Cx}{bO:List (bQ×Obj)}{σ:St}{H H':Hp}{s s':bR}{h':Heap}{x C T:bQ}{dx:Option bQ}{ch:List bQ}
end
section
variable{P:bS}{w:bT}{K:bN}{mg:Str->Option bP}{base:Heap}{N:List Str}{qual:Str}{scope:Scope}{f:bQ}{cd:bP}{A:Around}{outer:List Env}{s₀:bR}{H₀:Hp}{E:XK}
end
end
structure XAt(K:bN)(C P:bQ)(f:Str):Prop where
 cl:XCl K C (.ref P::VE)
 set:findIn K (.ref C) "__setattr__" = some (some (.builtin "object.__setattr__"))
 no:findIn K (.ref C) f=some none
section
variable{qx:Bool}
structure XMk(K:bN)(C P f:bQ):Prop where
 cl:XCl K C (.ref P::VE)
 init:∃cd,clsIn K C=some cd/\nsIn K cd.ns "__init__" = some (some (.ref f))
 fn:isFn K (.ref f)=true
 kp:keepIn K (.ref C)=true
section
variable{X:Cx}{k:Nat}{f C P:bQ}{fd:bU}{bO:List (bQ×Obj)}{σ:St}{H:Hp}{s:bR}{Q:bP->bR->Prop}{us:List bP}{vs:List V}{a:Str}{ps:List Str}{v:V}{u:bP}
end
end
section
variable{qx:Bool}
section
variable{M:Model}{A:Around}{E:bP->bR->Prop}{K:bN}{s:bR}{x C C':bQ}{bm bm':List bP}{dx:Option bQ}{tb:bP}
end
end
section
variable{qx:Bool}
def Zt(h:Heap)(T:bQ)(fl:bP):Prop:=∃(o:Obj) (ts:Array bP),h.get? T=some o/\o.data=.fields ts/\ts[3]?=some fl
section
variable{M:Model}{A:Around}{E:bP->bR->Prop}{s:bR}{env:Env}{outer:List Env}{base:Heap}{L x C:bQ}{dx:Option bQ}{tb:bP}{Q:Unit->bR->Prop}
end
structure XOn(qx:Bool)(X:Cx)(bO:List (bQ×Obj))(H:Hp)(s:bR)(x C:bQ)(dx:Option bQ)(T:Option bQ)(fl:bP):Prop where
 hx:H x=some (.ext (L2.XIs qx x C dx))
 nx:X.s₀.heap.objs.size<=x
 rc:V8 qx s.heap x C dx (match T with|some a=>.ref a|none=>.none)
 tb:∀a,T=some a->a≠x/\H a=none/\X.s₀.heap.objs.size<=a/\(a≠X.env.locals/\(∀y c,X.env.cells.lookup y=some c->c≠a)/\∀p∈X.pn++bO,p.1≠a)/\Zt s.heap a fl
 fo:fl=.none\/fl=rawInt X.env.locals
section
variable{M:Model}{A:Around}{Er:bP->bR->Prop}{X:Cx}{bO:List (bQ×Obj)}{σ:St}{H:Hp}{s:bR}{x C:bQ}{dx T:Option bQ}{fl:bP}{Q:Unit->bR->Prop}
end
section
variable{M:Model}{X:Cx}{E:St->XK}
end
section
variable{P:bS}{w:bT}{K:bN}{mg:Str->Option bP}{base:Heap}
end
section
variable{X:Cx}{CX:CXT}{k:Nat}{f:bQ}{fd:bU}{ps:List Str}{sp:Sp}{E:St->XK}{x:Str}{p pos:Pos}{e:Expr}{es:List Expr}{t:TA}
end
end
section
variable{qx:Bool}
section
variable{prog:bS}{w:bT}{A:Around}{E:bP->bR->Prop}{h:Heap}{g:Array GenState}{d:Drawn}{t:Nat}{os:OsState}{Q:bP->bR->Prop}
variable{nm q:Str}{C N:bQ}{bs bm bmB:List bP}{hdct:Bool}{sn:List Str}{sub:List bP}{ab:Bool}{col:Option Bool}{dd:Option bQ}{k0 k1 k2 k3 k5:Option bP}{B newId initId:String}{mN:Str->Option bP}
end
section
variable{X:Cx}{k:Nat}{f C P:bQ}{fd:bU}{a:Str}{ps:List Str}{n:Str}{p pos:Pos}{e:Expr}{es:List Expr}
end
end
section
variable{qx:Bool}
section
variable{X:Cx}{bO:List (bQ×Obj)}{σ:St}{H:Hp}{s:bR}{D:Ends}
end
section
variable{X:Cx}{n v:Str}{C':bQ}{bm':List bP}{p pos:Pos}{b₀:Stmt}{suite:List Stmt}{rest:List ExceptHandler}{ts:bQ->TS}{tr:bQ->bQ->Option bQ->TS}{i:Nat}
end
end
section
variable{qx:Bool}
noncomputable def DN:D->Bool
 |.exc _ _=>true
 |_=>false
def exE(E:XK)(v:V)(H:Hp):Prop:=∀x dx,v=.ref x->E (.ref x) dx H
section
variable(K:bN)
inductive RX(E:L2.St->XK)(f:M D)(σ:L2.St)(H:Hp)(Q:VK):Prop where
 |mk (Oo:bQ->Prop) (c:Cf) (t:T) (fi:FInv K Oo c t σ H) (r:D) (t':T) (e:f t=some (r,t')) (k:∀v H' c',FInv K Oo c' t' σ H'->Stp Oo c H c' H'->Rep K c' H' v r->if DN r=true then exE (E σ) v H' else Q v H'):RX E f σ H Q
inductive RSX(E:L2.St->XK)(f:M Out)(D:Ends)(σ:L2.St)(H:Hp):Prop where
 |mk (Oo:bQ->Prop) (c:Cf) (t:T) (fi:FInv K Oo c t σ H) (o:Out) (t':T) (e:f t=some (o,t')) (k:∀σ' H' c',FInv K Oo c' t' σ' H'->Stp Oo c H c' H'->
 match (generalizing:=false) o with
 |.next=>D.nx σ' H'
 |.brk=>D.bk σ' H'
 |.cont=>D.ct σ' H'
 |.ret r=>∀v,Rep K c' H' v r->if DN r=true then exE (E σ') v H' else D.rt v H'):RSX E f D σ H
inductive spX(f:Fn)(vs:List V)(H:Hp)(Q:VK)(E:XK):Prop where
 |mk (c:Cf) (ds:List D) (S:List Ob) (si:SInv K c S H) (rs:Reps K c H vs ds) (r:D) (S':List Ob) (e:f ds S=some (r,S')) (k:∀v H' c',SInv K c' S' H'->Stp c.O c H c' H'->(∀b,c'.O b↔c.O b)->Rep K c' H' v r->if DN r=true then exE E v H' else Q v H'):spX f vs H Q E
end
section
variable{P:bS}{w:bT}{K:bN}{mg:Str->Option bP}{base:Heap}
end
section
variable{X:Cx}{e a b:Expr}{es:List Expr}{pos:Pos}{E:L2.St->XK}{st:Stmt}
end
end
structure XGet(K:bN)(C:bQ):Prop where
 ga:findIn K (.ref C) "__getattribute__" = some (some (.builtin "BaseException.__getattribute__"))
 gt:findIn K (.ref C) "__getattr__" = some none
 mb:mroIn K C (.type "BaseException")=some true
 mo:mroIn K C (.type "object")=some true
 hd:hasDictIn K C=true
section
variable{prog:bS}{w:bT}{A:Around}{E:bP->bR->Prop}{s:bR}{K:bN}{x C:bQ}{ox:Obj}{od:Option Obj}{name:Str}{tk:Tok}{Q:bP->bR->Prop}{R:Result->bR->Prop}
end
section
variable{qx:Bool}
abbrev C4:List Str:=["NoValue", "Short", "Broken", "NoTalk", "NoName", "NoText", "NoRow"]
structure XM(K:bN)(mg:Str->Option bP)(P:bQ)(ca:Str->bQ):Prop where
 pm:mg "ParleyError" = some (.ref P)
 pc:XCl K P VE
 ns:∀n∈C4,nsIn K mainGlobals n=some (some (.ref (ca n)))
 ms:∀n∈C4,mg n=some (.ref (ca n))
 cl:∀n∈C4,XCl K (ca n) (.ref P::VE)
 inj:∀n∈C4,∀m∈C4,ca n=ca m->n=m
 np:∀n∈C4,ca n≠P
 kp:∀n∈C4,keepIn K (.ref (ca n))=true
 gt:∀n∈C4,XGet K (ca n)
 gc:∀n∈C4,findIn K (.ref (ca n)) "__class__" = some (some (.builtin "object.__class__"))
 na:∀n∈C4,findIn K (.ref (ca n)) "at" = some none
 nd:∀n∈C4,findIn K (.ref (ca n)) "side" = some none
section
variable{K:bN}{mg:Str->Option bP}{P:bQ}{ca:Str->bQ}
end
section
variable{X:Cx}{e:Expr}{es:List Expr}{pos p pos2:Pos}{E:L2.St->XK}{P:bQ}{ca:Str->bQ}
end
section
variable{X:Cx}{pos p:Pos}{P:bQ}{ca:Str->bQ}{μ:Cf->Hp->D->(V->Hp->Prop)->Prop}
inductive RH(K:bN)(ca:Str->bQ)(μ:Cf->Hp->D->(V->Hp->Prop)->Prop)(h:D->M Out)(x C:bQ)(dx:Option bQ)(E:Ends)(σ:L2.St)(H:Hp):Prop where
 | mk (Oo:bQ->Prop) (c:Cf) (t:T) (n:Str) (ds:List D) (fi:FInv K Oo c t σ H) (hn:n∈C4) (hC:C=ca n) (rp:Rep K c H (.ref x) (.exc n ds)) (o:Out) (t':T) (e:h (.exc n ds) t=some (o,t')) (k:∀σ' H' c',FInv K Oo c' t' σ' H'->Stp Oo c H c' H'->
   match (generalizing:=false) o with
   |.next=>E.nx σ' H'
   |.brk=>E.bk σ' H'
   |.cont=>E.ct σ' H'
   |.ret r=>μ c' H' r E.rt):RH K ca μ h x C dx E σ H
end
end
section
variable{qx:Bool}
section
variable{X:Cx}{P:bQ}{ca:Str->bQ}{a:Expr}{f:M D}{p pos q:Pos}
end
end
section
variable{qx:Bool}
structure XOne(K:bN)(P c:bQ):Prop where
 cl:XCl K c (.ref P::VE)
 kp:keepIn K (.ref c)=true
 gt:XGet K c
 gc:findIn K (.ref c) "__class__" = some (some (.builtin "object.__class__"))
 na:findIn K (.ref c) "at" = some none
 nd:findIn K (.ref c) "side" = some none
end
inductive Kd where
 |pl|fr|ex|er
section
variable{X:Cx}{e a b:Expr}{pos:Pos}{f g:M D}
end
section
variable{qx:Bool}
section
variable{X:Cx}{P:bQ}{ca:Str->bQ}{a:Expr}{es:List Expr}{f:M D}{p pos q:Pos}{i:Nat}{ns:List Str}
end
end
section
variable{qx:Bool}
section
variable{prog:bS}{w:bT}{A:Around}{s:bR}{K:bN}{x C P dx:bQ}{ox:Obj}{od:Option Obj}{R:Result->bR->Prop}{name:Str}{v:bP}{tk:Tok}{cd:ClassData}
end
section
variable{X:Cx}{k:Nat}{f C P:bQ}{fd:bU}{bO:List (bQ×Obj)}{σ:St}{H:Hp}{s:bR}{Q:bP->bR->Prop}{us:List bP}{vs:List V}{a b:Str}{ps:List Str}{v v2:V}{u u2:bP}
end
section
variable{X:Cx}{k:Nat}{f C P:bQ}{fd:bU}{a b:Str}{ps:List Str}{n:Str}{p pos:Pos}{e e':Expr}
end
end
section
variable{qx:Bool}
section
variable{X:Cx}{e e':Expr}{pos p pos2:Pos}{E:L2.St->XK}{P:bQ}{ca:Str->bQ}
end
end
section
variable{X:Cx}{a b:Expr}{pos:Pos}
end
section
variable{prog:bS}{w:bT}{A:Around}{E:bP->bR->Prop}{env:Env}{K:bN}{C:bQ}{bm:List bP}{s:bR}
end
section
variable{X:Cx}{bO:List (bQ×Obj)}{σ:St}{H:Hp}{s s':bR}{qx:Bool}{x C:bQ}{dx T:Option bQ}{fl:bP}
end
section
variable{X:Cx}{n v:Str}{C' C2:bQ}{bm' bm2:List bP}{p pos p2:Pos}{e cN:Expr}{rest:List ExceptHandler}{t:St->Hp->(bQ->Option bQ->Hp->Prop)->Prop}{tr:bQ->bQ->Option bQ->TS}{i:Nat}{E:St->XK}
end
structure FnOkH(P:bS)(w:bT)(K:bN)(mg:Str->Option bP)(base:Heap)(CX:CXT)(k:Nat)(f:bQ)(fd:bU)(ps:List Str)(sp:Sp):Prop where
 len:∀vs H Q E,sp vs H Q E->vs.length=ps.length
 run:∀(z:bQ) (A:Around) (outer:List Env) (s:bR) (H:Hp) (args:Args) (us:List bP) (vs:List V) (Q:VK) (E:XK),Room k A->Env0 P w K mg base A outer s H->BindsTo s fd args (ps.zip us)->Vals vs us->sp vs H Q E->
  codeAny (model P w) (A.mark (some (.ref z))) (.call (.ref f) args) (CR CX outer P w H s Q E) s
section
variable{qx:Bool}{X:Cx}{k:Nat}{f C P:bQ}{fd:bU}{bO:List (bQ×Obj)}{σ:St}{H:Hp}{s:bR}{Q:bP->bR->Prop}{us:List bP}{vs:List V}{a b:Str}{ps:List Str}{v v2:V}{u u2:bP}{n:Str}{p pos:Pos}{e e':Expr}
end
section
variable{X:Cx}{pos p p2 p3 p4:Pos}{P:bQ}{ca:Str->bQ}{E:XK}{e e' cN:Expr}
end
section
variable{prog:bS}{w:bT}{A:Around}{E:bP->bR->Prop}{s:bR}
variable{I:bQ}{fp wr:List bQ}{G:Array GenState->Array GenState->Prop}{n:Nat}{P:Nat->bP->Prop}{St:Nat->bR->Prop}
end
section
variable{X:Cx}
end
section
variable{X:Cx}{pos:Pos}{e:Expr}
end
section
variable{X:Cx}
theorem Nc:Bs X (.type "dict") (λxs H Q=>∃(p:bQ) (kvs:List (Key×V)),xs=[.ref p]/\H p=some (.dK kvs)/\∀l,H l=none->Q (.ref l) (upd H l (.dK kvs))):=by
 intro bO s σ H xs us0 Q I r h;clear 5 h p kvs rfl e q;clear 5(Dx r)u rfl rx
 cases rx
 clear 5(D6 I.hok e)hz hp vs rel dd;refine kt_call_dict hp dd (by rw[<-rel.length];exact hz) λh' hD sb=>?_;have nm:(s.heap.objs.size==sysModules)=false:=by
  have:=I.big;rw[cL];exact up8 this
 have hk:∀b o,s.heap.get? b=some o->h'.get? b=some o:=λb o eb=>by
  rw[sb.2 b (up5 (up4 eb))];exact uc4 _ eb
 exact⟨.ref s.heap.objs.size,_,I.laid (t':=s.toks) hk (uq9 _) (Gc hz nm rel hD),rfl,q _ (I.hok.fresh (uq9 _))⟩
end
def GV:List D->M D
 |[.obj n]=>λt=>match t.S[n]? with
   |some (.dct kvs)=>some (.obj t.S.length,{t with S:=t.S++[.dct kvs]})
   |_=>none
 |_=>fail
section
variable{K:bN}
end
section
variable{X:Cx}{pos:Pos}{e:Expr}
set_option tactic.hygienic true in
theorem Qz{f:M (List D)}{p:Pos}(hg:Gl X "dict")(hm:X.mg "dict" = none)(ha:PA X [e] (RA X.K f))(h1:autoParam (Bn e=false) q3T) :
 PE X (.Call (.Name "dict" p) [e] [] pos) (RE X.K (fB f GV)):=
 Az (DS Nc hg hm (by decide +kernel) ha (by decide) (by decide) (A6 h1) rfl) λσ H Q z9=>by
  clear 5 z9 Oo c t fi r t' eq k;clear 5(Af eq)as t1 e1 eq;unfold GV at eq
  split at eq
  .next n=>
   split at eq
   .next kvs es=>
    cases eq
    refine⟨Oo,c,t,fi,_,_,e1,λvs H1 c1 f1 s1 rv=>?_⟩;clear 5(Ds rv)v rfl rw1
    obtain⟨a,rfl,hk⟩:=rw1.rv
    clear 5(f1.s.obs _ a _ hk es)us g1 g2;refine⟨a,us,rfl,g1,λl hnl=>?_⟩;obtain⟨c2,f2,s2,eo⟩:=f1.newObj (o:=.dct kvs) (u:=.dK us) hnl λc' H' ex hu=>⟨_,hu,g2.mono ex⟩;exact k _ _ c2 f2 (s1.trans s2) (.obj eo)
   .cases eq
  .cases eq
end
theorem TJ{P:bS}{w:bT}{K:bN}{H:Hp}{s:bR}{A:Around}(hok:HOk P w H s.heap){ts:List (Key×V)}{ws:List (Key×bP)}(rel2:KV ts ws)(hu:A.units+60<cLine):∀{us:List (Key×V)}{vs:List (Key×bP)},KV us vs->(∀kv∈us,∃z,Br ts kv.1=some z/\E9 K H kv.2 z)->PySem.W.KeqHits A s ws vs true:=λ{us vs} rel hh=>by
 unfold KV at rel
 induction rel with
 |nil=>exact .nil
 |@cons p q ps qs h1 _ ih=>
   clear 5(hh p ug5)z ez c dz dz' r1 r2 e;clear 5 q k v;clear 5(RelO.some_of (v:=z) (o:=valueAt ws p.1) (by rw[<-ez];exact rel2.val _))u' hu' ru';have:=PySem.W.KeqHits.hit (k:=k) (v:=v) (y:=u') (e:=true) (b:=true) (by rw[show k=p.1 from h1.1.symm];exact hu') (Fc hok EQD h1.2 ru' r1 r2 e (by unfold EQD;lia)).2 (ih λkv m=>hh kv (ue3 _ m));exact this
section
variable{X:Cx}
end
section
variable{K:bN}{c:Cf}{H:Hp}
end
noncomputable def KG{α:Type}(d:D)(h:Nat->Str->List (Str×D)->M α):M α:=λt=>match d with
 |.obj k=>match t.S[k]? with
   |some (.ins n fs)=>h k n fs t
   |_=>none
 |_=>none
def ba(n:Str)(g:Fn)(o:M D)(f:M (List D)):M D:=bnd o λd=>KG d λ_ n' _=>if n'=n then bnd f λds t=>match g (d::ds) t.S with
 |some (r,S')=>some (r,{t with S:=S'})
 |none=>none else fail
section
variable{X:Cx}{CX:CXT}{k:Nat}{f C:bQ}{fd:bU}{ps:List Str}{sp:Sp}{E:St->XK}{x m:Str}{p pos apos:Pos}{e o:Expr}{es:List Expr}{ta:TE}{t:TA}
structure ByCls(K:bN)(C:bQ)(m:Str)(f:bQ):Prop where
 ga:specialIn K (.ref C) "__getattribute__" = some (some (.builtin "type.__getattribute__"))
 rd:readsIn K C (.type "type")=true
 at_:(match findCls K (.ref C) (.type "type") m with|some (.val (.ref g))=>g==f|_=>false)=true
 kp:keepIn K (.ref f)=true
end
section
variable{X:Cx}{e o a value:Expr}{es:List Expr}{pos pos' apos p:Pos}{f:Str}{g gv ga:M D}{fl:M (List D)}{C:bQ}
structure MAt(K:bN)(n m:Str)(C fa:bQ):Prop where
 cl:n∈Wd
 at_:nsIn K mainGlobals n=some (some (.ref C))
 me:Meth K C m fa
 na:m∉atN
section
variable{k:Nat}{fa:bQ}{fd:bU}{ps:List Str}{h:Fn}{n m:Str}{qx:Bool}{E:L2.St->XK}
end
end
section
variable{K:bN}
def HI:D->Option Int->Option Int->M D
 |.obj k,lo,hi=>λt=>match t.S[k]? with
   |some (.lst ds)=>some (.lst (AK ds lo hi),t)
   |_=>none
 |x,lo,hi=>BK x lo hi
set_option tactic.hygienic true in
theorem RV:M5 K (Rp K) HI:=λ{Oo c t σ H x dx r lo hi t' Q} f rx eq k=>by
 unfold HI at eq
 split at eq
 .next kk=>
  obtain⟨a,rfl,h1⟩:=rx.rv
  split at eq
  .next ds es=>
   cases eq
   clear 5(f.s.obs kk a _ h1 es)vs g1 g2;exact .inl (.inl ⟨a,vs,rfl,SqL.of g1,λq hq=>k _ _ c (f.laid hq) (f.stp_laid hq) (.lst AA (f.s.free hq) ((DG g2 lo hi).mono (Ext.laid f.s hq)))⟩)
  .cases eq
 .exact ML f rx eq k
end
abbrev Gd:=Option (Nat×List D)
def Gon(g:Gd)(S:List Ob):Prop:=∀k xs,g=some (k,xs)->S[k]?=some (.lst xs)
def chk(g:Gd):M Unit:=λt=>@ite _ (Gon g t.S) (Classical.propDecidable _) (some ((),t)) none
set_option tactic.hygienic true in
theorem FL{g:Gd}{t t':T}{u:Unit}(h:chk g t=some (u,t')):Gon g t.S/\t'=t:=by
 unfold chk at h
 split at h
 .next q=>cases h;exact⟨q,rfl⟩
 .cases h
theorem Ic{g:Gd}{t:T}(h:Gon g t.S):chk g t=some ((),t):=by unfold chk;rw[eB h]
def compG(g:Gd)(st:D->M Unit)(tst:M Bool)(elt:M D):List D->M (List D)
 |[]=>bnd (chk g) λ_=>ret []
 |d::r=>bnd (chk g) λ_=>bnd (st d) λ_=>bnd tst λk=>if k=true then bnd elt λx=>bnd (compG g st tst elt r) λxs=>ret (x::xs) else compG g st tst elt r
def Gk(n:Nat)(fr:List Nat)(f:M (Gd×List D))(st:D->M Unit)(tst:M Bool)(elt:M D):M (List D):=bnd f λp t=>match compG p.1 st tst elt p.2 ⟨cenv n fr t.env,t.S⟩ with
 |some (xs,t')=>if xs.length<=LIM then some (xs,{t with S:=t'.S}) else none
 |none=>none
structure ItOk3(K:bN)(J:It)(g:Gd)(c:Cf)(H:Hp)(ds:List D):Prop where
 go:∀c' H' S' (i:Nat),Ext c H c' H'->SInv K c' S' H'->Gon g S'->i<ds.length->J.go i H'
 yld:∀c' H' S' (i:Nat) x H'' d,Ext c H c' H'->SInv K c' S' H'->Gon g S'->ds[i]?=some d->J.yld i H' x H''->∃p vs es,x=.ref p/\H' p=none/\H''=upd H' p (.tup vs)/\d=.tup es/\Reps K c' H' vs es
 stop:∀c' H' S',Ext c H c' H'->SInv K c' S' H'->Gon g S'->J.stop ds.length H'
inductive RI3(K:bN)(f:M (Gd×List D))(σ:L2.St)(H:Hp)(R:It->Hp->Prop):Prop where
 |mk (Oo:bQ->Prop) (c:Cf) (t:T) (fi:FInv K Oo c t σ H) (p:Gd×List D) (t':T) (e:f t=some (p,t')) (k:∀J H' c',FInv K Oo c' t' σ H'->Stp Oo c H c' H'->ItOk3 K J p.1 c' H' p.2->R J H'):RI3 K f σ H R
section
variable{X:Cx}{e a b tg iter elt:Expr}{ifs:List Expr}{pos:Pos}{scope:Scope}{N':List Str}{n:Nat}{fr:List Nat}{st:D->M Unit}{tst:M Bool}{el:M D}
end
structure ItOkG(K:bN)(J:It)(g:Gd)(c:Cf)(H:Hp)(ds:List D):Prop where
 go:∀c' H' S' (i:Nat),Ext c H c' H'->SInv K c' S' H'->Gon g S'->i<ds.length->J.go i H'
 yld:∀c' H' S' (i:Nat) x H'' d,Ext c H c' H'->SInv K c' S' H'->Gon g S'->ds[i]?=some d->J.yld i H' x H''->H''=H'/\Rep K c' H' x d
 stop:∀c' H' S',Ext c H c' H'->SInv K c' S' H'->Gon g S'->J.stop ds.length H'
theorem ItOk.toG{K:bN}{J:It}{g:Gd}{c:Cf}{H:Hp}{ds:List D}(h:ItOk K J c H ds):ItOkG K J g c H ds:=
 ⟨λc' H' _ i e _ _=>h.go c' H' i e,λc' H' _ i x H'' d e _ _=>h.yld c' H' i x H'' d e,λc' H' _ e _ _=>h.stop c' H' e⟩
def RIG(K:bN)(f:M (Gd×List D)):TI:=λσ H R=>∃Oo c t,FInv K Oo c t σ H/\∃p t',f t=some (p,t')/\∀J H' c',FInv K Oo c' t' σ H'->Stp Oo c H c' H'->ItOkG K J p.1 c' H' p.2->R J H'
set_option tactic.hygienic true in
def forG(g:Gd)(st:D->M Unit)(b:M Out):List D->M Out
 |[]=>bnd (chk g) λ_=>ret .next
 |d::r=>bnd (chk g) λ_=>bnd (st d) λ_=>bnd b λo=>match o with
   |.next=>forG g st b r
   |.cont=>forG g st b r
   |.brk=>ret .next
   |.ret x=>ret (.ret x)
def FQ(f:M (Gd×List D))(st:D->M Unit)(b:M Out):M Out:=bnd f λp=>forG p.1 st b p.2
theorem RS.forG{μ:Cf->Hp->D->(V->Hp->Prop)->Prop}{K:bN}{f:M (Gd×List D)}{st:D->M Unit}{b:M Out}{E:Ends}{σ:L2.St}{H:Hp}(q:RSg K μ (FQ f st b) E σ H):NP (RIG K f) (RG K st) (RSg K μ b) E σ H:=by
 clear 5 q Oo c t fi o t' eq k;clear 5(Af eq)pg t1 e1 eq;refine⟨Oo,c,t,fi,pg,t1,e1,λJ H1 c1 f1 s1 it=>?_⟩;clear 5 pg g ds;dsimp only at eq it;refine⟨λi m σ' H'=>m=ds.length-i/\i<=ds.length/\∃c' t2,FInv K Oo c' t2 σ' H'/\Stp Oo c1 H1 c' H'/\L2.forG g st b (ds.drop i) t2=some (o,t'),⟨_,rfl,ur0 _,c1,t1,f1,.refl,by rw[uo0];exact eq⟩,?_⟩;rintro i m σ' H' ⟨rfl,hi,c',t2,f2,s2,e2⟩
 by_cases hlt:i<ds.length
 .rw[ub2 hlt] at e2;unfold L2.forG at e2;clear 5(Af e2)u0 t0 e0 e2;clear 5(FL e0)hon ht0;rw[ht0] at e2;clear e0 ht0;refine .inr ⟨it.go c' H' _ i s2.ext f2.s hon hlt,λσ3 H3=>∃c3 t3,FInv K Oo c3 t3 σ3 H3/\Stp Oo c1 H1 c3 H3/\L2.forG g st b (ds.drop (i+1)) t3=some (o,t'),λσ3 H3 h=>⟨ds.length-(i+1),by lia,rfl,hlt,h⟩,λx H'' hy=>?_⟩;clear 5(it.yld c' H' _ i x H'' _ s2.ext f2.s hon (ub5 hlt) hy)rfl rx;clear 5(Af e2)u t3 e3 e2;clear 5(Af e2)o4 t4 e4 e2;refine⟨Oo,c',t2,_,f2,rx,t3,e3,λσ3 H3 c3 f3 s3=>?_⟩;refine⟨Oo,c3,t3,f3,o4,t4,e4,λσ5 H5 c5 f5 s5=>?_⟩;have s':=(s2.trans s3).trans s5
  cases o4 with
  |next=>exact⟨c5,t4,f5,s',e2⟩
  |cont=>exact⟨c5,t4,f5,s',e2⟩
  |brk=>cases e2;exact k σ5 H5 c5 f5 (s1.trans s')
  |ret r=>cases e2;exact k σ5 H5 c5 f5 (s1.trans s')
 .have hi':i=ds.length:=by lia
  subst hi';rw[uk1] at e2;unfold L2.forG at e2;clear 5(Af e2)u0 t0 e0 e2;clear 5(FL e0)hon ht0;rw[ht0] at e2;clear e0 ht0
  cases e2
  exact .inl ⟨it.stop c' H' _ s2.ext f2.s hon,k σ' H' c' f2 (s1.trans s2)⟩
set_option tactic.hygienic true in
theorem RF.compG{K:bN}{n:Nat}{fr:List Nat}{f:M (Gd×List D)}{st:D->M Unit}{tst:M Bool}{elt:M D}{σ:L2.St}{H:Hp}{Q:VK}(q:RF K (Gk n fr f st tst elt) σ H Q):Kf (RIG K f) (RG K st) (RT K tst) (RE K elt) (Dy n fr) σ H Q:=by
 clear 5 q Oo c t fi xs t' eq k;clear 5(Af eq)pg t1 e1 eq;refine⟨Oo,c,t,fi,pg,t1,e1,λJ H1 c1 f1 s1 it=>?_⟩;clear 5 pg g ds;dsimp only at eq it
 cases e3:L2.compG g st tst elt ds ⟨cenv n fr t1.env,t1.S⟩ with
 |none=>rw[e3] at eq;cases eq
 |some p=>
   clear 5 p ys t3;rw[e3] at eq;dsimp only at eq
   split at eq
   case isFalse=>cases eq
   next hl=>
   cases eq
   refine⟨λi m acc σ' H'=>m=ds.length-i/\i<=ds.length/\∃c' t2 zs rest,FInv K c1.O c' t2 σ' H'/\Stp c1.O c1 H1 c' H'/\Reps K c' H' acc zs/\L2.compG g st tst elt (ds.drop i) t2=some (rest,t3)/\xs=zs++rest,
    ⟨_,rfl,ur0 _,c1,_,[],xs,FO f1,.refl,.nil,by rw[uo0];exact e3,rfl⟩,?_⟩
   rintro i m acc σ' H' ⟨rfl,hi,c',t2,zs,rest,f2,s2,ra,e2,ez⟩;have hacc:acc.length<=sizeLine:=by
    have:zs.length<=xs.length:=by rw[ez,ug7];exact uk2 _ _
    rw[ra.length];exact up6 this (up6 hl BM)
   refine⟨hacc,?_⟩
   by_cases hlt:i<ds.length
   .rw[ub2 hlt] at e2;unfold L2.compG at e2;clear 5(Af e2)u0 t0 e0 e2;clear 5(FL e0)hon ht0;rw[ht0] at e2;clear e0 ht0;refine .inr ⟨it.go c' H' _ i s2.ext f2.s hon hlt,λx H'' hy=>?_⟩;clear 5(it.yld c' H' _ i x H'' _ s2.ext f2.s hon (ub5 hlt) hy)rfl rx;clear 5(Af e2)u t4 e4 e2;clear 5(Af e2)kb t5 e5 e2;refine⟨c1.O,c',t2,_,f2,rx,t4,e4,λσ3 H3 c3 f3 s3=>⟨c1.O,c3,t4,f3,kb,t5,e5,λH4 c4 f4 s4=>?_⟩⟩
    cases kb with
    |false=>
      rw[eC ug6] at e2⊢;exact⟨ds.length-(i+1),by lia,rfl,hlt,c4,t5,zs,rest,f4,(s2.trans s3).trans s4,ra.mono (s3.trans s4).ext,e2,ez⟩
    |true=>
      rw[eB rfl] at e2⊢;clear 5(Af e2)x6 t6 e6 e2;clear 5(Af e2)r7 t7 e7 e2
      cases e2
      refine⟨c1.O,c4,t5,f4,x6,t6,e6,λv H5 c5 f5 s5 rv=>?_⟩;exact⟨ds.length-(i+1),by lia,rfl,hlt,c5,t6,zs++[x6],r7,f5,((s2.trans s3).trans s4).trans s5,(ra.mono ((s3.trans s4).trans s5).ext).append (.cons rv .nil),e7,by rw[ez,ui0];rfl⟩
   .have hi':i=ds.length:=by lia
    subst hi';rw[uk1] at e2;unfold L2.compG at e2;clear 5(Af e2)u0 t0 e0 e2;clear 5(FL e0)hon ht0;rw[ht0] at e2;clear e0 ht0
    cases e2
    refine .inl ⟨it.stop c' H' _ s2.ext f2.s hon,λp hp _=>?_⟩;clear 5 f2.leave si ext;clear 5(f1.after si ⟨s2.ext.trans ext,s2.oo⟩ (λ_=>d8))f6 s6;rw[um3] at ez;subst ez;exact k p acc H' _ f6 (s1.trans s6) (ra.mono ext) hp
def Ff:D->M (Gd×List D)
 |.obj k=>λt=>match t.S[k]? with
   |some (.lst ds)=>some ((some (k,ds),ds),t)
   |_=>none
 |d=>bnd (Db d) λds=>ret (none,ds)
def Hv(f:M D):M (Gd×List D):=bnd f Ff
theorem ItOkG.lst{K:bN}{g:Gd}{c:Cf}{H:Hp}{p:bQ}{ds:List D}(r:∀c' H' S',Ext c H c' H'->SInv K c' S' H'->Gon g S'->∃vs,SqL K H' p vs/\Reps K c' H' vs ds):ItOkG K (Itl K p) g c H ds:=by
 refine⟨λc' H' S' i ex si on hi=>?_,λc' H' S' i x H'' d ex si on hd hy=>?_,λc' H' S' ex si on=>?_⟩
 .clear 5(r c' H' S' ex si on)vs h1 h2;obtain⟨v,e,_⟩:=h2.at (ub5 hi);exact⟨vs,v,h1,e⟩
 .clear 5(r c' H' S' ex si on)vs h1 h2;clear 5 hy rfl hx;exact⟨rfl,h2.get (hx vs h1) hd⟩
 .clear 5(r c' H' S' ex si on)vs h1 h2;exact⟨vs,h1,by rw[h2.length];exact uq9 _⟩
section
variable{X:Cx}{e a b tg iter elt:Expr}{ifs:List Expr}{pos:Pos}{scope:Scope}{N':List Str}{n:Nat}{fr:List Nat}{st:D->M Unit}{tst:M Bool}{el:M D}
theorem T8{μ:Cf->Hp->D->(V->Hp->Prop)->Prop}{body:List Stmt}{f:M (Gd×List D)}{b:M Out}(hp:PassesOwn (model X.prog X.w) X.A X.env X.xe)(hc:X.calm=true)(hi:PI X tg iter (RIG X.K f))(hg:PG X tg (RG X.K st))(hb:PSs X body (RSg X.K μ b))
 (hs:autoParam (∀x,foldedSetIterable iter X.env x=pure x) q2T):PS X (.For tg iter body [] pos) (RSg X.K μ (FQ f st b)):=
 B3 (Lg hp hc hi hg hb hs) λ_ _ _ q=>RS.forG q
theorem QE{f:M (Gd×List D)}(O:CmpOk X scope N' (Dy n fr))(hc:X.calm=true)(hi:PI X tg iter (RIG X.K f))
 (hg:∀cl C s2 H2 fp,PG (Bq X N' scope cl C s2 H2 fp) tg (RG X.K st)) (ht:∀cl C s2 H2 fp,PIf (Bq X N' scope cl C s2 H2 fp) ifs (RT X.K tst)) (he:∀cl C s2 H2 fp,PE (Bq X N' scope cl C s2 H2 fp) elt (RE X.K el))
 (hs:autoParam (∀x,foldedSetIterable iter X.env x=pure x) q2T):PE X (.ListComp elt [⟨tg,iter,ifs,0⟩] scope pos) (RF X.K (Gk n fr f st tst el)):=
 Az (Jj O hc hi hg ht he hs) λ_ _ _ q=>RF.compG q
set_option tactic.hygienic true in
theorem TW{f:M D}(h:PE X e (RE X.K f)):PI X tg e (RIG X.K (Hv f)):=
 HW (Lb h) λσ H R z=>by
  clear 5 z Oo c t fi ds t' eq k;clear 5(Af eq)d t1 e1 eq;refine⟨Oo,c,t,fi,d,t1,e1,λv H1 c1 f1 s1 rv=>?_⟩
  cases rv with
  |@obj a kk hk=>
    unfold Ff at eq;dsimp only at eq
    split at eq
    .next es hS=>
     cases eq
     clear 5(f1.s.obs kk a _ hk hS)ws g1 g3;refine .inl ⟨a,rfl,⟨ws,SqL.of g1⟩,k _ H1 c1 f1 s1 (ItOkG.lst λc' H' S' ex si on=>?_)⟩;clear 5(si.obs kk a _ (ex.io _ _ hk) (on kk es rfl))us q1 q2;exact⟨us,SqL.of q1,q2⟩
    .cases eq
  |@lst p vs ds' h1 h2 h3=>
    cases eq
    exact .inl ⟨p,rfl,⟨vs,SqL.of h1⟩,k _ H1 c1 f1 s1 (ItOk.toG (ItOk.lst λc' H' ex=>⟨vs,SqL.of (ex.keep _ _ h1 h2),h3.mono ex⟩))⟩
  |@scr p ns h1=>
    cases eq
    exact .inl ⟨p,rfl,⟨_,h1.sq⟩,k _ H1 c1 f1 s1 (ItOk.toG (ItOk.lst λc' H' ex=>⟨_,(h1.mono ex).sq,Reps.ints ns⟩))⟩
  |@tup p vs ds' h1 h2 h3=>
    cases eq
    exact .inr (.inl ⟨p,rfl,⟨vs,SqT.of h1⟩,k _ H1 c1 f1 s1 (ItOk.toG (ItOk.tup λc' H' ex=>⟨vs,SqT.of (ex.keep _ _ h1 h2),h3.mono ex⟩))⟩)
  |str x=>
    cases eq
    exact .inr (.inr ⟨x,rfl,k _ H1 c1 f1 s1 (ItOk.toG ItOk.str)⟩)
  |_=>cases eq
def KY(f:M D):M D:=bnd f λo=>match o with
 |.obj k=>λt=>match t.S[k]? with
   |some (.lst xs)=>match xs[xs.length-1]? with
     |some y=>some (y,{t with S:=t.S.set k (.lst xs.dropLast)})
     |none=>none
   |_=>none
 |_=>fail
theorem J3{K:bN}{c:Cf}{H:Hp}{vs:List V}{ds:List D}(h:Reps K c H vs ds):Reps K c H vs.dropLast ds.dropLast:=by
 rw[cK,cK,h.length];exact h.take _
set_option tactic.hygienic true in
theorem OA{o:Expr}{f:M D}{apos cpos:Pos}(ho:PE X o (RE X.K f))
 (hbase:autoParam (attributeBase o "pop" X.env (eval o X.env)=eval o X.env) q3T) (hline:autoParam ((apos.endLine==cpos.line)=true) q3T) :
 PE X (.Call (.Attribute o "pop" apos) [] [] cpos) (RE X.K (KY f)):=
 Az (Xe uc0 PySem.F.slot_list_pop PySem.F.type_list_pop WQ ho hbase hline) λσ H Q z=>by
  clear 5 z Oo c t fi r t' eq k;clear 5(Af eq)d t1 e1 eq;refine⟨Oo,c,t,fi,d,t1,e1,λv H1 c1 f1 s1 rv=>?_⟩
  cases rv with
  |@obj a kk hk=>
    dsimp only at eq
    split at eq
    .next xs hS=>
     split at eq
     .next y hy=>
      cases eq
      clear 5(f1.s.obs kk a _ hk hS)vs g1 g2;clear 5(g2.at hy)w gw rw';rw[<-g2.length] at gw;refine⟨.inl ⟨rfl,vs,SqL.of g1⟩,a,vs,w,rfl,rfl,g1,gw,?_⟩;obtain⟨f2,s2⟩:=f1.wrObj (o:=.lst xs.dropLast) (u:=.lst vs.dropLast) hk λc' H' ext hu=>⟨vs.dropLast,hu,(J3 g2).mono ext⟩;exact k _ _ c1 f2 (s1.trans s2) (rw'.mono s2.ext)
     .cases eq
    .cases eq
  |_=>cases eq
end
section
variable{X:Cx}{k:Nat}{f l I S:bQ}{fd:bU}{ps:List Str}{sp:Sp}{bO:List (bQ×Obj)}{σ:St}{H:Hp}{s:bR}{Q:VK}{oS oI oS' oI':Obj}{h':Heap}{t':Nat}
end
section
variable{K:bN}{g:Fn}
end
section
variable{X:Cx}{e:Expr}{pos:Pos}
def slF:D->Option Int->Option Int->M (List D)
 |.lst ds,lo,hi=>ret (AK ds lo hi)
 |.scr ns,lo,hi=>ret ((AK ns lo hi).map .int)
 |.obj k,lo,hi=>λt=>match t.S[k]? with
   |some (.lst ds)=>some (AK ds lo hi,t)
   |_=>none
 |_,_,_=>fail
def Ja(f:M D)(l u:M (Option Int)):M (List D):=bnd f λd=>bnd l λa=>bnd u λb=>slF d a b
set_option tactic.hygienic true in
theorem QG{f:M D}{l u:M (Option Int)}{lo hi:Option Expr}{p2:Pos}(he:PE X e (RE X.K f))(hl:PO X lo (RO X.K l))(hu:PO X hi (RO X.K u)):PE X (.Subscript e (.Slice lo hi none p2) pos) (RF X.K (Ja f l u)):=
 Az (K9 sl2 he hl hu) λσ H Q z9=>by
  clear 5 z9 Oo c t fi r t' eq k;clear 5(Af eq)d t1 e1 eq;clear 5(Af eq)ol t2 e2 eq;clear 5(Af eq)oh t3 e3 eq;refine⟨Oo,c,t,fi,d,t1,e1,λv H1 c1 f1 s1 rv=>⟨Oo,c1,t1,f1,ol,t2,e2,λH2 c2 f2 s2=>⟨Oo,c2,t2,f2,oh,t3,e3,λH3 c3 f3 s3=>?_⟩⟩⟩;have rv3:=rv.mono (s2.trans s3).ext;have st:=(s1.trans s2).trans s3
  cases rv3 with
  |@lst p vs ds h1 h2 h3=>
    cases eq
    exact .inl ⟨p,vs,rfl,SqL.of h1,λq hq=>k q _ _ c3 f3 st (DG h3 ol oh) hq⟩
  |@scr p ns h1=>
    cases eq
    refine .inl ⟨p,_,rfl,h1.sq,λq hq=>k q _ _ c3 f3 st ?_ hq⟩;rw[JG];exact Reps.ints _
  |@obj a kk h1=>
    unfold slF at eq;dsimp only at eq
    split at eq
    .next ds es=>
     cases eq
     clear 5(f3.s.obs kk a _ h1 es)vs g1 g2;exact .inl ⟨a,vs,rfl,SqL.of g1,λq hq=>k q _ _ c3 f3 st (DG g2 ol oh) hq⟩
    .cases eq
  |_=>cases eq
end
section
variable{X:Cx}{e elt tg iter:Expr}{pos:Pos}{scope:Scope}{N':List Str}{ifs:List Expr}{n:Nat}{fr:List Nat}{f:M (List D)}{st:D->M Unit}{tst:M Bool}{el:M D}
end
section
variable{X:Cx}{e:Expr}
end
section
variable{X:Cx}{e el eu ek:Expr}{p2 pos:Pos}{te:TE}{tl tu tk:TO}
end
section
variable{X:Cx}{elt tg iter:Expr}{pos:Pos}{scope:Scope}{N':List Str}{ifs:List Expr}{n:Nat}{fr:List Nat}{st:D->M Unit}{tst:M Bool}{el:M D}
end
set_option maxRecDepth 10000
end L2
namespace Srt
open PySem PyProof.Rows
def Mj:Bool->Keyed->Array Keyed->Nat->Nat->Nat->StateT SortSt Sem (Option Nat):=sortPriv% PySem.Builtin.gallop
variable{xs:Array Keyed}{i n:Nat}{Q:Option Nat->SortSt->Prop}
section
variable{prog:bS}{w:bT}{A:Around}{E:bP->bR->Prop}{s:bR}{κ:KeyKind}{kd:SortKind}
def Lts(prog:bS)(w:bT)(A:Around)(s:bR)(κ:KeyKind)(kd:SortKind):Prop:=
 ∀(E:bP->bR->Prop) (x y:bP) (a b:κ.α) (Q:Bool->bR->Prop),κ.keyOf x=some a->κ.keyOf y=some b->Q (κ.blt a b) s->wpAny (model prog w) A (keyLt' kd x y) Q E s
def kk(κ:KeyKind)(p:Keyed):κ.α:=(κ.keyOf p.1).getD κ.dflt
def Has(κ:KeyKind)(p:Keyed):Prop:=∃a,κ.keyOf p.1=some a
abbrev Le(κ:KeyKind)(p q:Keyed):Prop:=κ.kle (kk κ p) (kk κ q)
abbrev ltb(κ:KeyKind)(p q:Keyed):Bool:=κ.blt (kk κ p) (kk κ q)
theorem GO(hL:Lts prog w A s κ kd){st:SortSt}{p q:Keyed}{Q:Option Bool->SortSt->Prop}(hk:kindOf st=kd)(hp:Has κ p)(hq:Has κ q)(h:Q (some (ltb κ p q)) st):wpS (model prog w) A E s (lt' p q) Q st:=by
 clear 5 hp a ha;clear 5 hq b hb;rw[lt'_eq];refine dW (ei ?_);rw[hk];refine dW (dX (wpAny_attempt (hL _ p.1 q.1 a b _ ha hb ⟨rfl,?_⟩)));have e:ltb κ p q=κ.blt a b:=by unfold ltb kk;rw[ha,hb];rfl
 rw[<-e];exact dY h
theorem AE{st:SortSt}{p:Keyed}{Q:Keyed->SortSt->Prop}(e:xs[i]?=some p)(h:Q p st):wpS (model prog w) A E s (elem' xs i) Q st:=by
 rw[elem'_eq,e];exact dY h
structure Cut(bf:Nat->Bool)(n k:Nat):Prop where
 le:k<=n
 lo:∀i,i<k->bf i=true
 hi:∀i,k<=i->i<n->bf i=false
set_option tactic.hygienic true in
theorem N2{left:Bool}{key:Keyed}{arr:Array Keyed}{base hint:Nat}{st:SortSt}(hL:Lts prog w A s κ kd)(hk:kindOf st=kd)(hkey:Has κ key)
 (bf:Nat->Bool) (at_:∀i,i<n->∃p,arr[base+i]?=some p/\Has κ p/\bf i=(if left=true then ltb κ p key else !(ltb κ key p)))
 (mono:∀i j,i<=j->j<n->bf j=true->bf i=true) (hh:hint<n) (h:∀k,Cut bf n k->Q (some k) st):wpS (model prog w) A E s (Mj left key arr base n hint) Q st:=by
 have by_:∀(i:Nat) (Q:Option Bool->SortSt->Prop),i<n->Q (some (bf i)) st->wpS (model prog w) A E s (do
  let x <-elem' arr (base+i)
  if left=true then lt' x key else do
   let d <-lt' key x
   pure (Option.map (λx=>!x) d)) Q st:=λi Q hi hq=>by
  clear 5(at_ i hi)p e hp hb;refine dW (AE e ?_)
  cases left with
  |true=>
    simp only[d7] at hb⊢;exact GO hL hk hp hkey (by rw[<-hb];exact hq)
  |false=>
    simp only[ug8,dR] at hb⊢;refine dW (GO hL hk hkey hp (dY ?_));show Q (some (!(ltb κ key p))) st;rw[<-hb];exact hq
 refine dW (by_ hint _ hh ?_)
 cases hb:bf hint with
 |true=>
   dsimp only;simp only[d7];refine dW (dZ (dD (I:=λx c st'=>st'=st/\∃la ofs,c=(none,la,ofs)/\la<ofs/\x+1<=ofs/\hint+la<n/\bf (hint+la)=true)
    (Q:=λc st'=>st'=st/\∃la ofs,c=(none,la,ofs)/\la<ofs/\hint+la<n/\bf (hint+la)=true/\(n-hint<=ofs\/(hint+ofs<n/\bf (hint+ofs)=false))) ?step ?fin ⟨rfl,0,1,rfl,by lia,by lia,by lia,hb⟩) ?post)
   case fin=>
    rintro c st' ⟨rfl,la,ofs,rfl,a1,a2,a3,a4⟩;exact⟨rfl,la,ofs,rfl,a1,a3,a4,.inl ∅⟩
   case step=>
    rintro x c st' _ hx ⟨rfl,la,ofs,rfl,a1,a2,a3,a4⟩;dsimp only
    by_cases hge:ofs ≥ n-hint
    .rw[eB hge];exact dY ⟨rfl,la,ofs,rfl,a1,a3,a4,.inl hge⟩
    .rw[eC hge];refine dW (by_ (hint+ofs) _ ∅ ?_)
     cases hbo:bf (hint+ofs) with
     |true=>
       simp only[Bool.not_true,ug8,dR];exact dY ⟨rfl,ofs,2*ofs+1,rfl,by lia,by lia,by lia,hbo⟩
     |false=>
       simp only[Bool.not_false,d7];exact dY ⟨rfl,la,ofs,rfl,a1,a3,a4,.inr ⟨by lia,hbo⟩⟩
   case post=>
    rintro c st' ⟨rfl,la,ofs,rfl,a1,a3,a4,a5⟩;have hH:∀i,hint+min ofs (n-hint)<=i->i<n->bf i=false:=λi h5 h6=>by
     rcases a5 with a5|⟨a5,a6⟩
     .lia
     .cases hbi:bf i with
      |false=>rfl
      |true=>rw[mono (hint+ofs) i ∅ h6 hbi] at a6;cases a6
    dsimp only;refine dW (dZ (dD (I:=λx c st2=>st2=st'/\∃lo hi,c=(none,lo,hi)/\lo<=hi/\hi<=n/\hi-lo<=n-x/\(∀i,i<lo->bf i=true)/\(∀i,hi<=i->i<n->bf i=false))
     (Q:=λc st2=>st2=st'/\∃lo hi,c=(none,lo,hi)/\Cut bf n hi) ?step2 ?fin2 ⟨rfl,_,_,rfl,by lia,by lia,by lia,λi hi=>mono i (hint+la) ∅ a3 a4,hH⟩) ?post2)
    case fin2=>
     rintro c st2 ⟨rfl,lo,hi,rfl,a1,a2,a3,a4,a5⟩;have:lo=hi:=by lia
     subst this;exact⟨rfl,lo,lo,rfl,⟨a2,a4,a5⟩⟩
    case post2=>
     rintro c st2 ⟨rfl,lo,hi,rfl,hc⟩;exact dY (h hi hc)
    case step2=>
     rintro x c st2 _ hx ⟨rfl,lo,hi,rfl,a1,a2,a3,a4,a5⟩;dsimp only
     by_cases hge:lo ≥ hi
     .rw[eB hge];have:lo=hi:=by lia
      subst this;exact dY ⟨rfl,lo,lo,rfl,⟨a2,a4,a5⟩⟩
     .rw[eC hge];generalize hm:lo+(hi-lo)/2=m;have hm1:lo<=m/\m<hi:=by lia
      refine dW (by_ m _ ∅ ?_)
      cases hb:bf m with
      |true=>
        simp only[d7];exact dY ⟨rfl,m+1,hi,rfl,by lia,by lia,by lia,λi hi'=>mono i m ∅ ∅ hb,a5⟩
      |false=>
        simp only[ug8,dR];refine dY ⟨rfl,lo,m,rfl,by lia,by lia,by lia,a4,λi h5 h6=>?_⟩
        cases hbi:bf i with
        |false=>rfl
        |true=>rw[mono m i h5 h6 hbi] at hb;cases hb
 |false=>
   dsimp only;simp only[ug8,dR];refine dW (dZ (dD (I:=λx c st'=>st'=st/\∃la ofs,c=(none,la,ofs)/\la<ofs/\x+1<=ofs/\la<=hint/\bf (hint-la)=false)
    (Q:=λc st'=>st'=st/\∃la ofs,c=(none,la,ofs)/\la<ofs/\la<=hint/\bf (hint-la)=false/\(hint+1<=ofs\/(ofs<=hint/\bf (hint-ofs)=true))) ?step ?fin ⟨rfl,0,1,rfl,by lia,by lia,by lia,hb⟩) ?post)
   case fin=>
    rintro c st' ⟨rfl,la,ofs,rfl,a1,a2,a3,a4⟩;exact⟨rfl,la,ofs,rfl,a1,a3,a4,.inl ∅⟩
   case step=>
    rintro x c st' _ hx ⟨rfl,la,ofs,rfl,a1,a2,a3,a4⟩;dsimp only
    by_cases hge:ofs ≥ hint+1
    .rw[eB hge];exact dY ⟨rfl,la,ofs,rfl,a1,a3,a4,.inl hge⟩
    .rw[eC hge];refine dW (by_ (hint-ofs) _ ∅ ?_)
     cases hbo:bf (hint-ofs) with
     |false=>
       simp only[ug8,dR];exact dY ⟨rfl,ofs,2*ofs+1,rfl,by lia,by lia,by lia,hbo⟩
     |true=>
       simp only[d7];exact dY ⟨rfl,la,ofs,rfl,a1,a3,a4,.inr ⟨by lia,hbo⟩⟩
   case post=>
    rintro c st' ⟨rfl,la,ofs,rfl,a1,a3,a4,a5⟩;have hO:∀i,i<hint+1-min ofs (hint+1)->bf i=true:=λi hi=>by
     rcases a5 with a5|⟨a5,a6⟩
     .lia
     .exact mono i (hint-ofs) ∅ ∅ a6
    have hH:∀i,hint-la<=i->i<n->bf i=false:=λi h5 h6=>by
     cases hbi:bf i with
     |false=>rfl
     |true=>rw[mono (hint-la) i ∅ h6 hbi] at a4;cases a4
    dsimp only;refine dW (dZ (dD (I:=λx c st2=>st2=st'/\∃lo hi,c=(none,lo,hi)/\lo<=hi/\hi<=n/\hi-lo<=n-x/\(∀i,i<lo->bf i=true)/\(∀i,hi<=i->i<n->bf i=false))
     (Q:=λc st2=>st2=st'/\∃lo hi,c=(none,lo,hi)/\Cut bf n hi) ?step2 ?fin2 ⟨rfl,_,_,rfl,by lia,by lia,by lia,hO,hH⟩) ?post2)
    case fin2=>
     rintro c st2 ⟨rfl,lo,hi,rfl,a1,a2,a3,a4,a5⟩;have:lo=hi:=by lia
     subst this;exact⟨rfl,lo,lo,rfl,⟨a2,a4,a5⟩⟩
    case post2=>
     rintro c st2 ⟨rfl,lo,hi,rfl,hc⟩;exact dY (h hi hc)
    case step2=>
     rintro x c st2 _ hx ⟨rfl,lo,hi,rfl,a1,a2,a3,a4,a5⟩;dsimp only
     by_cases hge:lo ≥ hi
     .rw[eB hge];have:lo=hi:=by lia
      subst this;exact dY ⟨rfl,lo,lo,rfl,⟨a2,a4,a5⟩⟩
     .rw[eC hge];generalize hm:lo+(hi-lo)/2=m;have hm1:lo<=m/\m<hi:=by lia
      refine dW (by_ m _ ∅ ?_)
      cases hb:bf m with
      |true=>
        simp only[d7];exact dY ⟨rfl,m+1,hi,rfl,by lia,by lia,by lia,λi hi'=>mono i m ∅ ∅ hb,a5⟩
      |false=>
        simp only[ug8,dR];refine dY ⟨rfl,lo,m,rfl,by lia,by lia,by lia,a4,λi h5 h6=>?_⟩
        cases hbi:bf i with
        |false=>rfl
        |true=>rw[mono m i h5 h6 hbi] at hb;cases hb
end
variable{x:Keyed}{o:Array Keyed}
section
variable{κ:KeyKind}
def gk(xs:Array Keyed)(i:Nat):Keyed:=xs.getD i (.none,.none)
theorem Ay(h:i<xs.size):xs[i]?=some (gk xs i):=by
 unfold gk;rw[ua5,dE xs i h];rfl
theorem BY(h:i<xs.size):gk xs i∈xs.toList:=by
 have:=Ay h;rw[dE xs i h] at this;rw[<-ul9 this];simp
theorem G2(h:i<xs.size):xs.toList.drop i=gk xs i::xs.toList.drop (i+1):=by
 have:=Ay h;rw[dE xs i h] at this;rw[ub2 (by simpa using h),<-ul9 this];simp
theorem FR(h:x∈xs.toList.drop i):∃j,i<=j/\j<xs.size/\x=gk xs j:=by
 clear 5(ue7.mp h)k hk e;rw[uj6] at hk;rw[ui6] at e;have hl:i+k<xs.size:=by simpa using (show i+k<xs.toList.length by lia)
 refine⟨i+k,by lia,hl,?_⟩;have:=Ay hl;rw[dE xs _ hl] at this;rw[<-ul9 this,<-e];simp
theorem Dp{k:Nat}(h:x∈(xs.toList.drop i).take k):∃j,j<k/\i+j<xs.size/\x=gk xs (i+j):=by
 clear 5(ue7.mp h)m hm e;rw[uj5,uj6] at hm;rw[List.getElem_take,ui6] at e;have hl:i+m<xs.size:=by simpa using (show i+m<xs.toList.length by lia)
 refine⟨m,by lia,hl,?_⟩;have:=Ay hl;rw[dE xs _ hl] at this;rw[<-ul9 this,<-e];simp
def Srtd(κ:KeyKind)(l:List Keyed):Prop:=l.Pairwise (Le κ)
theorem Srtd.at(h:Srtd κ xs.toList){i j:Nat}(hij:i<=j)(hj:j<xs.size):Le κ (gk xs i) (gk xs j):=by
 by_cases e:i=j
 .subst e;exact dj _
 .have h1:=Ay (show i<xs.size by lia);have h2:=Ay hj;rw[dE xs i ∅] at h1;rw[dE xs j hj] at h2;have:=ub3.mp h i j (by simpa using (show i<xs.size by lia)) (by simpa using hj) ∅;rw[<-ul9 h1,<-ul9 h2];simpa using this
structure LInv(κ:KeyKind)(a b:Array Keyed)(out:List Keyed)(ia ib:Nat):Prop where
 perm:(out++(a.toList.drop ia++b.toList.drop ib)).Perm (a.toList++b.toList)
 so:Srtd κ out
 le:∀x∈out,∀y∈a.toList.drop ia++b.toList.drop ib,Le κ x y
variable{a b:Array Keyed}{out:List Keyed}{ia ib k:Nat}
theorem LInv.swap(h:LInv κ a b out ia ib):LInv κ b a out ib ia:=
 ⟨((ud7 out ud8).trans h.perm).trans ud8,h.so,λx hx y hy=>h.le x hx y (by
  rcases um1.mp hy with q|q
  .exact ud1 _ q
  .exact ue4 _ q)⟩
theorem LInv.block(h:LInv κ a b out ia ib)(sa:Srtd κ a.toList)(hc:∀x∈(a.toList.drop ia).take k,∀y∈b.toList.drop ib,Le κ x y):LInv κ a b (out++(a.toList.drop ia).take k) (ia+k) ib:=by
 have e:a.toList.drop ia=(a.toList.drop ia).take k++a.toList.drop (ia+k):=by rw[<-uo1,ud9]
 have hsd:Srtd κ (a.toList.drop ia):=ue0 (ui7 _ _) sa;refine⟨?_,?_,λx hx y hy=>?_⟩
 .have:=h.perm;rw[e,ui0] at this;rw[ui0];exact this
 .refine ue9.mpr ⟨h.so,ue0 (uh7 _ _) hsd,λx hx y hy=>h.le x hx y (ue4 _ ?_)⟩;rw[e];exact ue4 _ hy
 .rcases um1.mp hx with q|q
  .refine h.le x q y ?_;rcases um1.mp hy with r|r
   .rw[e];exact ue4 _ (ud1 _ r)
   .exact ud1 _ r
  .rcases um1.mp hy with r|r
   .rw[e] at hsd;exact(ue9.mp hsd).2.2 x q y r
   .exact hc x q y r
theorem LInv.one(h:LInv κ a b out ia ib)(sa:Srtd κ a.toList)(hi:ia<a.size)(hc:∀y∈b.toList.drop ib,Le κ (gk a ia) y):LInv κ a b (out++[gk a ia]) (ia+1) ib:=by
 have e:(a.toList.drop ia).take 1=[gk a ia]:=by rw[G2 hi];rfl
 have:=h.block (k:=1) sa (λx hx y hy=>by rw[e,ug9] at hx;subst hx;exact hc y hy)
 rwa [e] at this
def Res(κ:KeyKind)(a b r:Array Keyed):Prop:=r.toList.Perm (a.toList++b.toList)/\Srtd κ r.toList
theorem GW:(xs.extract i xs.size).toList=xs.toList.drop i:=by
 rw[uf0];unfold List.extract;rw[uc7];rw[uj6,uf7];exact uq9 _
theorem Eg{k:Nat}:(xs.extract i (i+k)).toList=(xs.toList.drop i).take k:=by
 rw[uf0];unfold List.extract;rw[uc1]
theorem LInv.done(h:LInv κ a b o.toList ia ib)(sa:Srtd κ a.toList)(sb:Srtd κ b.toList)(e:ia=a.size\/ib=b.size):Res κ a b (o++a.extract ia a.size++b.extract ib b.size):=by
 have el:(o++a.extract ia a.size++b.extract ib b.size).toList=o.toList++(a.toList.drop ia++b.toList.drop ib):=by
  rw[ug2,ug2,GW,GW,ui0]
 refine⟨by rw[el];exact h.perm,?_⟩;rw[el];refine ue9.mpr ⟨h.so,?_,h.le⟩;rcases e with e|e
 .rw[show a.toList.drop ia=[] by rw[uf1,e];simp,um8];exact ue0 (ui7 _ _) sb
 .rw[show b.toList.drop ib=[] by rw[uf1,e];simp,um3];exact ue0 (ui7 _ _) sa
theorem LInv.last(h:LInv κ a b o.toList ia ib)(sb:Srtd κ b.toList)(e:ia+1=a.size)(hb:∀y∈b.toList,Le κ y (gk a (a.size-1))):Res κ a b (o++b.extract ib b.size++a.extract ia a.size):=by
 have ea:a.toList.drop ia=[gk a ia]:=by rw[G2 ∅,uf1.mpr (by simp;lia)]
 have el:(o++b.extract ib b.size++a.extract ia a.size).toList=o.toList++(b.toList.drop ib++a.toList.drop ia):=by
  rw[ug2,ug2,GW,GW,ui0]
 refine⟨by rw[el];exact(ud7 _ ud8).trans h.perm,?_⟩;rw[el];refine ue9.mpr ⟨h.so,ue9.mpr ⟨ue0 (ui7 _ _) sb,by rw[ea];exact cz _ _,λx hx y hy=>?_⟩,h.swap.le⟩;rw[ea,ug9] at hy;subst hy;rw[show ia=a.size-1 by lia];exact hb x (List.mem_of_mem_drop hx)
end
section
variable{prog:bS}{w:bT}{A:Around}{E:bP->bR->Prop}{s:bR}{κ:KeyKind}{kd:SortKind}
theorem El{left:Bool}{key:Keyed}{base hint:Nat}{st:SortSt}(hL:Lts prog w A s κ kd)(hk:kindOf st=kd)(hkey:Has κ key)(hx:∀p∈xs.toList,Has κ p)
 (hn:base+n<=xs.size) (sx:∀i j,base<=i->i<=j->j<base+n->Le κ (gk xs i) (gk xs j)) (hh:hint<n)
 (h:∀k,k<=n->(∀i,i<k->if left=true then ltb κ (gk xs (base+i)) key=true else ltb κ key (gk xs (base+i))=false)->(∀i,k<=i->i<n->if left=true then ltb κ (gk xs (base+i)) key=false else ltb κ key (gk xs (base+i))=true)->Q (some k) st) :
 wpS (model prog w) A E s (Mj left key xs base n hint) Q st:=by
 refine N2 hL hk hkey (λi=>if left=true then ltb κ (gk xs (base+i)) key else !(ltb κ key (gk xs (base+i)))) (λi hi=>⟨_,Ay ∅,hx _ (BY ∅),rfl⟩) (λi j hij hj hb=>?_) hh λk hc=>h k hc.le (λi hi=>?_) λi h1 h2=>?_
 .have hs:=sx (base+i) (base+j) ∅ ∅ ∅
  cases left with
  |true=>
    simp only[d7] at hb⊢;exact KeyOrd.klt_of_kle_of_klt hs hb
  |false=>
    simp only[ug8,dR,ui8] at hb⊢;exact c8 hs (show κ.kle _ _ from hb)
 .have:=hc.lo i hi
  cases left with
  |true=>simpa using this
  |false=>simpa using this
 .have:=hc.hi i h1 h2
  cases left with
  |true=>simpa using this
  |false=>simpa using this
end
def QW:Array Keyed->Array Keyed->StateT SortSt Sem (Array Keyed):=sortPriv% PySem.Builtin.mergeLo
variable{α:Type}{c:Prop}{m:Nat}{a b:Array Keyed}
section
variable{prog:bS}{w:bT}{A:Around}{E:bP->bR->Prop}{s:bR}{κ:KeyKind}{kd:SortKind}
def Same(st st':SortSt):Prop:=kindOf st'=kindOf st/\arrOf st'=arrOf st/\pendingOf st'=pendingOf st/\failedOf st'=failedOf st
theorem Same.refl{st:SortSt}:Same st st:=⟨rfl,rfl,rfl,rfl⟩
theorem Same.trans{a b c:SortSt}(h:Same a b)(k:Same b c):Same a c:=⟨k.1.trans h.1,k.2.1.trans h.2.1,k.2.2.1.trans h.2.2.1,k.2.2.2.trans h.2.2.2⟩
theorem Srtd.drop{xs:Array Keyed}(h:Srtd κ xs.toList){i:Nat}{y:Keyed}(hi:i<xs.size)(hy:y∈xs.toList.drop i):Le κ (gk xs i) y:=by
 clear 5(FR hy)j h1 h2 rfl;exact h.at h1 h2
def Vr:Nat->StateT SortSt Sem Unit:=sortPriv% PySem.Builtin.setMinGallop
theorem IM{g:Nat}{st:SortSt}{Q:Unit->SortSt->Prop}(h:∀st',Same st st'->Q () st'):wpS (model prog w) A E s (Vr g) Q st:=by
 refine dM ?_;exact h _ ⟨rfl,rfl,rfl,rfl⟩
theorem BT:(o.push x).toList=o.toList++[x]:=Array.toList_push
inductive LoI(κ:KeyKind)(a b:Array Keyed)(st:SortSt)(x:Nat):Option (Array Keyed)×Array Keyed×Nat×Nat×Nat->SortSt->Prop
 |mk {st':SortSt} (hS:Same st st') (o:Array Keyed) (ia ib mg:Nat) (hI:LInv κ a b o.toList ia ib) (l1:ia+1<a.size) (l2:ib<b.size) (l3:x+1<=ia+ib):LoI κ a b st x (none,o,ia,ib,mg) st'
inductive LoQ(κ:KeyKind)(a b:Array Keyed)(st:SortSt):Option (Array Keyed)×Array Keyed×Nat×Nat×Nat->SortSt->Prop
 |mk {st':SortSt} (r o:Array Keyed) (ia ib mg:Nat) (hS:Same st st') (hR:Res κ a b r):LoQ κ a b st (some r,o,ia,ib,mg) st'
inductive LoI1(κ:KeyKind)(a b:Array Keyed)(st:SortSt)(x:Nat):Option (Array Keyed)×Array Keyed×Nat×Nat×Nat×Nat->SortSt->Prop
 |mk (o:Array Keyed) (ia ib ac bc:Nat) (hI:LInv κ a b o.toList ia ib) (l1:ia+1<a.size) (l2:ib<b.size) (l3:x+1<=ia+ib):LoI1 κ a b st x (none,o,ia,ib,ac,bc) st
inductive LoQ1(κ:KeyKind)(a b:Array Keyed)(st:SortSt)(x:Nat):Option (Array Keyed)×Array Keyed×Nat×Nat×Nat×Nat->SortSt->Prop
 |fin (r o:Array Keyed) (ia ib ac bc:Nat) (hR:Res κ a b r):LoQ1 κ a b st x (some r,o,ia,ib,ac,bc) st
 |go (o:Array Keyed) (ia ib ac bc:Nat) (hI:LInv κ a b o.toList ia ib) (l1:ia+1<a.size) (l2:ib<b.size) (l3:x+1<=ia+ib):LoQ1 κ a b st x (none,o,ia,ib,ac,bc) st
inductive LoI3(κ:KeyKind)(a b:Array Keyed)(st:SortSt)(x:Nat):Option (Array Keyed)×Array Keyed×Nat×Nat×Nat×Nat×Nat->SortSt->Prop
 |mk {st':SortSt} (hS:Same st st') (o:Array Keyed) (ia ib mg ac bc:Nat) (hI:LInv κ a b o.toList ia ib) (l1:ia+1<a.size) (l2:ib<b.size) (l3:x+1<=ia+ib):LoI3 κ a b st x (none,o,ia,ib,mg,ac,bc) st'
inductive LoQ3(κ:KeyKind)(a b:Array Keyed)(st:SortSt)(x:Nat):Option (Array Keyed)×Array Keyed×Nat×Nat×Nat×Nat×Nat->SortSt->Prop
 |fin {st':SortSt} (hS:Same st st') (r o:Array Keyed) (ia ib mg ac bc:Nat) (hR:Res κ a b r):LoQ3 κ a b st x (some r,o,ia,ib,mg,ac,bc) st'
 |go {st':SortSt} (hS:Same st st') (o:Array Keyed) (ia ib mg ac bc:Nat) (hI:LInv κ a b o.toList ia ib) (l1:ia+1<a.size) (l2:ib<b.size) (l3:x+1<=ia+ib):LoQ3 κ a b st x (none,o,ia,ib,mg,ac,bc) st'
set_option tactic.hygienic true in
theorem AY{_:Decidable c}{M:Model}{X Y:StateT SortSt Sem α}{Q:α->SortSt->Prop}{st:SortSt}(h1:c->wpS M A E s X Q st)(h2:¬c->wpS M A E s Y Q st):wpS M A E s (if c then X else Y) Q st:=by
 split
 .exact h1 ‹_›
 .exact h2 ‹_›
theorem MX{_:Decidable c}{M:Model}{f:Nat->StateT SortSt Sem α}{X Y:StateT SortSt Sem α}{m1:Nat}{Q:α->SortSt->Prop}{st:SortSt}(hX:X=f m1)(hY:Y=f m)(h:∀x,wpS M A E s (f x) Q st):wpS M A E s (if c then X else Y) Q st:=by
 rw[hX,hY]
 split<;>exact h _
set_option tactic.hygienic true
theorem MW{d e:Prop}{_:Decidable c}{_:Decidable d}{_:Decidable e}{M:Model}{r1 r2 X Y:StateT SortSt Sem α}{f:Array Keyed->Nat->StateT SortSt Sem α}{x1 x2:Array Keyed}{y1 y2:Nat}{Q:α->SortSt->Prop}{st:SortSt}(hX:X=f x2 y2)(hY:Y=f x1 y1)(h1:c->d->wpS M A E s r1 Q st)(h2:c->e->wpS M A E s r2 Q st)
 (h:∀x y,(c/\¬d/\¬e/\x=x2/\y=y2)\/(¬c/\x=x1/\y=y1)->wpS M A E s (f x y) Q st):wpS M A E s (if c then(if d then r1 else if e then r2 else X) else Y) Q st:=by
 rw[hX,hY]
 split
 .split
  .exact h1 ‹_› ‹_›
  .split
   .exact h2 ‹_› ‹_›
   .exact h _ _ (.inl ⟨‹_›,‹_›,‹_›,rfl,rfl⟩)
 .exact h _ _ (.inr ⟨‹_›,rfl,rfl⟩)
theorem MV{d:Prop}{_:Decidable c}{_:Decidable d}{M:Model}{r1 X Y:StateT SortSt Sem α}{f:Array Keyed->Nat->StateT SortSt Sem α}{x1 x2:Array Keyed}{y1 y2:Nat}{Q:α->SortSt->Prop}{st:SortSt}(hX:X=f x2 y2)(hY:Y=f x1 y1)(h1:c->d->wpS M A E s r1 Q st)
 (h:∀x y,(c/\¬d/\x=x2/\y=y2)\/(¬c/\x=x1/\y=y1)->wpS M A E s (f x y) Q st):wpS M A E s (if c then(if d then r1 else X) else Y) Q st:=by
 rw[hX,hY]
 split
 .split
  .exact h1 ‹_› ‹_›
  .exact h _ _ (.inl ⟨‹_›,‹_›,rfl,rfl⟩)
 .exact h _ _ (.inr ⟨‹_›,rfl,rfl⟩)
theorem L5{st:SortSt}{Q:Array Keyed->SortSt->Prop}(hL:Lts prog w A s κ kd)(hk:kindOf st=kd)(ha:∀p∈a.toList,Has κ p)(hb:∀p∈b.toList,Has κ p)(sa:Srtd κ a.toList)(sb:Srtd κ b.toList)
 (na:0<a.size) (nb:0<b.size) (h0:Le κ (gk b 0) (gk a 0)) (h1:∀y∈b.toList,Le κ y (gk a (a.size-1))) (h:∀r st',Same st st'->Res κ a b r->Q r st'):wpS (model prog w) A E s (QW a b) Q st:=by
 refine dW (dX (dL ⟨rfl,?_⟩));refine dW (AE (Ay nb) ?_);have I0:LInv κ a b (#[gk b 0]:Array Keyed).toList 0 1:=by
  have I:LInv κ b a [] 0 0:=⟨by simpa using ud8,List.Pairwise.nil,λx hx=>by cases hx⟩;have:=I.swap.swap.one sb nb λy hy=>c8 h0 (sa.drop na hy);exact this.swap
 refine AY (λe_=>?_) λe_=>?_
 .have e1:1=b.size:=by simpa using e_
  exact dY (h _ _ Same.refl (I0.done sa sb (.inr e1)))
 have e1:¬(1=b.size):=by simpa using e_
 refine AY (λe_=>?_) λe_=>?_
 .have e2:0+1=a.size:=by simpa using e_
  exact dY (h _ _ Same.refl (I0.last sb e2 h1))
 have e2:¬(0+1=a.size):=by simpa using e_
 refine dW (ei ?_);refine dW (dZ (dD (I:=LoI κ a b st)
  (Q:=LoQ κ a b st) ?step ?fin (.mk Same.refl _ _ _ _ I0 ∅ ∅ ∅)) ?post)
 case fin=>
  rintro c st' ⟨hS,o,ia,ib,mg,hI,l1,l2,l3⟩;lia
 case post=>
  rintro c st' ⟨r,o,ia,ib,mg,hS,hR⟩;exact dY (h r st' hS hR)
 case step=>
  rintro x c st' _ hx ⟨hS,o,ia,ib,mg,hI,l1,l2,l3⟩;have hk':kindOf st'=kd:=hS.1.trans hk;refine dW (dZ (dD (I:=λ_=>LoI1 κ a b st' x) (Q:=LoQ1 κ a b st' x) ?step1 ?fin1 (.mk o ia ib 0 0 hI l1 l2 l3)) ?post1)
  case fin1=>
   rintro c st2 ⟨o,ia,ib,ac,bc,hI,l1,l2,l3⟩;exact .go o ia ib ac bc hI l1 l2 l3
  case step1=>
   rintro y c st2 _ hy ⟨o,ia,ib,ac,bc,hI,l1,l2,l3⟩;dsimp only;refine dW (AE (Ay l2) ?_);refine dW (AE (Ay (show ia<a.size by lia)) ?_);refine dW (GO hL hk' (hb _ (BY l2)) (ha _ (BY ∅)) ?_)
   cases hw:ltb κ (gk b ib) (gk a ia) with
   |true=>
     refine AY (λ_=>?_) λe=>absurd rfl e;refine dW (AE (Ay l2) ?_);have hI2:LInv κ a b (o.push (gk b ib)).toList ia (ib+1):=by
      rw[BT];exact(hI.swap.one sb l2 λy hy=>c8 (cX hw) (sa.drop ∅ hy)).swap
     refine AY (λe_=>?_) λe_=>?_
     .have e3:ib+1=b.size:=by simpa using e_
      exact dY (.fin _ _ _ _ _ _ (hI2.done sa sb (.inr e3)))
     .have e3:¬(ib+1=b.size):=by simpa using e_
      refine AY (λe4=>?_) λe4=>?_
      .exact dY (.go _ _ _ _ _ hI2 l1 ∅ ∅)
      .exact dY (.mk _ _ _ _ _ hI2 l1 ∅ ∅)
   |false=>
     refine AY (λe=>nomatch e) λ_=>?_;refine dW (AE (Ay (show ia<a.size by lia)) ?_);have hI2:LInv κ a b (o.push (gk a ia)).toList (ia+1) ib:=by
      rw[BT];exact hI.one sa ∅ λy hy=>c8 (show κ.kle _ _ from hw) (sb.drop l2 hy)
     refine AY (λe_=>?_) λe_=>?_
     .have e3:ia+1+1=a.size:=by simpa using e_
      exact dY (.fin _ _ _ _ _ _ (hI2.last sb e3 h1))
     .have e3:¬(ia+1+1=a.size):=by simpa using e_
      refine AY (λe4=>?_) λe4=>?_
      .exact dY (.go _ _ _ _ _ hI2 ∅ l2 ∅)
      .exact dY (.mk _ _ _ _ _ hI2 ∅ l2 ∅)
  case post1=>
   rintro c st2 (⟨r,o,ia,ib,ac,bc,hR⟩|⟨o,ia,ib,ac,bc,hI,l1,l2,l3⟩)
   .exact dY (.mk r _ _ _ _ hS hR)
   .refine dW (dX (dL ⟨rfl,?_⟩));refine dW (dZ (dD (I:=λj=>LoI3 κ a b st (x+j)) (Q:=LoQ3 κ a b st (x+1)) ?step3 ?fin3 (.mk hS o ia ib (mg+1) ac bc hI l1 l2 l3)) ?post3)
    case fin3=>
     rintro c st3 ⟨hS3,o,ia,ib,mg,ac,bc,hI,l1,l2,l3⟩;exact .go hS3 o ia ib mg ac bc hI l1 l2 ∅
    case post3=>
     rintro c st3 (⟨hS3,r,o,ia,ib,mg,ac,bc,hR⟩|⟨hS3,o,ia,ib,mg,ac,bc,hI,l1,l2,l3⟩)
     .exact dY (.mk r _ _ _ _ hS3 hR)
     .refine dW (dM ?_);refine dY (?_:LoI κ a b st (x+1) _ _);exact .mk (by exact⟨hS3.1,hS3.2.1,hS3.2.2.1,hS3.2.2.2⟩) _ _ _ _ hI l1 l2 l3
    case step3=>
     rintro y c st3 _ hy ⟨hS3,o,ia,ib,mg,ac,bc,hI,l1,l2,l3⟩;dsimp only;refine MX (f:=?f) (m1:=mg-1) (m:=mg) ?hX ?hY λmg2=>?h
     case hX=>generalize mg-1=z;exact rfl
     case hY=>rfl
     refine dW (IM λst4 hS4=>?_);have hk4:kindOf st4=kd:=(hS3.trans hS4).1.trans hk;have hS5:=hS3.trans hS4;refine dW (AE (Ay l2) ?_);refine dW (El (n:=a.size-ia) hL hk4 (hb _ (BY l2)) ha ∅ (λi j h1 h2 h3=>sa.at h2 ∅) ∅ λk k1 k2 k3=>?_);simp only[ug8,dR] at k2 k3;have hI2:LInv κ a b (o++a.extract ia (ia+k)).toList (ia+k) ib:=by
      rw[ug2,Eg];refine hI.block sa λx hx y hy=>?_;obtain⟨j,hj,_,rfl⟩:=Dp hx;exact c8 (show κ.kle _ _ from k2 j hj) (sb.drop l2 hy)
     have hge:∀y∈a.toList.drop (ia+k),Le κ (gk b ib) y:=λy hy=>by
      clear 5(FR hy)j h1 h2 rfl;have:=k3 (j-ia) ∅ ∅;rw[show ia+(j-ia)=j by lia] at this;exact cX this
     refine MW (f:=?f2) (x1:=o) (y1:=ia) (x2:=o++a.extract ia (ia+k)) (y2:=ia+k) ?hX2 ?hY2 (λ_ e=>?_) (λ_ e=>?_) λo4 i4 hc=>?_
     case hX2=>generalize o++a.extract ia (ia+k)=z;generalize ia+k=v;exact rfl
     case hY2=>rfl
     .exact dY (.fin hS5 _ _ _ _ _ _ _ (hI2.last sb (by simpa using e) h1))
     .exact dY (.fin hS5 _ _ _ _ _ _ _ (hI2.done sa sb (.inl (by simpa using e))))
     generalize ho2:o++a.extract ia (ia+k)=o2 at hI2 hc;generalize hi2:ia+k=i2 at hI2 hge hc;obtain⟨hI2,hge,j1,j2⟩:LInv κ a b o4.toList i4 ib/\(∀y∈a.toList.drop i4,Le κ (gk b ib) y)/\i4+1<a.size/\x+1+y<=i4+ib:=by
      rcases hc with⟨e1,e2,e3,rfl,rfl⟩|⟨e1,rfl,rfl⟩
      .exact⟨hI2,hge,by simp at e2 e3;lia,by lia⟩
      .exact⟨hI,by rw[<-hi2,show k=0 by lia,uq3] at hge;exact hge,l1,by lia⟩
     clear hc ho2 hi2;refine dW (AE (Ay l2) ?_);have hI3:LInv κ a b (o4.push (gk b ib)).toList i4 (ib+1):=by
      rw[BT];exact(hI2.swap.one sb l2 hge).swap
     refine AY (λe_=>?_) λe_=>?_
     .have e5:ib+1=b.size:=by simpa using e_
      exact dY (.fin hS5 _ _ _ _ _ _ _ (hI3.done sa sb (.inr e5)))
     have e5:¬(ib+1=b.size):=by simpa using e_
     refine dW (AE (Ay (show i4<a.size by lia)) ?_);refine dW (El (n:=b.size-(ib+1)) hL hk4 (ha _ (BY ∅)) hb ∅ (λi j h1 h2 h3=>sb.at h2 ∅) ∅ λk' m1 m2 m3=>?_);simp only[d7] at m2 m3;have hI4:LInv κ a b (o4.push (gk b ib)++b.extract (ib+1) (ib+1+k')).toList i4 (ib+1+k'):=by
      rw[ug2,Eg];refine(hI3.swap.block sb λx hx y hy=>?_).swap;obtain⟨j,hj,_,rfl⟩:=Dp hx;exact c8 (cX (m2 j hj)) (sa.drop ∅ hy)
     have hge2:∀y∈b.toList.drop (ib+1+k'),Le κ (gk a i4) y:=λy hy=>by
      clear 5(FR hy)j h1 h2 rfl;have:=m3 (j-(ib+1)) ∅ ∅;rw[show ib+1+(j-(ib+1))=j by lia] at this;exact this
     have j0:ib+1<b.size:=by lia
     refine MV (f:=?f3) (x1:=o4.push (gk b ib)) (y1:=ib+1) (x2:=o4.push (gk b ib)++b.extract (ib+1) (ib+1+k')) (y2:=ib+1+k') ?hX3 ?hY3 (λ_ e=>?_) λo6 i6 hc=>?_
     case hX3=>generalize o4.push (gk b ib)++b.extract (ib+1) (ib+1+k')=z;generalize ib+1+k'=v;exact rfl
     case hY3=>rfl
     .exact dY (.fin hS5 _ _ _ _ _ _ _ (hI4.done sa sb (.inr (by simpa using e))))
     generalize ho3:o4.push (gk b ib)++b.extract (ib+1) (ib+1+k')=o3 at hI4 hc;generalize hi3:ib+1+k'=i3 at hI4 hge2 hc;obtain⟨hI4,hge2,j3,j4⟩:LInv κ a b o6.toList i4 i6/\(∀y∈b.toList.drop i6,Le κ (gk a i4) y)/\i6<b.size/\x+1+y+1<=i4+i6:=by
      rcases hc with⟨e1,e2,rfl,rfl⟩|⟨e1,rfl,rfl⟩
      .exact⟨hI4,hge2,by simp at e2;lia,by lia⟩
      .exact⟨hI3,by rw[<-hi3,show k'=0 by lia,uq3] at hge2;exact hge2,j0,by lia⟩
     refine dW (AE (Ay (show i4<a.size by lia)) ?_);have hI5:LInv κ a b (o6.push (gk a i4)).toList (i4+1) i6:=by
      rw[BT];exact hI4.one sa ∅ hge2
     refine AY (λe_=>?_) λe_=>?_
     .have e7:i4+1+1=a.size:=by simpa using e_
      exact dY (.fin hS5 _ _ _ _ _ _ _ (hI5.last sb e7 h1))
     have e7:¬(i4+1+1=a.size):=by simpa using e_
     refine AY (λe8=>?_) λe8=>?_
     .exact dY (.go hS5 _ _ _ _ _ _ hI5 ∅ j3 ∅)
     .exact dY (.mk hS5 _ _ _ _ _ _ hI5 ∅ j3 ∅)
end
section
variable{κ:KeyKind}
theorem Gq(h:x∈xs.toList.take i):∃j,j<i/\j<xs.size/\x=gk xs j:=by
 have:=Dp (xs:=xs) (i:=0) (k:=i) (x:=x) (by simpa using h);clear 5 this j h1 h2 h3;exact⟨j,h1,by lia,by rw[h3,uq2]⟩
theorem JI(h:x∈(xs.toList.take i).drop m):∃j,m<=j/\j<i/\j<xs.size/\x=gk xs j:=by
 rw[dl] at h;clear 5(Dp h)j h1 h2 h3;exact⟨m+j,by lia,by lia,h2,h3⟩
structure HInv(κ:KeyKind)(a b:Array Keyed)(out:List Keyed)(na nb:Nat):Prop where
 perm:((a.toList.take na++b.toList.take nb)++out.reverse).Perm (a.toList++b.toList)
 so:Srtd κ out.reverse
 le:∀x∈a.toList.take na++b.toList.take nb,∀y∈out,Le κ x y
variable{a b:Array Keyed}{out:List Keyed}{na nb m:Nat}
theorem HInv.swap(h:HInv κ a b out na nb):HInv κ b a out nb na:=
 ⟨((uc8 _ ud8).trans h.perm).trans ud8,h.so,λx hx y hy=>h.le x (by
  rcases um1.mp hx with q|q
  .exact ud1 _ q
  .exact ue4 _ q) y hy⟩
theorem HInv.block(h:HInv κ a b out na nb)(sa:Srtd κ a.toList)(hm:m<=na)(hc:∀x∈(a.toList.take na).drop m,∀y∈b.toList.take nb,Le κ y x):HInv κ a b (out++((a.toList.take na).drop m).reverse) m nb:=by
 have e:a.toList.take na=a.toList.take m++(a.toList.take na).drop m:=by
  have:(a.toList.take na).take m=a.toList.take m:=by rw[List.take_take,un4 hm]
  rw[<-this,ud9]
 have hst:Srtd κ (a.toList.take na):=ue0 (uh7 _ _) sa;refine⟨?_,?_,λx hx y hy=>?_⟩
 .rw[List.reverse_append,List.reverse_reverse];refine List.Perm.trans ?_ h.perm;have e2:a.toList.take na++b.toList.take nb++out.reverse=a.toList.take m++((a.toList.take na).drop m++(b.toList.take nb++out.reverse)):=by
   rw[<-ui0,<-e,ui0]
  rw[e2,ui0];refine ud7 _ ?_;rw[<-ui0,<-ui0];exact uc8 _ ud8
 .rw[List.reverse_append,List.reverse_reverse];refine ue9.mpr ⟨ue0 (ui7 _ _) hst,h.so,λx hx y hy=>h.le x (ue4 _ (List.mem_of_mem_drop hx)) y (uk7.mp hy)⟩
 .rcases um1.mp hy with q|q
  .refine h.le x ?_ y q;rcases um1.mp hx with r|r
   .rw[e];exact ue4 _ (ue4 _ r)
   .exact ud1 _ r
  .have q:=uk7.mp q;rcases um1.mp hx with r|r
   .rw[e] at hst;exact(ue9.mp hst).2.2 x r y q
   .exact hc y q x r
theorem HInv.one(h:HInv κ a b out (na+1) nb)(sa:Srtd κ a.toList)(hi:na<a.size)(hc:∀y∈b.toList.take nb,Le κ y (gk a na)):HInv κ a b (out++[gk a na]) na nb:=by
 have e:(a.toList.take (na+1)).drop na=[gk a na]:=by
  rw[dl,G2 hi,uc1];rfl
 have:=h.block (m:=na) sa (ur1 _) (λx hx y hy=>by rw[e,ug9] at hx;subst hx;exact hc y hy)
 rwa [e] at this
theorem GX:(xs.extract 0 i).toList=xs.toList.take i:=by
 have:=Eg (xs:=xs) (i:=0) (k:=i);rw[uq2] at this;rw[this,uo0]
theorem Mg{m:Nat}:((xs.extract m i).reverse).toList=((xs.toList.take i).drop m).reverse:=by
 rw[uf2,uf0];unfold List.extract;rw[dl]
theorem HInv.done(h:HInv κ a b o.toList na nb)(sa:Srtd κ a.toList)(sb:Srtd κ b.toList)(e:na=0\/nb=0):Res κ a b (a.extract 0 na++b.extract 0 nb++o.reverse):=by
 have el:(a.extract 0 na++b.extract 0 nb++o.reverse).toList=(a.toList.take na++b.toList.take nb)++o.toList.reverse:=by
  rw[ug2,ug2,GX,GX,uf2]
 refine⟨by rw[el];exact h.perm,?_⟩;rw[el];refine ue9.mpr ⟨?_,h.so,λx hx y hy=>h.le x hx y (uk7.mp hy)⟩;rcases e with e|e
 .rw[e,dm,um8];exact ue0 (uh7 _ _) sb
 .rw[e,dm,um3];exact ue0 (uh7 _ _) sa
theorem HInv.first(h:HInv κ a b o.toList na nb)(sa:Srtd κ a.toList)(e:nb=1)(h0:0<b.size)(ha:∀y∈a.toList,Le κ (gk b 0) y):Res κ a b (b.extract 0 nb++a.extract 0 na++o.reverse):=by
 have eb:b.toList.take nb=[gk b 0]:=by
  have:=G2 (xs:=b) (i:=0) h0;rw[uo0] at this;rw[this,e];rfl
 have el:(b.extract 0 nb++a.extract 0 na++o.reverse).toList=(b.toList.take nb++a.toList.take na)++o.toList.reverse:=by
  rw[ug2,ug2,GX,GX,uf2]
 refine⟨by rw[el];exact(uc8 _ ud8).trans h.perm,?_⟩;rw[el];refine ue9.mpr ⟨ue9.mpr ⟨by rw[eb];exact cz _ _,ue0 (uh7 _ _) sa,λx hx y hy=>?_⟩,h.so,λx hx y hy=>h.swap.le x hx y (uk7.mp hy)⟩;rw[eb,ug9] at hx;subst hx;exact ha y (uf3 hy)
end
def QV:Array Keyed->Array Keyed->StateT SortSt Sem (Array Keyed):=sortPriv% PySem.Builtin.mergeHi
section
variable{prog:bS}{w:bT}{A:Around}{E:bP->bR->Prop}{s:bR}{κ:KeyKind}{kd:SortKind}
theorem Srtd.pre(h:Srtd κ xs.toList){i:Nat}{y:Keyed}(hi:i<xs.size)(hy:y∈xs.toList.take (i+1)):Le κ y (gk xs i):=by
 clear 5(Gq hy)j h1 h2 rfl;exact h.at ∅ hi
theorem HInv.one'{out:List Keyed}{na nb:Nat}(h:HInv κ a b out na nb)(sa:Srtd κ a.toList)(h0:0<na)(hi:na<=a.size)(hc:∀y∈b.toList.take nb,Le κ y (gk a (na-1))):HInv κ a b (out++[gk a (na-1)]) (na-1) nb:=
 HInv.one (by rw[Nat.sub_add_cancel h0];exact h) sa ∅ hc
theorem Srtd.pre'(h:Srtd κ xs.toList){i:Nat}{y:Keyed}(h0:0<i)(hi:i<=xs.size)(hy:y∈xs.toList.take i):Le κ y (gk xs (i-1)):=
 h.pre ∅ (by rw[Nat.sub_add_cancel h0];exact hy)
structure HiC(κ:KeyKind)(a b:Array Keyed)(x na nb:Nat)(o:Array Keyed):Prop where
 I:HInv κ a b o.toList na nb
 l0:0<na
 l1:na<=a.size
 l2:1<nb
 l4:nb<=b.size
 l3:x+1+na+nb<=a.size+b.size
inductive HiI(κ:KeyKind)(a b:Array Keyed)(st:SortSt)(x:Nat):Option (Array Keyed)×Nat×Nat×Array Keyed×Nat->SortSt->Prop
 |mk {st':SortSt} (hS:Same st st') (na nb:Nat) (o:Array Keyed) (mg:Nat) (h:HiC κ a b x na nb o):HiI κ a b st x (none,na,nb,o,mg) st'
inductive HiQ(κ:KeyKind)(a b:Array Keyed)(st:SortSt):Option (Array Keyed)×Nat×Nat×Array Keyed×Nat->SortSt->Prop
 |mk {st':SortSt} (r:Array Keyed) (na nb:Nat) (o:Array Keyed) (mg:Nat) (hS:Same st st') (hR:Res κ a b r):HiQ κ a b st (some r,na,nb,o,mg) st'
inductive HiI1(κ:KeyKind)(a b:Array Keyed)(st:SortSt)(x:Nat):Option (Array Keyed)×Nat×Nat×Array Keyed×Nat×Nat->SortSt->Prop
 |mk (na nb:Nat) (o:Array Keyed) (ac bc:Nat) (h:HiC κ a b x na nb o):HiI1 κ a b st x (none,na,nb,o,ac,bc) st
inductive HiQ1(κ:KeyKind)(a b:Array Keyed)(st:SortSt)(x:Nat):Option (Array Keyed)×Nat×Nat×Array Keyed×Nat×Nat->SortSt->Prop
 |fin (r:Array Keyed) (na nb:Nat) (o:Array Keyed) (ac bc:Nat) (hR:Res κ a b r):HiQ1 κ a b st x (some r,na,nb,o,ac,bc) st
 |go (na nb:Nat) (o:Array Keyed) (ac bc:Nat) (h:HiC κ a b x na nb o):HiQ1 κ a b st x (none,na,nb,o,ac,bc) st
inductive HiI3(κ:KeyKind)(a b:Array Keyed)(st:SortSt)(x:Nat):Option (Array Keyed)×Nat×Nat×Array Keyed×Nat×Nat×Nat->SortSt->Prop
 |mk {st':SortSt} (hS:Same st st') (na nb:Nat) (o:Array Keyed) (mg ac bc:Nat) (h:HiC κ a b x na nb o):HiI3 κ a b st x (none,na,nb,o,mg,ac,bc) st'
inductive HiQ3(κ:KeyKind)(a b:Array Keyed)(st:SortSt)(x:Nat):Option (Array Keyed)×Nat×Nat×Array Keyed×Nat×Nat×Nat->SortSt->Prop
 |fin {st':SortSt} (hS:Same st st') (r:Array Keyed) (na nb:Nat) (o:Array Keyed) (mg ac bc:Nat) (hR:Res κ a b r):HiQ3 κ a b st x (some r,na,nb,o,mg,ac,bc) st'
 |go {st':SortSt} (hS:Same st st') (na nb:Nat) (o:Array Keyed) (mg ac bc:Nat) (h:HiC κ a b x na nb o):HiQ3 κ a b st x (none,na,nb,o,mg,ac,bc) st'
set_option tactic.hygienic true in
theorem L4{st:SortSt}{Q:Array Keyed->SortSt->Prop}(hL:Lts prog w A s κ kd)(hk:kindOf st=kd)(ha:∀p∈a.toList,Has κ p)(hb:∀p∈b.toList,Has κ p)(sa:Srtd κ a.toList)(sb:Srtd κ b.toList)
 (na0:0<a.size) (nb0:0<b.size) (h0:∀y∈a.toList,Le κ (gk b 0) y) (h1:∀y∈b.toList,Le κ y (gk a (a.size-1))) (h:∀r st',Same st st'->Res κ a b r->Q r st'):wpS (model prog w) A E s (QV a b) Q st:=by
 refine dW (dX (dL ⟨rfl,?_⟩));refine dW (AE (Ay (show a.size-1<a.size by lia)) ?_);have I0:HInv κ a b (#[gk a (a.size-1)]:Array Keyed).toList (a.size-1) b.size:=by
  have I:HInv κ a b [] (a.size-1+1) b.size:=⟨by
   rw[show a.size-1+1=a.toList.length by simp;lia,show b.size=b.toList.length by simp,uk8,uk8];simp,List.Pairwise.nil,λx hx y hy=>by cases hy⟩
  exact I.one sa ∅ λy hy=>h1 y (uf3 hy)
 refine AY (λe_=>?_) λe_=>?_
 .exact dY (h _ _ Same.refl (I0.done sa sb (.inl (by simpa using e_))))
 have e1:¬(a.size-1=0):=by simpa using e_
 refine AY (λe_=>?_) λe_=>?_
 .exact dY (h _ _ Same.refl (I0.first sa (by simpa using e_) nb0 h0))
 have e2:¬(b.size=1):=by simpa using e_
 refine dW (ei ?_);refine dW (dZ (dD (I:=HiI κ a b st) (Q:=HiQ κ a b st) ?step ?fin (.mk Same.refl _ _ _ _ ⟨I0,by lia,by lia,by lia,by lia,by lia⟩)) ?post)
 case fin=>
  rintro c st' ⟨hS,na,nb,o,mg,h⟩;have:=h.l3;have:=h.l0;have:=h.l2;lia
 case post=>
  rintro c st' ⟨r,na,nb,o,mg,hS,hR⟩;exact dY (h r st' hS hR)
 case step=>
  rintro x c st' _ hx ⟨hS,na,nb,o,mg,hc⟩;have hk':kindOf st'=kd:=hS.1.trans hk;refine dW (dZ (dD (I:=λ_=>HiI1 κ a b st' x) (Q:=HiQ1 κ a b st' x) ?step1 ?fin1 (.mk na nb o 0 0 hc)) ?post1)
  case fin1=>
   rintro c st2 ⟨na,nb,o,ac,bc,hc⟩;exact .go na nb o ac bc hc
  case step1=>
   rintro y c st2 _ hy ⟨na,nb,o,ac,bc,hI,l0,l1,l2,l4,l3⟩;dsimp only;refine dW (AE (Ay (show nb-1<b.size by lia)) ?_);refine dW (AE (Ay (show na-1<a.size by lia)) ?_);refine dW (GO hL hk' (hb _ (BY ∅)) (ha _ (BY ∅)) ?_)
   cases hw:ltb κ (gk b (nb-1)) (gk a (na-1)) with
   |true=>
     refine AY (λ_=>?_) λe=>absurd rfl e;refine dW (AE (Ay (show na-1<a.size by lia)) ?_);have hI2:HInv κ a b (o.push (gk a (na-1))).toList (na-1) nb:=by
      rw[BT];exact hI.one' sa l0 l1 λy hy=>c8 (sb.pre' ∅ l4 hy) (cX hw)
     refine AY (λe_=>?_) λe_=>?_
     .exact dY (.fin _ _ _ _ _ _ (hI2.done sa sb (.inl (by simpa using e_))))
     .have e3:¬(na-1=0):=by simpa using e_
      have hC:HiC κ a b x (na-1) nb (o.push (gk a (na-1))):=⟨hI2,by lia,by lia,l2,l4,by lia⟩;exact AY (λe4=>dY (.go _ _ _ _ _ hC)) λe4=>dY (.mk _ _ _ _ _ hC)
   |false=>
     refine AY (λe=>nomatch e) λ_=>?_;refine dW (AE (Ay (show nb-1<b.size by lia)) ?_);have hI2:HInv κ a b (o.push (gk b (nb-1))).toList na (nb-1):=by
      rw[BT];exact(hI.swap.one' sb ∅ l4 λy hy=>c8 (sa.pre' l0 l1 hy) (show κ.kle _ _ from hw)).swap
     refine AY (λe_=>?_) λe_=>?_
     .exact dY (.fin _ _ _ _ _ _ (hI2.first sa (by simpa using e_) nb0 h0))
     .have e3:¬(nb-1=1):=by simpa using e_
      have hC:HiC κ a b x na (nb-1) (o.push (gk b (nb-1))):=⟨hI2,l0,l1,by lia,by lia,by lia⟩;exact AY (λe4=>dY (.go _ _ _ _ _ hC)) λe4=>dY (.mk _ _ _ _ _ hC)
  case post1=>
   rintro c st2 (⟨r,na,nb,o,ac,bc,hR⟩|⟨na,nb,o,ac,bc,hc⟩)
   .exact dY (.mk r _ _ _ _ hS hR)
   .refine dW (dX (dL ⟨rfl,?_⟩));refine dW (dZ (dD (I:=λj=>HiI3 κ a b st (x+j)) (Q:=HiQ3 κ a b st (x+1)) ?step3 ?fin3 (.mk hS na nb o (mg+1) ac bc hc)) ?post3)
    case fin3=>
     rintro c st3 ⟨hS3,na,nb,o,mg,ac,bc,hI,l0,l1,l2,l4,l3⟩;exact .go hS3 na nb o mg ac bc ⟨hI,l0,l1,l2,l4,by lia⟩
    case post3=>
     rintro c st3 (⟨hS3,r,na,nb,o,mg,ac,bc,hR⟩|⟨hS3,na,nb,o,mg,ac,bc,hc⟩)
     .exact dY (.mk r _ _ _ _ hS3 hR)
     .refine dW (dM ?_);refine dY (?_:HiI κ a b st (x+1) _ _);exact .mk (by exact⟨hS3.1,hS3.2.1,hS3.2.2.1,hS3.2.2.2⟩) _ _ _ _ hc
    case step3=>
     rintro y c st3 _ hy ⟨hS3,na,nb,o,mg,ac,bc,hI,l0,l1,l2,l4,l3⟩;dsimp only;refine MX (f:=?f) (m1:=mg-1) (m:=mg) ?hX ?hY λmg2=>?h
     case hX=>generalize mg-1=z;exact rfl
     case hY=>rfl
     refine dW (IM λst4 hS4=>?_);have hk4:kindOf st4=kd:=(hS3.trans hS4).1.trans hk;have hS5:=hS3.trans hS4;refine dW (AE (Ay (show nb-1<b.size by lia)) ?_);refine dW (El (n:=na) hL hk4 (hb _ (BY ∅)) ha ∅ (λi j h1 h2 h3=>sa.at h2 ∅) ∅ λk k1 k2 k3=>?_);simp only[ug8,dR,uq2] at k2 k3;dsimp only;have hI2:HInv κ a b (o++(a.extract k na).reverse).toList k nb:=by
      rw[ug2,Mg];refine hI.block sa k1 λx hx y hy=>?_;obtain⟨j,j1,j2,_,rfl⟩:=JI hx;exact c8 (sb.pre' ∅ l4 hy) (cX (k3 j j1 j2))
     have hge:∀y∈a.toList.take k,Le κ y (gk b (nb-1)):=λy hy=>by
      obtain⟨j,j1,_,rfl⟩:=Gq hy;exact k2 j j1
     generalize hka:na-k=ka;refine MV (f:=?f2) (x1:=o) (y1:=na) (x2:=o++(a.extract k na).reverse) (y2:=k) ?hX2 ?hY2 (λ_ e=>?_) λo4 i4 hc=>?_
     case hX2=>generalize o++(a.extract k na).reverse=z;generalize k=v;exact rfl
     case hY2=>rfl
     .exact dY (.fin hS5 _ _ _ _ _ _ _ (hI2.done sa sb (.inl (by simpa using e))))
     generalize ho2:o++(a.extract k na).reverse=o2 at hI2 hc;obtain⟨hI2,hge,j0,j1,j2⟩:HInv κ a b o4.toList i4 nb/\(∀y∈a.toList.take i4,Le κ y (gk b (nb-1)))/\0<i4/\i4<=a.size/\x+y+1+i4+nb<=a.size+b.size:=by
      rcases hc with⟨e1,e2,rfl,rfl⟩|⟨e1,rfl,rfl⟩
      .exact⟨hI2,hge,by simp at e2;lia,by lia,by lia⟩
      .exact⟨hI,by rw[show k=i4 by lia] at hge;exact hge,l0,l1,l3⟩
     clear hc ho2;refine dW (AE (Ay (show nb-1<b.size by lia)) ?_);have hI3:HInv κ a b (o4.push (gk b (nb-1))).toList i4 (nb-1):=by
      rw[BT];exact(hI2.swap.one' sb ∅ l4 hge).swap
     refine AY (λe_=>?_) λe_=>?_
     .exact dY (.fin hS5 _ _ _ _ _ _ _ (hI3.first sa (by simpa using e_) nb0 h0))
     have e5:¬(nb-1=1):=by simpa using e_
     refine dW (AE (Ay (show i4-1<a.size by lia)) ?_);refine dW (El (n:=nb-1) hL hk4 (ha _ (BY ∅)) hb ∅ (λi j h1 h2 h3=>sb.at h2 ∅) ∅ λk' m1 m2 m3=>?_);simp only[d7,uq2] at m2 m3;dsimp only;have hI4:HInv κ a b (o4.push (gk b (nb-1))++(b.extract k' (nb-1)).reverse).toList i4 k':=by
      rw[ug2,Mg];refine(hI3.swap.block sb m1 λx hx y hy=>?_).swap;obtain⟨j,q1,q2,_,rfl⟩:=JI hx;exact c8 (sa.pre' j0 j1 hy) (show κ.kle _ _ from m3 j q1 q2)
     have hge2:∀y∈b.toList.take k',Le κ y (gk a (i4-1)):=λy hy=>by
      obtain⟨j,q1,_,rfl⟩:=Gq hy;exact cX (m2 j q1)
     generalize hkb:nb-1-k'=kb;refine MW (f:=?f3) (x1:=o4.push (gk b (nb-1))) (y1:=nb-1) (x2:=o4.push (gk b (nb-1))++(b.extract k' (nb-1)).reverse) (y2:=k') ?hX3 ?hY3 (λ_ e=>?_) (λ_ e=>?_) λo6 i6 hc=>?_
     case hX3=>generalize o4.push (gk b (nb-1))++(b.extract k' (nb-1)).reverse=z;generalize k'=v;exact rfl
     case hY3=>rfl
     .exact dY (.fin hS5 _ _ _ _ _ _ _ (hI4.first sa (by simpa using e) nb0 h0))
     .exact dY (.fin hS5 _ _ _ _ _ _ _ (hI4.done sa sb (.inr (by simpa using e))))
     generalize ho3:o4.push (gk b (nb-1))++(b.extract k' (nb-1)).reverse=o3 at hI4 hc;obtain⟨hI4,hge2,j3,j4,j5⟩:HInv κ a b o6.toList i4 i6/\(∀y∈b.toList.take i6,Le κ y (gk a (i4-1)))/\1<i6/\i6<=b.size/\x+2+y+i4+i6<=a.size+b.size:=by
      rcases hc with⟨e1,e2,e3,rfl,rfl⟩|⟨e1,rfl,rfl⟩
      .exact⟨hI4,hge2,by simp at e2 e3;lia,by lia,by lia⟩
      .exact⟨hI3,by rw[show k'=nb-1 by lia] at hge2;exact hge2,by lia,by lia,by lia⟩
     refine dW (AE (Ay (show i4-1<a.size by lia)) ?_);have hI5:HInv κ a b (o6.push (gk a (i4-1))).toList (i4-1) i6:=by
      rw[BT];exact hI4.one' sa j0 j1 hge2
     refine AY (λe_=>?_) λe_=>?_
     .exact dY (.fin hS5 _ _ _ _ _ _ _ (hI5.done sa sb (.inl (by simpa using e_))))
     have e7:¬(i4-1=0):=by simpa using e_
     refine AY (λe8=>dY (.go hS5 _ _ _ _ _ _ ⟨hI5,by lia,by lia,j3,j4,by lia⟩)) λe8=>dY (.mk hS5 _ _ _ _ _ _ ⟨hI5,by lia,by lia,j3,j4,by lia⟩)
end
variable{s:Nat}
theorem Ip(h:s+n<=xs.size)(hi:i<n):gk (xs.extract s (s+n)) i=gk xs (s+i):=by
 unfold gk;rw[ua5,ua5,Array.getElem?_extract,eB ∅]
theorem R1(h:s+n<=xs.size):(xs.extract s (s+n)).size=n:=by
 rw[uh1];lia
abbrev Seg(xs:Array Keyed)(s n:Nat):List Keyed:=(xs.toList.drop s).take n
theorem Fr(h:s+n<=xs.size):(Seg xs s n).length=n:=by
 rw[uj5,uj6,uf7];lia
theorem Fq:Seg xs s (m+n)=Seg xs s m++Seg xs (s+m) n:=by
 unfold Seg;rw[<-uo1,List.take_add]
variable{j:Nat}
section
variable{κ:KeyKind}
theorem IF(h:Srtd κ (Seg xs s n))(hs:s+n<=xs.size)(h1:s<=i)(h2:i<=j)(h3:j<s+n):Le κ (gk xs i) (gk xs j):=by
 have hx:Srtd κ (xs.extract s (s+n)).toList:=by rw[Eg];exact h
 have:=hx.at (i:=i-s) (j:=j-s) ∅ (by rw[R1 hs];lia);rw[Ip hs ∅,Ip hs ∅,show s+(i-s)=i by lia,show s+(j-s)=j by lia] at this;exact this
theorem C1(h:x∈Seg xs s n):∃j,j<n/\s+j<xs.size/\x=gk xs (s+j):=Dp h
def Dc(xs:Array Keyed)(base:Nat):List Keyed->Array Keyed
 |[]=>xs
 |p::r=>Dc (xs.setIfInBounds base p) (base+1) r
theorem Ho:∀{l:List Keyed}{xs:Array Keyed}{base:Nat},base+l.length<=xs.size->(Dc xs base l).toList=xs.toList.take base++l++xs.toList.drop (base+l.length)
 |[],xs,base,_=>by simp[Dc]
 |p::r,xs,base,h=>by
   rw[uj8] at h;rw[Dc,Ho (by rw[Array.size_setIfInBounds];lia),bX];have hb:base<xs.toList.length:=by simp;lia
   rw[List.take_set,List.drop_set_of_lt ∅];have e:(xs.toList.take (base+1)).set base p=xs.toList.take base++[p]:=by
    rw[List.take_succ_eq_append_getElem hb,ue1 _ _ (by rw[uj5];lia),uj5,un4 ∅,uq4];rfl
   rw[e,uj8,show base+1+r.length=base+(r.length+1) by lia];simp
theorem E6:∀{l:List Keyed}{xs:Array Keyed}{base k:Nat},(l.zipIdx k).foldl (λa (p:Keyed×Nat)=>a.setIfInBounds (base+p.2) p.1) xs=Dc xs (base+k) l
 |[],xs,base,k=>rfl
 |p::r,xs,base,k=>by
   rw[List.zipIdx_cons,List.foldl_cons,E6,Dc,uzz1]
end
variable{st':SortSt}
theorem VX{prog:bS}{w:bT}{A:Around}{E:bP->bR->Prop}{s:bR}{st:SortSt}{Q:PUnit->SortSt->Prop}(h:Q ⟨⟩ st'):wpS (model prog w) A E s (set st':StateT SortSt Sem PUnit) Q st:=by
 unfold wpS;rw[StateT.run_set];exact ur5 ⟨rfl,h⟩
def EA:Nat->StateT SortSt Sem Bool:=sortPriv% PySem.Builtin.mergeAt
variable{p:Nat}
section
variable{prog:bS}{w:bT}{A:Around}{E:bP->bR->Prop}{s:bR}{κ:KeyKind}{kd:SortKind}
structure Mrg(κ:KeyKind)(i sa n p:Nat)(st st':SortSt):Prop where
 kind:kindOf st'=kindOf st
 failed:failedOf st'=failedOf st
 pend:pendingOf st'=((pendingOf st).setIfInBounds i (sa,n,p)).eraseIdxIfInBounds (i+1)
 arr:∃M,(arrOf st').toList=(arrOf st).toList.take sa++M++(arrOf st).toList.drop (sa+n)/\M.Perm (Seg (arrOf st) sa n)/\Srtd κ M
theorem L3{st:SortSt}{sa na sb nb q:Nat}{Q:Bool->SortSt->Prop}(hL:Lts prog w A s κ kd)(hk:kindOf st=kd)(hf:failedOf st=none)(hh:∀p∈(arrOf st).toList,Has κ p)
 (e1:(pendingOf st)[i]?=some (sa,na,p)) (e2:(pendingOf st)[i+1]?=some (sb,nb,q)) (hs:sb=sa+na) (hn:sb+nb<=(arrOf st).size) (na0:0<na) (nb0:0<nb) (ra:Srtd κ (Seg (arrOf st) sa na)) (rb:Srtd κ (Seg (arrOf st) sb nb))
 (h:∀st',Mrg κ i sa (na+nb) p st st'->Q true st'):wpS (model prog w) A E s (EA i) Q st:=by
 subst hs;refine dW (ei ?_);rw[e1,e2];dsimp only;refine dW (VX ?_);obtain⟨xs,hxs⟩:∃xs,arrOf st=xs:=⟨_,rfl⟩;have hxs':(sortPriv% PySem.Builtin.SortState.a) st=xs:=hxs;rw[hxs] at hh hn ra rb;rw[hxs'];generalize hst2:SortSt.mk' _ _ _ _ _=st2;refine dW (AE (Ay (show sa+na<xs.size by lia)) ?_);have hb0:Has κ (gk xs (sa+na)):=hh _ (BY ∅);refine dW (El (n:=na) hL hk hb0 hh ∅ (λi j h1 h2 h3=>IF ra ∅ h1 h2 h3) na0 λk k1 k2 k3=>?_);simp only[ug8,dR] at k2 k3;dsimp only;have Aall:∀x∈Seg xs sa k,Le κ x (gk xs (sa+na)):=λx hx=>by
  obtain⟨j,hj,_,rfl⟩:=C1 hx;exact k2 j hj
 have Bge:∀y∈Seg xs (sa+na) nb,Le κ (gk xs (sa+na)) y:=λy hy=>by
  obtain⟨j,hj,_,rfl⟩:=C1 hy;exact IF rb hn (uq9 _) ∅ ∅
 have sId:xs.toList=xs.toList.take sa++Seg xs sa (na+nb)++xs.toList.drop (sa+(na+nb)):=by
  unfold Seg;rw[<-uo1,ui0,ud9,ud9]
 have stay:Srtd κ (Seg xs sa (na+nb))->∀st',kindOf st'=kindOf st->failedOf st'=failedOf st->arrOf st'=xs->pendingOf st'=((pendingOf st).setIfInBounds i (sa,na+nb,p)).eraseIdxIfInBounds (i+1)->Q true st':=λhs st' g1 g2 g3 g4=>
  h st' ⟨g1,g2,g4,Seg xs sa (na+nb),by rw[g3,hxs];exact sId,by rw[hxs],hs⟩
 by_cases e3:na-k=0
 .rw[eB (by simpa using e3)];refine dY (stay ?_ _ rfl rfl rfl rfl);rw[Fq];refine ue9.mpr ⟨ra,rb,λx hx y hy=>c8 (Aall x (by rw[show k=na by lia];exact hx)) (Bge y hy)⟩
 rw[eC (by simpa using e3)];have el:sa+k+(na-k)-1=sa+na-1:=by lia
 rw[el];refine dW (AE (Ay (show sa+na-1<xs.size by lia)) ?_);refine dW (El (n:=nb) hL hk (hh _ (BY (show sa+na-1<xs.size by lia))) hh hn (λi j h1 h2 h3=>IF rb hn h1 h2 h3) ∅ λm m1 m2 m3=>?_);simp only[d7] at m2 m3;dsimp only;have Ale:∀x∈Seg xs sa na,Le κ x (gk xs (sa+na-1)):=λx hx=>by
  obtain⟨j,hj,_,rfl⟩:=C1 hx;exact IF ra ∅ ∅ ∅ ∅
 by_cases e4:m=0
 .rw[eB (by simpa using e4)];refine dY (stay ?_ _ rfl rfl rfl rfl);rw[Fq];refine ue9.mpr ⟨ra,rb,λx hx y hy=>c8 (Ale x hx) ?_⟩;obtain⟨j,hj,_,rfl⟩:=C1 hy;exact m3 j ∅ hj
 rw[eC (by simpa using e4)];have eX:(xs.extract (sa+k) (sa+na)).toList=Seg xs (sa+k) (na-k):=by
  have:=Eg (xs:=xs) (i:=sa+k) (k:=na-k);rw[show sa+k+(na-k)=sa+na by lia] at this;exact this
 have eY:(xs.extract (sa+na) (sa+na+m)).toList=Seg xs (sa+na) m:=Eg;have zX:(xs.extract (sa+k) (sa+na)).size=na-k:=by rw[uh1];lia
 have zY:(xs.extract (sa+na) (sa+na+m)).size=m:=by rw[uh1];lia
 have gX:∀j,j<na-k->gk (xs.extract (sa+k) (sa+na)) j=gk xs (sa+k+j):=λj hj=>by
  have:=Ip (xs:=xs) (s:=sa+k) (n:=na-k) (i:=j) ∅ hj;rw[show sa+k+(na-k)=sa+na by lia] at this;exact this
 have gY:gk (xs.extract (sa+na) (sa+na+m)) 0=gk xs (sa+na):=Ip ∅ ∅;have sA:Seg xs sa na=Seg xs sa k++Seg xs (sa+k) (na-k):=by rw[<-Fq];congr 1;lia
 have sB:Seg xs (sa+na) nb=Seg xs (sa+na) m++Seg xs (sa+na+m) (nb-m):=by rw[<-Fq];congr 1;lia
 have rA:=ra;have rB:=rb;rw[sA] at rA;rw[sB] at rB;clear 5(ue9.mp rA)rA1 rA2 rA3;clear 5(ue9.mp rB)rB1 rB2 rB3;have Ylt:∀y∈Seg xs (sa+na) m,Le κ y (gk xs (sa+na-1)):=λy hy=>by
  obtain⟨j,hj,_,rfl⟩:=C1 hy;exact cX (m2 j hj)
 have Xgt:∀x∈Seg xs (sa+k) (na-k),Le κ (gk xs (sa+na)) x:=λx hx=>by
  obtain⟨j,hj,_,rfl⟩:=C1 hx;rw[uzz1];exact cX (k3 (k+j) ∅ ∅)
 have last:gk (xs.extract (sa+k) (sa+na)) ((xs.extract (sa+k) (sa+na)).size-1)=gk xs (sa+na-1):=by
  rw[zX,gX _ ∅];congr 1;lia
 have tail:∀(r:Array Keyed) (st':SortSt),kindOf st'=kindOf st->failedOf st'=failedOf st->arrOf st'=xs->pendingOf st'=((pendingOf st).setIfInBounds i (sa,na+nb,p)).eraseIdxIfInBounds (i+1)->Res κ (xs.extract (sa+k) (sa+na)) (xs.extract (sa+na) (sa+na+m)) r->
  Mrg κ i sa (na+nb) p st (setArr st' (Dc xs (sa+k+0) r.toList)):=λr st' g1 g2 g3 g4 hR=>by
  clear 5 hR hp hs;rw[eX,eY] at hp;have hlen:r.toList.length=na-k+m:=by
   rw[hp.length_eq,ug7,Fr ∅,Fr ∅]
  refine⟨g1,g2,g4,Seg xs sa k++r.toList++Seg xs (sa+na+m) (nb-m),?_,?_,?_⟩
  .show(Dc xs (sa+k+0) r.toList).toList=_;rw[uq3,Ho (by rw[hlen];lia),hlen,hxs];have t1:xs.toList.take (sa+k)=xs.toList.take sa++Seg xs sa k:=by rw[List.take_add]
   have t2:xs.toList.drop (sa+k+(na-k+m))=Seg xs (sa+na+m) (nb-m)++xs.toList.drop (sa+(na+nb)):=by
    have e5:sa+k+(na-k+m)=sa+na+m:=by lia
    have e6:sa+(na+nb)=sa+na+m+(nb-m):=by lia
    rw[e5,e6];unfold Seg;rw[<-uo1 (i:=nb-m),ud9]
   rw[t1,t2];simp only[ui0]
  .rw[hxs,Fq,sA,sB];simp only[ui0];refine ud7 _ ?_;rw[<-ui0 (Seg xs (sa+k) (na-k))];exact uc8 _ hp
  .have inr:∀z∈r.toList,z∈Seg xs (sa+k) (na-k)\/z∈Seg xs (sa+na) m:=λz hz=>um1.mp (hp.mem_iff.mp hz);refine ue9.mpr ⟨ue9.mpr ⟨rA1,hs,λx hx z hz=>?_⟩,rB2,λx hx y hy=>?_⟩
   .rcases inr z hz with q|q
    .exact rA3 x hx z q
    .exact c8 (Aall x hx) (Bge z (by rw[sB];exact ue4 _ q))
   .have yge:Le κ (gk xs (sa+na-1)) y:=by
     obtain⟨j,hj,_,rfl⟩:=C1 hy;rw[uzz1];exact m3 (m+j) ∅ ∅
    rcases um1.mp hx with q|q
    .exact c8 (Ale x (by rw[sA];exact ue4 _ q)) yge
    .rcases inr x q with q|q
     .exact c8 (Ale x (by rw[sA];exact ud1 _ q)) yge
     .exact c8 (Ylt x q) yge
 have hhX:∀z∈(xs.extract (sa+k) (sa+na)).toList,Has κ z:=λz hz=>by
  rw[eX] at hz;clear 5(C1 hz)j hj hl rfl;exact hh _ (BY hl)
 have hhY:∀z∈(xs.extract (sa+na) (sa+na+m)).toList,Has κ z:=λz hz=>by
  rw[eY] at hz;clear 5(C1 hz)j hj hl rfl;exact hh _ (BY hl)
 by_cases e5:na-k<=m
 .rw[eB e5];refine dW (L5 hL hk hhX hhY (by rw[eX];exact rA2) (by rw[eY];exact rB1) ∅ ∅ ?_ ?_ λr st' hS hR=>?_)
  .rw[gY,gX 0 ∅];exact cX (k3 k (uq9 _) ∅)
  .intro y hy;rw[last];rw[eY] at hy;exact Ylt y hy
  .refine dW (dM ?_);refine dW (ei ?_);have hM:=tail r st' hS.1 hS.2.2.2 hS.2.1 hS.2.2.1 hR;have e:(failedOf st').isNone=true:=by rw[hS.2.2.2.trans hf];rfl
   have fo:List.foldl (λ(a:Array Keyed) (x:Keyed×Nat)=>a.setIfInBounds (sa+k+x.2) x.1) (arrOf st') r.toList.zipIdx=Dc xs (sa+k+0) r.toList:=by
    rw[show arrOf st'=xs from hS.2.1];exact E6
   show wpS _ _ _ _ (pure (failedOf st').isNone) Q (setArr st' (List.foldl (λ(a:Array Keyed) (x:Keyed×Nat)=>a.setIfInBounds (sa+k+x.2) x.1) (arrOf st') r.toList.zipIdx));rw[e,fo];exact dY (h _ hM)
 .rw[eC e5];refine dW (L4 hL hk hhX hhY (by rw[eX];exact rA2) (by rw[eY];exact rB1) ∅ ∅ ?_ ?_ λr st' hS hR=>?_)
  .intro y hy;rw[gY];rw[eX] at hy;exact Xgt y hy
  .intro y hy;rw[last];rw[eY] at hy;exact Ylt y hy
  .refine dW (dM ?_);refine dW (ei ?_);have hM:=tail r st' hS.1 hS.2.2.2 hS.2.1 hS.2.2.1 hR;have e:(failedOf st').isNone=true:=by rw[hS.2.2.2.trans hf];rfl
   have fo:List.foldl (λ(a:Array Keyed) (x:Keyed×Nat)=>a.setIfInBounds (sa+k+x.2) x.1) (arrOf st') r.toList.zipIdx=Dc xs (sa+k+0) r.toList:=by
    rw[show arrOf st'=xs from hS.2.1];exact E6
   show wpS _ _ _ _ (pure (failedOf st').isNone) Q (setArr st' (List.foldl (λ(a:Array Keyed) (x:Keyed×Nat)=>a.setIfInBounds (sa+k+x.2) x.1) (arrOf st') r.toList.zipIdx));rw[e,fo];exact dY (h _ hM)
end
structure Loc(xs ys:Array Keyed)(lo n:Nat):Prop where
 perm:ys.Perm xs
 out:∀j,j<lo\/lo+n<=j->ys[j]?=xs[j]?
theorem Loc.refl{xs:Array Keyed}{lo n:Nat}:Loc xs xs lo n:=⟨Array.Perm.refl _,λ_ _=>rfl⟩
theorem Loc.trans{xs ys zs:Array Keyed}{lo n:Nat}(h:Loc xs ys lo n)(k:Loc ys zs lo n):Loc xs zs lo n:=⟨k.perm.trans h.perm,λj hj=>(k.out j hj).trans (h.out j hj)⟩
variable{ys:Array Keyed}{lo:Nat}
theorem Loc.wide{lo' n':Nat}(h:Loc xs ys lo n)(h1:lo'<=lo)(h2:lo+n<=lo'+n'):Loc xs ys lo' n':=⟨h.perm,λj hj=>h.out j ∅⟩
theorem Loc.size{xs ys:Array Keyed}{lo n:Nat}(h:Loc xs ys lo n):ys.size=xs.size:=h.perm.size_eq
variable{κ:KeyKind}
theorem Loc.has(h:Loc xs ys lo n)(hh:∀p∈xs.toList,Has κ p):∀p∈ys.toList,Has κ p:=λp hp=>hh p ((ua8.mp h.perm).mem_iff.mp hp)
theorem Loc.gk{xs ys:Array Keyed}{lo n j:Nat}(h:Loc xs ys lo n)(hj:j<lo\/lo+n<=j):gk ys j=Srt.gk xs j:=by
 unfold Srt.gk;rw[ua5,ua5,h.out j hj]
def RunI(κ:KeyKind)(xs:Array Keyed)(lo n:Nat):Prop:=∀i j,lo<=i->i<=j->j<lo+n->Le κ (gk xs i) (gk xs j)
theorem RunI.loc(h:RunI κ xs s m)(l:Loc xs ys lo n)(hs:s+m<=lo\/lo+n<=s):RunI κ ys s m:=λi j h1 h2 h3=>by
 rw[l.gk ∅,l.gk ∅];exact h i j h1 h2 h3
theorem RunI.one:RunI κ xs s 1:=λi j h1 h2 h3=>by
 have:i=j:=by lia
 subst this;exact dj _
structure Kept(st st':SortSt)(lo n:Nat):Prop where
 kind:kindOf st'=kindOf st
 failed:failedOf st'=failedOf st
 pend:pendingOf st'=pendingOf st
 loc:Loc (arrOf st) (arrOf st') lo n
theorem Kept.refl{st:SortSt}{lo n:Nat}:Kept st st lo n:=⟨rfl,rfl,rfl,.refl⟩
theorem Kept.trans{a b c:SortSt}{lo n:Nat}(h:Kept a b lo n)(k:Kept b c lo n):Kept a c lo n:=⟨k.kind.trans h.kind,k.failed.trans h.failed,k.pend.trans h.pend,h.loc.trans k.loc⟩
theorem ON{src d:Nat}(hs:src<xs.size)(hd:d<=src)(k:Nat):gk (bubble xs src d) k=if k=src-d then gk xs src else if src-d<k/\k<=src then gk xs (k-1) else gk xs k:=by
 have e:=getElem?_bubble hs d hd k;have g:∀{ys zs:Array Keyed}{i j:Nat},ys[i]?=zs[j]?->gk ys i=gk zs j:=λh=>by unfold gk;rw[ua5,ua5,h]
 by_cases h1:k=src-d
 .rw[eB h1] at e⊢;exact g e
 .rw[eC h1] at e⊢
  by_cases h2:src-d<k/\k<=src
  .rw[eB h2] at e⊢;exact g e
  .rw[eC h2] at e⊢;exact g e
theorem TB{src d:Nat}(hs:src<xs.size)(hd:d<=src)(h1:lo<=src-d)(h2:src<lo+n):Loc xs (bubble xs src d) lo n:=
 ⟨bubble_perm _ _ _,λj hj=>by rw[getElem?_bubble hs d hd j,eC ∅,eC ∅]⟩
theorem DR(hj:j<=xs.size)(k:Nat):gk (mirror xs i j ((j-i)/2)) k=if i<=k/\k<j then gk xs (i+j-1-k) else gk xs k:=by
 have e:=getElem?_mirror_all (i:=i) hj k;have g:∀{ys zs:Array Keyed}{i j:Nat},ys[i]?=zs[j]?->gk ys i=gk zs j:=λh=>by unfold gk;rw[ua5,ua5,h]
 by_cases h1:i<=k/\k<j
 .rw[eB h1] at e⊢;exact g e
 .rw[eC h1] at e⊢;exact g e
theorem Ei(hj:j<=xs.size)(h1:lo<=i)(h2:j<=lo+n):Loc xs (mirror xs i j ((j-i)/2)) lo n:=
 ⟨mirror_perm _ _ _ _,λk hk=>by rw[getElem?_mirror_all hj k,eC ∅]⟩
def Hh:Nat->Nat->Nat->StateT SortSt Sem Bool:=sortPriv% PySem.Builtin.binarySort
def JF:Nat->Nat->StateT SortSt Sem (Option Nat):=sortPriv% PySem.Builtin.countRun
section
variable{prog:bS}{w:bT}{A:Around}{E:bP->bR->Prop}{s:bR}{κ:KeyKind}{kd:SortKind}
theorem MY{st:SortSt}{Q:Option Bool->SortSt->Prop}(hL:Lts prog w A s κ kd)(hk:kindOf st=kd)(hh:∀p∈(arrOf st).toList,Has κ p)(hi:i<(arrOf st).size)(hj:j<(arrOf st).size)
 (h:Q (some (ltb κ (gk (arrOf st) i) (gk (arrOf st) j))) st):wpS (model prog w) A E s (ltAt' i j) Q st:=by
 rw[ltAt'_eq];refine dW (ei ?_);exact dW (AE (Ay hi) (dW (AE (Ay hj) (GO hL hk (hh _ (BY hi)) (hh _ (BY hj)) h))))
theorem Em{st:SortSt}{Q:Unit->SortSt->Prop}(h:Q () (setArr st (mirror (arrOf st) i j ((j-i)/2)))):wpS (model prog w) A E s (reverseSlice' i j) Q st:=by
 rw[reverseSlice'_eq];exact dM h
set_option tactic.hygienic true in
theorem VU{st:SortSt}{ok:Nat}{Q:Bool->SortSt->Prop}(hL:Lts prog w A s κ kd)(hk:kindOf st=kd)(hh:∀p∈(arrOf st).toList,Has κ p)(hn:lo+n<=(arrOf st).size)(hok:ok<=n)(hs:RunI κ (arrOf st) lo ok)
 (h:∀st',Kept st st' lo n->RunI κ (arrOf st') lo n->Q true st'):wpS (model prog w) A E s (Hh lo n ok) Q st:=by
 refine dW (dZ (dD (I:=λk c st'=>c=(none,())/\Kept st st' lo n/\RunI κ (arrOf st') lo (min k n))
  (Q:=λc st'=>c=(none,())/\Kept st st' lo n/\RunI κ (arrOf st') lo n) ?step ?fin ?init) ?post)
 case post=>
  rintro c st' ⟨rfl,hB',hs'⟩;exact dY (h st' hB' hs')
 case init=>
  refine⟨rfl,.refl,λi j h1 h2 h3=>?_⟩
  by_cases e:ok=0
  .have:i=j:=by lia
   subst this;exact dj _
  .exact hs i j h1 h2 ∅
 case fin=>
  rintro c st' ⟨hc,hB',hs'⟩;refine⟨hc,hB',?_⟩
  rwa [show min (max (max ok 1) n) n=n by lia] at hs'
 case step=>
  rintro k c st' hak hkn ⟨rfl,hB',hs'⟩;rw[show min k n=k by lia] at hs';have hsz:(arrOf st').size=(arrOf st).size:=hB'.loc.size;have hh':=hB'.loc.has hh;have hk':kindOf st'=kd:=hB'.kind.trans hk;have hks:lo+k<(arrOf st').size:=by lia
  refine dW (dZ (dD (I:=λx c st''=>st''=st'/\∃l r,c=(none,l,r)/\l<=r/\r<=k/\r-l<=k-x/\
   (∀i,i<l->Le κ (gk (arrOf st') (lo+i)) (gk (arrOf st') (lo+k)))/\(∀i,r<=i->i<k->Le κ (gk (arrOf st') (lo+k)) (gk (arrOf st') (lo+i))))
   (Q:=λc st''=>st''=st'/\∃l r,c=(none,l,r)/\l<=k/\
     (∀i,i<l->Le κ (gk (arrOf st') (lo+i)) (gk (arrOf st') (lo+k)))/\(∀i,l<=i->i<k->Le κ (gk (arrOf st') (lo+k)) (gk (arrOf st') (lo+i)))) ?istep ?ifin ?iinit) ?ipost)
  case iinit=>exact⟨rfl,0,k,rfl,by lia,by lia,by lia,λi hi=>by lia,λi h1 h2=>by lia⟩
  case ifin=>
   rintro c st'' ⟨rfl,l,r,rfl,hlr,hrk,hm,hlo,hhi⟩;have:l=r:=by lia
   subst this;exact⟨rfl,l,l,rfl,hrk,hlo,hhi⟩
  case istep=>
   rintro x c st'' _ hxk ⟨rfl,l,r,rfl,hlr,hrk,hm,hlo,hhi⟩;dsimp only
   by_cases hge:l ≥ r
   .rw[eB hge];have:l=r:=by lia
    subst this;exact dY ⟨rfl,l,l,rfl,hrk,hlo,hhi⟩
   .rw[eC hge];refine dW (MY hL hk' hh' hks (show lo+(l+r)/2<_ by lia) ?_)
    cases hless:ltb κ (gk (arrOf st'') (lo+k)) (gk (arrOf st'') (lo+(l+r)/2)) with
    |true=>
      simp only[d7];refine dY ⟨rfl,l,(l+r)/2,rfl,by lia,by lia,by lia,hlo,λi h1 h2=>?_⟩;exact c8 (cX hless) (hs' _ _ ∅ ∅ ∅)
    |false=>
      simp only[ug8,dR];refine dY ⟨rfl,(l+r)/2+1,r,rfl,by lia,by lia,by lia,λi h1=>?_,hhi⟩;exact c8 (hs' (lo+i) (lo+(l+r)/2) ∅ ∅ ∅) (show κ.kle _ _ from hless)
  case ipost=>
   rintro c st'' ⟨rfl,l,r,rfl,hlk,hlo,hhi⟩;show wpS _ _ _ _ (do moveDown' (lo+k) (lo+l);pure (ForInStep.yield (none,()))) _ _;rw[moveDown'_eq];have hd:lo+k-(lo+l)=k-l:=by lia
   rw[hd];refine dW (dM (dY ⟨rfl,hB'.trans ⟨rfl,rfl,rfl,TB hks ∅ ∅ ∅⟩,?_⟩));rw[show min (k+1) n=k+1 by lia];intro i j h1 h2 h3;show Le κ (gk (bubble (arrOf st'') (lo+k) (k-l)) i) (gk (bubble (arrOf st'') (lo+k) (k-l)) j);rw[ON hks ∅,ON hks ∅,show lo+k-(k-l)=lo+l by lia];have L1:∀i,lo<=i->i<lo+l->Le κ (gk (arrOf st'') i) (gk (arrOf st'') (lo+k)):=λi a b=>by
    have:=hlo (i-lo) ∅
    rwa [show lo+(i-lo)=i by lia] at this
   have L2:∀i,lo+l<=i->i<lo+k->Le κ (gk (arrOf st'') (lo+k)) (gk (arrOf st'') i):=λi a b=>by
    have:=hhi (i-lo) ∅ ∅
    rwa [show lo+(i-lo)=i by lia] at this
   repeat' split
   all_goals first
    |(exfalso;lia)
    |exact dj _
    |exact L1 _ ∅ ∅
    |exact L2 _ ∅ ∅
    |exact hs' _ _ ∅ ∅ ∅
end
variable{nrem:Nat}
section
variable{prog:bS}{w:bT}{A:Around}{E:bP->bR->Prop}{s:bR}{κ:KeyKind}{kd:SortKind}
def FC(κ:KeyKind)(xs:Array Keyed)(lo n:Nat):Prop:=∀i j,lo<=i->i<=j->j<lo+n->Le κ (gk xs j) (gk xs i)
set_option tactic.hygienic true in
theorem MU{st:SortSt}{a:Nat}{f:Nat->Option (Option Nat)×Nat->StateT SortSt Sem (ForInStep (Option (Option Nat)×Nat))}{Q:Option (Option Nat)×Nat->SortSt->Prop}(ha:1<=a)(han:a<=nrem)(hs:RunI κ (arrOf st) lo a)
 (hf:∀(x n:Nat) (R:ForInStep (Option (Option Nat)×Nat)->SortSt->Prop),a<=n->n<nrem->R (if ltb κ (gk (arrOf st) (lo+n)) (gk (arrOf st) (lo+n-1))=true then .done (none,n) else .yield (none,n+1)) st->wpS (model prog w) A E s (f x (none,n)) R st)
 (h:∀n,a<=n->n<=nrem->RunI κ (arrOf st) lo n->(n=nrem\/ltb κ (gk (arrOf st) (lo+n)) (gk (arrOf st) (lo+n-1))=true)->Q (none,n) st) :
 wpS (model prog w) A E s (forIn [a:nrem] ((none,a):Option (Option Nat)×Nat) f) Q st:=by
 refine dD (I:=λx c st'=>st'=st/\c=(none,x)/\RunI κ (arrOf st) lo x) ?step ?fin ⟨rfl,rfl,hs⟩
 case fin=>
  rintro c st' ⟨rfl,rfl,hs'⟩;rw[show max a nrem=nrem by lia] at hs'⊢;exact h nrem han (uq9 _) hs' (.inl rfl)
 case step=>
  rintro x c st' hax hxn ⟨rfl,rfl,hs'⟩;refine hf x x _ hax hxn ?_
  cases hless:ltb κ (gk (arrOf st') (lo+x)) (gk (arrOf st') (lo+x-1)) with
  |true=>
    rw[eB rfl];exact h x hax ∅ hs' (.inr hless)
  |false=>
    rw[eC ug6];refine⟨rfl,rfl,λi j h1 h2 h3=>?_⟩
    by_cases hjx:j<lo+x
    .exact hs' i j h1 h2 hjx
    .have hj':j=lo+x:=by lia
     subst hj'
     by_cases hi':i=lo+x
     .subst hi';exact dj _
     .exact c8 (hs' i (lo+x-1) h1 ∅ ∅) (show κ.kle _ _ from hless)
theorem IN{st0 st:SortSt}{f:Nat->Option (Option Nat)×Nat->StateT SortSt Sem (ForInStep (Option (Option Nat)×Nat))}{g:Option (Option Nat)×Nat->StateT SortSt Sem (Option Nat)}
 (K:Kept st0 st lo nrem) (hn:lo+nrem<=(arrOf st0).size) (h1:1<=n) (hnn:n<=nrem) (hs:FC κ (arrOf st) lo n)
 (hf:∀(st':SortSt) (x m:Nat) (R:ForInStep (Option (Option Nat)×Nat)->SortSt->Prop),Kept st0 st' lo nrem->n<=m->m<nrem->R (if ltb κ (gk (arrOf st') (lo+m)) (gk (arrOf st') (lo+m-1))=true then .done (none,m) else .yield (none,m+1)) st'->wpS (model prog w) A E s (f x (none,m)) R st')
 (hg:∀(m:Nat) (st':SortSt),Kept st0 st' lo nrem->1<=m->m<=nrem->RunI κ (arrOf st') lo m->wpS (model prog w) A E s (g (none,m)) Q st') :
 wpS (model prog w) A E s (reverseSlice' lo (lo+n) >>= λ_=>forIn [n:nrem] ((none,n):Option (Option Nat)×Nat) f >>= g) Q st:=by
 have hsz:(arrOf st).size=(arrOf st0).size:=K.loc.size;refine dW (Em ?_);have K2:Kept st0 (setArr st (mirror (arrOf st) lo (lo+n) ((lo+n-lo)/2))) lo nrem:=K.trans ⟨rfl,rfl,rfl,Ei ∅ (uq9 _) ∅⟩;have hr:RunI κ (mirror (arrOf st) lo (lo+n) ((lo+n-lo)/2)) lo n:=λi j a1 a2 a3=>by
  rw[DR ∅,DR ∅,eB ∅,eB ∅];exact hs _ _ ∅ ∅ ∅
 refine dW (MU (lo:=lo) h1 hnn hr (λx m R b1 b2 hR=>hf _ x m R K2 b1 b2 hR) λm b1 b2 hm _=>hg m _ K2 ∅ b2 hm)
set_option tactic.hygienic true in
theorem VW{st:SortSt}(hL:Lts prog w A s κ kd)(hk:kindOf st=kd)(hh:∀p∈(arrOf st).toList,Has κ p)(hn:lo+nrem<=(arrOf st).size)(h1:1<=nrem)
 (h:∀m st',Kept st st' lo nrem->1<=m->m<=nrem->RunI κ (arrOf st') lo m->Q (some m) st'):wpS (model prog w) A E s (JF lo nrem) Q st:=by
 have go:∀(st':SortSt) (i j:Nat) (R:Option Bool->SortSt->Prop),Kept st st' lo nrem->i<lo+nrem->j<lo+nrem->R (some (ltb κ (gk (arrOf st') i) (gk (arrOf st') j))) st'->wpS (model prog w) A E s (ltAt' i j) R st':=λst' i j R K hi hj hR=>
  MY hL (K.kind.trans hk) (K.loc.has hh) (by rw[K.loc.size];lia) (by rw[K.loc.size];lia) hR
 refine dW (MU (κ:=κ) (lo:=lo) (a:=1) (uq9 1) h1 .one (λx n R a1 a2 hR=>?_) λn n1 n2 hsn hor=>?_)
 .refine dW (go st _ _ _ .refl ∅ ∅ ?_)
  cases hb:ltb κ (gk (arrOf st) (lo+n)) (gk (arrOf st) (lo+n-1)) with
  |true=>rw[hb] at hR;exact dY hR
  |false=>rw[hb] at hR;exact dY hR
 dsimp only
 by_cases e1:n=nrem
 .rw[eB (by simpa using e1)];exact dY (h n st .refl n1 n2 hsn)
 rw[eC (by simpa using e1)];have hlt:=hor.resolve_left e1
 by_cases e2:n > 1
 .rw[eB e2];refine dW (go st _ _ _ .refl ∅ ∅ ?_)
  cases hrose:ltb κ (gk (arrOf st) lo) (gk (arrOf st) (lo+n-1)) with
  |true=>
    simp only[d7];exact dY (h n st .refl n1 n2 hsn)
  |false=>
    simp only[ug8,dR];have hall:∀k,lo<=k->k<lo+n->kk κ (gk (arrOf st) k)=kk κ (gk (arrOf st) (lo+n-1)):=λk a1 a2=>
     cO (hsn k (lo+n-1) a1 ∅ ∅) (c8 (show κ.kle _ _ from hrose) (hsn lo k (uq9 _) a1 a2))
    refine dW (Em ?_);generalize hst1:setArr st (mirror (arrOf st) lo (lo+n) ((lo+n-lo)/2))=st1;have K1:Kept st st1 lo nrem:=by rw[<-hst1];exact⟨rfl,rfl,rfl,Ei ∅ (uq9 _) ∅⟩
    have hN:FC κ (arrOf st1) lo (n+1):=by
     rw[<-hst1];have e:∀k,k<lo+n->lo<=k->kk κ (gk (mirror (arrOf st) lo (lo+n) ((lo+n-lo)/2)) k)=kk κ (gk (arrOf st) (lo+n-1)):=λk a1 a2=>by
      rw[DR ∅,eB ∅];exact hall _ ∅ ∅
     intro i j a1 a2 a3;show κ.kle (kk κ (gk (mirror (arrOf st) lo (lo+n) ((lo+n-lo)/2)) j)) (kk κ (gk (mirror (arrOf st) lo (lo+n) ((lo+n-lo)/2)) i))
     by_cases hj:j<lo+n
     .rw[e i ∅ a1,e j hj ∅];exact dj _
     .have hj':j=lo+n:=by lia
      subst hj'
      by_cases hi:i=lo+n
      .subst hi;exact dj _
      .rw[e i ∅ a1,DR ∅,eC ∅];exact cX hlt
    refine dW (dX (dL ⟨rfl,?_⟩));refine dW (dZ (dD (I:=λx c st'=>∃neq,c=(none,x,neq)/\Kept st st' lo nrem/\FC κ (arrOf st') lo x/\neq+1<=x/\(∀i,lo+x-(neq+1)<=i->i<lo+x->kk κ (gk (arrOf st') i)=kk κ (gk (arrOf st') (lo+x-1))))
     (Q:=λc st'=>∃x neq,c=(none,x,neq)/\n+1<=x/\x<=nrem/\Kept st st' lo nrem/\FC κ (arrOf st') lo x/\neq+1<=x/\(∀i,lo+x-(neq+1)<=i->i<lo+x->kk κ (gk (arrOf st') i)=kk κ (gk (arrOf st') (lo+x-1)))) ?step ?fin ⟨0,rfl,K1,hN,by lia,λi h1 h2=>by rw[show i=lo+(n+1)-1 by lia]⟩) ?post)
    case fin=>
     rintro c st' ⟨neq,rfl,b1,b2,b3,b4⟩;rw[show max (n+1) nrem=nrem by lia] at b2 b3 b4⊢;exact⟨nrem,neq,rfl,by lia,uq9 _,b1,b2,b3,b4⟩
    case step=>
     rintro x c st' hax hxn ⟨neq,rfl,b1,b2,b3,b4⟩;have hsz:(arrOf st').size=(arrOf st).size:=b1.loc.size;dsimp only;refine dW (go st' _ _ _ b1 ∅ ∅ ?_)
     cases hless:ltb κ (gk (arrOf st') (lo+x)) (gk (arrOf st') (lo+x-1)) with
     |true=>
       simp only[d7];have step1:∀xs:Array Keyed,(∀k,k<lo+x+1->kk κ (gk xs k)=kk κ (gk (arrOf st') k))->FC κ xs lo (x+1):=by
        intro xs hkx i j a1 a2 a3;show κ.kle (kk κ (gk xs j)) (kk κ (gk xs i));rw[hkx i ∅,hkx j ∅]
        by_cases hjx:j<lo+x
        .exact b2 i j a1 a2 hjx
        .have hj':j=lo+x:=by lia
         subst hj'
         by_cases hi':i=lo+x
         .subst hi';exact dj _
         .exact c8 (cX hless) (b2 i (lo+x-1) a1 ∅ ∅)
       by_cases hneq:neq > 0
       .rw[eB hneq];refine dW (Em (dY ⟨0,rfl,b1.trans ⟨rfl,rfl,rfl,Ei ∅ ∅ ∅⟩,step1 _ (λk hk=>?_),by lia,λi h1 h2=>by rw[show i=lo+(x+1)-1 by lia]⟩));rw[DR ∅]
        by_cases hkk:lo+x-(neq+1)<=k/\k<lo+x
        .rw[eB hkk,b4 _ ∅ ∅,b4 k hkk.1 hkk.2]
        .rw[eC hkk]
       .rw[eC hneq];exact dY ⟨0,rfl,b1,step1 _ (λ_ _=>rfl),by lia,λi h1 h2=>by rw[show i=lo+(x+1)-1 by lia]⟩
     |false=>
       simp only[ug8,dR];refine dW (go st' _ _ _ b1 ∅ ∅ ?_)
       cases hlarger:ltb κ (gk (arrOf st') (lo+x-1)) (gk (arrOf st') (lo+x)) with
       |true=>
         simp only[d7];exact dY ⟨x,neq,rfl,hax,by lia,b1,b2,b3,b4⟩
       |false=>
         simp only[ug8,dR];have heqx:kk κ (gk (arrOf st') (lo+x))=kk κ (gk (arrOf st') (lo+x-1)):=cO (show κ.kle _ _ from hlarger) (show κ.kle _ _ from hless);refine dY ⟨neq+1,rfl,b1,λi j a1 a2 a3=>?_,by lia,λi h1 h2=>?_⟩
         .by_cases hjx:j<lo+x
          .exact b2 i j a1 a2 hjx
          .have hj':j=lo+x:=by lia
           subst hj'
           by_cases hi':i=lo+x
           .subst hi';exact dj _
           .show κ.kle (kk κ _) (kk κ _);rw[heqx];exact b2 i (lo+x-1) a1 ∅ ∅
         .rw[show lo+(x+1)-1=lo+x by lia]
          by_cases hix:i=lo+x
          .subst hix;rfl
          .rw[heqx];exact b4 i ∅ ∅
    case post=>
     rintro c st' ⟨x,neq,rfl,c1,c2,b1,b2,b3,b4⟩;have hsz:(arrOf st').size=(arrOf st).size:=b1.loc.size;dsimp only
     by_cases hneq:neq > 0
     .rw[eB hneq];refine dW (Em ?_);refine IN (b1.trans ⟨rfl,rfl,rfl,Ei ∅ ∅ ∅⟩) hn ∅ c2 (λi j a1 a2 a3=>?_) (λst2 y m R k1 a1 a2 hR=>?_) λm st2 k1 a1 a2 hr=>dY (h m st2 k1 a1 a2 hr)
      .have e:∀k,k<lo+x->kk κ (gk (mirror (arrOf st') (lo+x-(neq+1)) (lo+x) ((lo+x-(lo+x-(neq+1)))/2)) k)=kk κ (gk (arrOf st') k):=λk hk=>by
        rw[DR ∅]
        by_cases hkk:lo+x-(neq+1)<=k/\k<lo+x
        .rw[eB hkk,b4 _ ∅ ∅,b4 k hkk.1 hkk.2]
        .rw[eC hkk]
       show κ.kle (kk κ (gk (mirror (arrOf st') (lo+x-(neq+1)) (lo+x) ((lo+x-(lo+x-(neq+1)))/2)) j)) (kk κ (gk (mirror (arrOf st') (lo+x-(neq+1)) (lo+x) ((lo+x-(lo+x-(neq+1)))/2)) i));rw[e i ∅,e j a3];exact b2 i j a1 a2 a3
      .refine dW (go st2 _ _ _ k1 ∅ ∅ ?_)
       cases hb:ltb κ (gk (arrOf st2) (lo+m)) (gk (arrOf st2) (lo+m-1)) with
       |true=>rw[hb] at hR;exact dY hR
       |false=>rw[hb] at hR;exact dY hR
     .rw[eC hneq];refine IN b1 hn ∅ c2 b2 (λst2 y m R k1 a1 a2 hR=>?_) λm st2 k1 a1 a2 hr=>dY (h m st2 k1 a1 a2 hr);refine dW (go st2 _ _ _ k1 ∅ ∅ ?_)
      cases hb:ltb κ (gk (arrOf st2) (lo+m)) (gk (arrOf st2) (lo+m-1)) with
      |true=>rw[hb] at hR;exact dY hR
      |false=>rw[hb] at hR;exact dY hR
 .rw[eC e2];have hn1:n=1:=by lia
  subst hn1;have K1:Kept st st lo nrem:=.refl;have hN:FC κ (arrOf st) lo (1+1):=λi j a1 a2 a3=>by
   by_cases hi:i=j
   .subst hi;exact dj _
   .have hi0:i=lo:=by lia
    have hj1:j=lo+1:=by lia
    subst hi0;subst hj1;refine cX ?_;have hlt:ltb κ (gk (arrOf st) (i+1)) (gk (arrOf st) (i+1-1))=true:=hlt;rw[Nat.add_sub_cancel] at hlt;exact hlt
  refine dW (dX (dL ⟨rfl,?_⟩));refine dW (dZ (dD (I:=λx c st'=>∃neq,c=(none,x,neq)/\Kept st st' lo nrem/\FC κ (arrOf st') lo x/\neq+1<=x/\(∀i,lo+x-(neq+1)<=i->i<lo+x->kk κ (gk (arrOf st') i)=kk κ (gk (arrOf st') (lo+x-1))))
   (Q:=λc st'=>∃x neq,c=(none,x,neq)/\1+1<=x/\x<=nrem/\Kept st st' lo nrem/\FC κ (arrOf st') lo x/\neq+1<=x/\(∀i,lo+x-(neq+1)<=i->i<lo+x->kk κ (gk (arrOf st') i)=kk κ (gk (arrOf st') (lo+x-1)))) ?step ?fin ⟨0,rfl,K1,hN,by lia,λi h1 h2=>by rw[show i=lo+(1+1)-1 by lia]⟩) ?post)
  case fin=>
   rintro c st' ⟨neq,rfl,b1,b2,b3,b4⟩;rw[show max (1+1) nrem=nrem by lia] at b2 b3 b4⊢;exact⟨nrem,neq,rfl,by lia,uq9 _,b1,b2,b3,b4⟩
  case step=>
   rintro x c st' hax hxn ⟨neq,rfl,b1,b2,b3,b4⟩;have hsz:(arrOf st').size=(arrOf st).size:=b1.loc.size;dsimp only;refine dW (go st' _ _ _ b1 ∅ ∅ ?_)
   cases hless:ltb κ (gk (arrOf st') (lo+x)) (gk (arrOf st') (lo+x-1)) with
   |true=>
     simp only[d7];have step1:∀xs:Array Keyed,(∀k,k<lo+x+1->kk κ (gk xs k)=kk κ (gk (arrOf st') k))->FC κ xs lo (x+1):=by
      intro xs hkx i j a1 a2 a3;show κ.kle (kk κ (gk xs j)) (kk κ (gk xs i));rw[hkx i ∅,hkx j ∅]
      by_cases hjx:j<lo+x
      .exact b2 i j a1 a2 hjx
      .have hj':j=lo+x:=by lia
       subst hj'
       by_cases hi':i=lo+x
       .subst hi';exact dj _
       .exact c8 (cX hless) (b2 i (lo+x-1) a1 ∅ ∅)
     by_cases hneq:neq > 0
     .rw[eB hneq];refine dW (Em (dY ⟨0,rfl,b1.trans ⟨rfl,rfl,rfl,Ei ∅ ∅ ∅⟩,step1 _ (λk hk=>?_),by lia,λi h1 h2=>by rw[show i=lo+(x+1)-1 by lia]⟩));rw[DR ∅]
      by_cases hkk:lo+x-(neq+1)<=k/\k<lo+x
      .rw[eB hkk,b4 _ ∅ ∅,b4 k hkk.1 hkk.2]
      .rw[eC hkk]
     .rw[eC hneq];exact dY ⟨0,rfl,b1,step1 _ (λ_ _=>rfl),by lia,λi h1 h2=>by rw[show i=lo+(x+1)-1 by lia]⟩
   |false=>
     simp only[ug8,dR];refine dW (go st' _ _ _ b1 ∅ ∅ ?_)
     cases hlarger:ltb κ (gk (arrOf st') (lo+x-1)) (gk (arrOf st') (lo+x)) with
     |true=>
       simp only[d7];exact dY ⟨x,neq,rfl,hax,by lia,b1,b2,b3,b4⟩
     |false=>
       simp only[ug8,dR];have heqx:kk κ (gk (arrOf st') (lo+x))=kk κ (gk (arrOf st') (lo+x-1)):=cO (show κ.kle _ _ from hlarger) (show κ.kle _ _ from hless);refine dY ⟨neq+1,rfl,b1,λi j a1 a2 a3=>?_,by lia,λi h1 h2=>?_⟩
       .by_cases hjx:j<lo+x
        .exact b2 i j a1 a2 hjx
        .have hj':j=lo+x:=by lia
         subst hj'
         by_cases hi':i=lo+x
         .subst hi';exact dj _
         .show κ.kle (kk κ _) (kk κ _);rw[heqx];exact b2 i (lo+x-1) a1 ∅ ∅
       .rw[show lo+(x+1)-1=lo+x by lia]
        by_cases hix:i=lo+x
        .subst hix;rfl
        .rw[heqx];exact b4 i ∅ ∅
  case post=>
   rintro c st' ⟨x,neq,rfl,c1,c2,b1,b2,b3,b4⟩;have hsz:(arrOf st').size=(arrOf st).size:=b1.loc.size;dsimp only
   by_cases hneq:neq > 0
   .rw[eB hneq];refine dW (Em ?_);refine IN (b1.trans ⟨rfl,rfl,rfl,Ei ∅ ∅ ∅⟩) hn ∅ c2 (λi j a1 a2 a3=>?_) (λst2 y m R k1 a1 a2 hR=>?_) λm st2 k1 a1 a2 hr=>dY (h m st2 k1 a1 a2 hr)
    .have e:∀k,k<lo+x->kk κ (gk (mirror (arrOf st') (lo+x-(neq+1)) (lo+x) ((lo+x-(lo+x-(neq+1)))/2)) k)=kk κ (gk (arrOf st') k):=λk hk=>by
      rw[DR ∅]
      by_cases hkk:lo+x-(neq+1)<=k/\k<lo+x
      .rw[eB hkk,b4 _ ∅ ∅,b4 k hkk.1 hkk.2]
      .rw[eC hkk]
     show κ.kle (kk κ (gk (mirror (arrOf st') (lo+x-(neq+1)) (lo+x) ((lo+x-(lo+x-(neq+1)))/2)) j)) (kk κ (gk (mirror (arrOf st') (lo+x-(neq+1)) (lo+x) ((lo+x-(lo+x-(neq+1)))/2)) i));rw[e i ∅,e j a3];exact b2 i j a1 a2 a3
    .refine dW (go st2 _ _ _ k1 ∅ ∅ ?_)
     cases hb:ltb κ (gk (arrOf st2) (lo+m)) (gk (arrOf st2) (lo+m-1)) with
     |true=>rw[hb] at hR;exact dY hR
     |false=>rw[hb] at hR;exact dY hR
   .rw[eC hneq];refine IN b1 hn ∅ c2 b2 (λst2 y m R k1 a1 a2 hR=>?_) λm st2 k1 a1 a2 hr=>dY (h m st2 k1 a1 a2 hr);refine dW (go st2 _ _ _ k1 ∅ ∅ ?_)
    cases hb:ltb κ (gk (arrOf st2) (lo+m)) (gk (arrOf st2) (lo+m-1)) with
    |true=>rw[hb] at hR;exact dY hR
    |false=>rw[hb] at hR;exact dY hR
end
theorem Mm(h:i<xs.size):xs.toList[i]?=some (gk xs i):=by
 rw[ud4];exact Ay h
theorem Jo(h:RunI κ xs s n)(hs:s+n<=xs.size):Srtd κ (Seg xs s n):=by
 refine ub3.mpr λi j hi hj hij=>?_;rw[Fr hs] at hi hj;have e:∀k (hk:k<(Seg xs s n).length),(Seg xs s n)[k]=gk xs (s+k):=λk hk=>by
  rw[Fr hs] at hk;have:=Mm (xs:=xs) (i:=s+k) ∅;rw[List.getElem_take,ui6];exact ul9 ((ub5 (by simp;lia)).symm.trans this)
 rw[e,e];exact h _ _ ∅ ∅ ∅
theorem Us{sa:Nat}{st:SortSt}(m:Mrg κ i sa n p st st')(hn:sa+n<=(arrOf st).size):Loc (arrOf st) (arrOf st') sa n/\RunI κ (arrOf st') sa n:=by
 clear 5 m.arr M e hp hs;have hl:M.length=n:=by rw[hp.length_eq,Fr hn]
 have e0:(arrOf st).toList=(arrOf st).toList.take sa++Seg (arrOf st) sa n++(arrOf st).toList.drop (sa+n):=by
  unfold Seg;rw[<-uo1,ui0,ud9,ud9]
 have hp2:(arrOf st').toList.Perm (arrOf st).toList:=by
  rw[e]
  conv=>rhs;rw[e0]
  exact uc8 _ (ud7 _ hp)
 have ht:((arrOf st).toList.take sa).length=sa:=by rw[uj5,uf7];lia
 have hout:∀j,j<sa\/sa+n<=j->(arrOf st')[j]?=(arrOf st)[j]?:=λj hj=>by
  rw[<-ud4,<-ud4,e];rcases hj with hj|hj
  .rw[ui0,ub1 ∅,List.getElem?_take,eB hj]
  .rw[ua6 (by rw[ug7];lia),ug7,ht,hl,List.getElem?_drop]
   congr 1;lia
 have hloc:Loc (arrOf st) (arrOf st') sa n:=⟨ua8.mpr hp2,hout⟩;refine⟨hloc,λa b h1 h2 h3=>?_⟩;have g:∀k,k<n->M[k]?=some (gk (arrOf st') (sa+k)):=λk hk=>by
  have:=Mm (xs:=arrOf st') (i:=sa+k) (by rw[hloc.size];lia);rw[e,ui0,ua6 ∅,ht,ub1 ∅] at this;rw[<-this];congr 1;lia
 by_cases hab:a=b
 .subst hab;exact dj _
 .have g1:=g (a-sa) ∅;have g2:=g (b-sa) ∅;rw[ub5 ∅] at g1 g2;have:=ub3.mp hs (a-sa) (b-sa) ∅ ∅ ∅;rw[ul9 g1,ul9 g2,show sa+(a-sa)=a by lia,show sa+(b-sa)=b by lia] at this;exact this
inductive Pend(κ:KeyKind)(xs:Array Keyed):List (Nat×Nat×Nat)->Nat->Prop
 |nil:Pend κ xs [] 0
 |snoc {l:List (Nat×Nat×Nat)}{lo n p:Nat}:Pend κ xs l lo->0<n->RunI κ xs lo n->Pend κ xs (l++[(lo,n,p)]) (lo+n)
variable{hi:Nat}
theorem Pend.len{l:List (Nat×Nat×Nat)}(h:Pend κ xs l hi):l.length<=hi:=by
 induction h with
 |nil=>exact uq9 _
 |snoc h h1 _ ih=>rw[ug7,ud3];lia
theorem Pend.loc{κ:KeyKind}{xs ys:Array Keyed}{l:List (Nat×Nat×Nat)}{hi lo n:Nat}(h:Pend κ xs l hi)(k:Loc xs ys lo n)(hh:hi<=lo):Pend κ ys l hi:=by
 induction h with
 |nil=>exact .nil
 |snoc h h1 h2 ih=>exact .snoc (ih ∅) h1 (h2.loc k (.inl hh))
theorem Pend.last{l:List (Nat×Nat×Nat)}(h:Pend κ xs l hi)(hl:l≠[]):∃l0 lo n p,l=l0++[(lo,n,p)]/\hi=lo+n/\0<n/\RunI κ xs lo n/\Pend κ xs l0 lo:=by
 cases h with
 |nil=>exact absurd rfl hl
 |snoc h h1 h2=>exact⟨_,_,_,_,rfl,rfl,h1,h2,h⟩
theorem Pend.repow{l:List (Nat×Nat×Nat)}{q:Nat}(h:Pend κ xs (l++[(lo,n,p)]) hi):Pend κ xs (l++[(lo,n,q)]) hi:=by
 clear 5(h.last (by simp))l0 lo' n' p' e e2 h1 h2 h3;clear 5(List.append_inj' e rfl)r1 r2;injection r2 with r2 _
 injection r2 with r2 r3
 injection r3 with r3 _
 subst r1 r2 r3 e2;exact .snoc h3 h1 h2
theorem Pend.two{κ:KeyKind}{xs:Array Keyed}:∀{l:List (Nat×Nat×Nat)}{hi i:Nat},Pend κ xs l hi->i+1<l.length->∃(a b:List (Nat×Nat×Nat)) (sa na p nb q:Nat),l=a++(sa,na,p)::(sa+na,nb,q)::b/\a.length=i/\0<na/\0<nb/\RunI κ xs sa na/\RunI κ xs (sa+na) nb/\sa+na+nb<=hi/\
 ∀{ys:Array Keyed}{r:Nat},Loc xs ys sa (na+nb)->RunI κ ys sa (na+nb)->Pend κ ys (a++(sa,na+nb,r)::b) hi
 |_,_,i,.nil,h=>by simp at h
 |_,_,i,.snoc (l:=l) (lo:=lo) (n:=n) (p:=p) hp h1 h2,h=>by
   rw[ug7,ud3] at h
   by_cases hi':i+1<l.length
   .clear 5(Pend.two hp hi')a b sa na p' nb q e ea g1 g2 g3 g4 g5 g6;refine⟨a,b++[(lo,n,p)],sa,na,p',nb,q,by rw[e];simp,ea,g1,g2,g3,g4,by lia,λ{ys r} k kr=>?_⟩;have:=(g6 (r:=r) k kr).snoc (p:=p) h1 (h2.loc k (.inr ∅));simpa using this
   .clear 5(hp.last (by intro z;rw[z] at h;simp at h))l0 lo' n' p' e e2 g1 g2 g3;subst e2;have hl0:l0.length=i:=by rw[e,ug7,ud3] at h hi';lia
    refine⟨l0,[],lo',n',p',n,p,by rw[e];simp,hl0,g1,h1,g2,h2,by lia,λ{ys r} k kr=>?_⟩;rw[uzz1];exact .snoc (g3.loc k (uq9 _)) ∅ kr
theorem Ot{a b:List α}{x y z:α}:((a++x::y::b).set a.length z).eraseIdx (a.length+1)=a++z::b:=by
 rw[ue1 _ _ (uq9 _),uq4,List.set_cons_zero,List.eraseIdx_append_of_length_le (ur1 _),show a.length.succ-a.length=1 by lia];rfl
theorem Hm{α:Type}{f:α->α}:∀{l:List α}{x:α},(l++[x]).modify l.length f=l++[f x]
 |[],_=>rfl
 |a::l,x=>by
   rw[List.cons_append,uj8,List.modify_succ_cons,Hm];rfl
theorem Pend.zero{l:List (Nat×Nat×Nat)}(h:Pend κ xs l hi)(hl:l=[]):hi=0:=by
 cases h with
 |nil=>rfl
 |snoc _ _ _=>simp at hl
theorem QN[Decidable c]{n:Nat}:(if c then n-1 else n)<=n:=by
 split<;>lia
structure SInv(κ:KeyKind)(kd:SortKind)(a₀:Array Keyed)(st:SortSt)(lo:Nat):Prop where
 kind:kindOf st=kd
 failed:failedOf st=none
 perm:(arrOf st).Perm a₀
 pend:Pend κ (arrOf st) (pendingOf st).toList lo
variable{a₀:Array Keyed}
theorem SInv.kept{kd:SortKind}{st:SortSt}(I:SInv κ kd a₀ st lo)(K:Kept st st' lo n):SInv κ kd a₀ st' lo:=
 ⟨K.kind.trans I.kind,K.failed.trans I.failed,K.loc.perm.trans I.perm,by rw[K.pend];exact I.pend.loc K.loc (uq9 _)⟩
theorem SInv.has{kd:SortKind}{st:SortSt}(I:SInv κ kd a₀ st lo)(hh:∀p∈a₀.toList,Has κ p):∀p∈(arrOf st).toList,Has κ p:=λp hp=>hh p ((ua8.mp I.perm).mem_iff.mp hp)
theorem SInv.push{κ:KeyKind}{kd:SortKind}{a₀:Array Keyed}{st:SortSt}{lo n:Nat}(I:SInv κ kd a₀ st lo)(hn:0<n)(hr:RunI κ (arrOf st) lo n):SInv κ kd a₀ (setPending st ((pendingOf st).push (lo,n,0))) (lo+n):=
 ⟨I.kind,I.failed,I.perm,by
  show Pend κ (arrOf st) ((pendingOf st).push (lo,n,0)).toList (lo+n);rw[Array.toList_push];exact .snoc I.pend hn hr⟩
theorem SInv.pow{kd:SortKind}{st:SortSt}{pw:Nat}(I:SInv κ kd a₀ st lo)(hn:0<(pendingOf st).size):SInv κ kd a₀ (setPending st ((pendingOf st).modify ((pendingOf st).size-1) λ(a,b,_)=>(a,b,pw))) lo:=
 ⟨I.kind,I.failed,I.perm,by
  show Pend κ (arrOf st) ((pendingOf st).modify ((pendingOf st).size-1) λ(a,b,_)=>(a,b,pw)).toList lo;clear 5(I.pend.last (λz=>by rw[<-uf7,z] at hn;simp at hn))l0 a n p e e2 h1 hr hp0;have hl:(pendingOf st).size-1=l0.length:=by rw[<-uf7,e,ug7,ud3];lia
  rw[Array.toList_modify,e,hl];have:(l0++[(a,n,p)]).modify l0.length (λ(x:Nat×Nat×Nat)=>(x.1,x.2.1,pw))=l0++[(a,n,pw)]:=Hm;rw[this];have h:=I.pend;rw[e] at h;exact h.repow⟩
section
variable{prog:bS}{w:bT}{A:Around}{E:bP->bR->Prop}{s:bR}{κ:KeyKind}{kd:SortKind}{a₀:Array Keyed}
theorem LO{st:SortSt}{Q:Bool->SortSt->Prop}(hL:Lts prog w A s κ kd)(hh:∀p∈a₀.toList,Has κ p)(I:SInv κ kd a₀ st lo)(hlo:lo<=a₀.size)(hi:i+1<(pendingOf st).size)
 (h:∀st',SInv κ kd a₀ st' lo->(pendingOf st').size+1=(pendingOf st).size->Loc (arrOf st) (arrOf st') 0 lo->Q true st'):wpS (model prog w) A E s (EA i) Q st:=by
 have hsz:(arrOf st).size=a₀.size:=I.perm.size_eq;clear 5(I.pend.two (i:=i) (by simpa using hi))a b sa na p nb q e ea g1 g2 g3 g4 g5 g6;have hh':∀p∈(arrOf st).toList,Has κ p:=λp hp=>hh p ((ua8.mp I.perm).mem_iff.mp hp);have p1:(pendingOf st)[i]?=some (sa,na,p):=by
  rw[<-ud4,e,ua6 ∅,ea,uq4];rfl
 have p2:(pendingOf st)[i+1]?=some (sa+na,nb,q):=by
  rw[<-ud4,e,ua6 ∅,ea,uc1];rfl
 refine L3 hL I.kind I.failed hh' p1 p2 rfl ∅ g1 g2 (Jo g3 ∅) (Jo g4 ∅) λst' m=>?_;clear 5(Us m ∅)l1 l2;have ep:(pendingOf st').toList=a++(sa,na+nb,p)::b:=by
  rw[m.pend,Array.toList_eraseIdxIfInBounds,bX,e,<-ea];exact Ot
 refine h st' ⟨m.kind.trans I.kind,m.failed.trans I.failed,l1.perm.trans I.perm,by rw[ep];exact g6 l1 l2⟩ ?_ (l1.wide (ur0 _) ∅);have z1:=dQ List.length ep;have z2:=dQ List.length e;simp only[ug7,uj8,uf7] at z1 z2;lia
set_option tactic.hygienic true in
theorem Sn{st:SortSt}{Q:Unit->SortSt->Prop}(hL:Lts prog w A s κ kd)(hk:kindOf st=kd)(hf:failedOf st=none)(hp:pendingOf st=#[])(hh:∀p∈(arrOf st).toList,Has κ p)(h2:2<=(arrOf st).size)
 (h:∀st',(arrOf st').Perm (arrOf st)->failedOf st'=none->RunI κ (arrOf st') 0 (arrOf st).size->Q () st'):wpS (model prog w) A E s sortRuns' Q st:=by
 rw[sortRuns'_eq];refine dW (ei ?_);dsimp only;obtain⟨a₀,ha⟩:∃a₀,arrOf st=a₀:=⟨_,rfl⟩;rw[ha] at hh h2 h;rw[ha];generalize minRun' a₀.size a₀.size 0=mr;have I0:SInv κ kd a₀ st 0:=⟨hk,hf,by rw[ha],by rw[hp];exact .nil⟩;refine dW (dZ (dD (I:=λx c st'=>∃lo,c=(none,lo)/\x<=lo/\lo<=a₀.size/\SInv κ kd a₀ st' lo)
  (Q:=λc st'=>c=(none,a₀.size)/\SInv κ kd a₀ st' a₀.size) ?step ?fin ⟨0,rfl,uq9 _,ur0 _,I0⟩) ?post)
 case fin=>
  rintro c st' ⟨lo,rfl,l1,l2,I⟩;have:lo=a₀.size:=by lia
  subst this;exact⟨rfl,I⟩
 case post=>
  rintro c st' ⟨rfl,I⟩;dsimp only;refine dW (dZ (dD (I:=λx c st2=>c=(none,())/\SInv κ kd a₀ st2 a₀.size/\((pendingOf st2).size<=1\/(pendingOf st2).size+x<=a₀.size))
   (Q:=λc st2=>c=(none,())/\SInv κ kd a₀ st2 a₀.size/\(pendingOf st2).size<=1) ?step2 ?fin2 ⟨rfl,I,.inr (by have:=I.pend.len;rw[uf7] at this;exact this)⟩) ?post2)
  case fin2=>
   rintro c st2 ⟨rfl,I2,hc⟩;exact⟨rfl,I2,by lia⟩
  case post2=>
   rintro c st2 ⟨rfl,I2,hc⟩;have hne:(pendingOf st2).toList≠[]:=λz=>by have:=I2.pend.zero z;lia
   clear 5(I2.pend.last hne)l0 lo n p e e2 h1 hr hp0;have hl0:l0=[]:=by
    have:=dQ List.length e;rw[uf7,ug7,ud3] at this;exact ua2 ∅
   subst hl0;have hlo:lo=0:=hp0.zero rfl;subst hlo;refine dY (h st2 I2.perm I2.failed ?_);rw[e2,uq2];exact hr
  case step2=>
   rintro x c st2 _ hx ⟨rfl,I2,hc⟩;refine dW (ei ?_)
   by_cases h1:(pendingOf st2).size<=1
   .rw[eB h1];exact dY ⟨rfl,I2,h1⟩
   .rw[eC h1];have key:∀i,i<=(pendingOf st2).size-2->wpS (model prog w) A E s (EA i) (λb st3=>b=true/\SInv κ kd a₀ st3 a₀.size/\(pendingOf st3).size+1=(pendingOf st2).size) st2:=λi hi=>
     LO hL hh I2 (uq9 _) ∅ λst3 I3 hs3 _=>⟨rfl,I3,hs3⟩
    refine dW (dZ (key _ ?_) ?_)
    .exact QN
    .rintro b st3 ⟨rfl,I3,hs3⟩;exact dY ⟨rfl,I3,by lia⟩
 case step=>
  rintro x c st' _ hx ⟨lo,rfl,l1,l2,I⟩;dsimp only
  by_cases hge:lo ≥ a₀.size
  .rw[eB hge];have:lo=a₀.size:=by lia
   subst this;exact dY ⟨rfl,I⟩
  .rw[eC hge];have hsz:(arrOf st').size=a₀.size:=I.perm.size_eq;refine dW (show wpS (model prog w) A E s (JF _ _) _ st' from VW hL I.kind (I.has hh) ∅ ∅ λm st2 K1 m1 m2 hr=>?_);have I2:=I.kept K1;have hsz2:(arrOf st2).size=a₀.size:=I2.perm.size_eq;dsimp only
   by_cases hlt:m<mr
   .rw[eB hlt];refine dW (dX (dL ⟨rfl,?_⟩));refine dW (show wpS (model prog w) A E s (Hh _ _ _) _ st2 from VU (lo:=lo) (n:=min (a₀.size-lo) mr) (ok:=m) hL I2.kind (I2.has hh) ∅ ∅ hr λst3 K2 hr3=>?_);have I3:=I2.kept K2;simp only[Bool.not_true,ug8,dR];have n3pos:0<min (a₀.size-lo) mr:=by lia
    have n3le:lo+min (a₀.size-lo) mr<=a₀.size:=by lia
    generalize min (a₀.size-lo) mr=n3 at hr3 n3pos n3le⊢;refine dW (ei ?_)
    cases hb:(pendingOf st3).back? with
    |none=>
      dsimp only;exact dW (dM (dY ⟨lo+n3,rfl,by lia,n3le,I3.push n3pos hr3⟩))
    |some t=>
      clear 5 t s1 n1 p1;dsimp only;have hpos:0<(pendingOf st3).size:=by
       rcases Nat.eq_zero_or_pos (pendingOf st3).size with z|z
       .rw[ua1 z] at hb;simp at hb
       .exact z
      refine dW (dZ (dD (I:=λ_ c st4=>c=(none,())/\SInv κ kd a₀ st4 lo/\RunI κ (arrOf st4) lo n3/\0<(pendingOf st4).size)
       (Q:=λc st4=>c=(none,())/\SInv κ kd a₀ st4 lo/\RunI κ (arrOf st4) lo n3/\0<(pendingOf st4).size) ?step3 (λ_ _ hh=>hh) ⟨rfl,I3,hr3,hpos⟩) ?post3)
      case step3=>
       rintro y c st4 _ hy ⟨rfl,I4,hr4,hpos4⟩;refine dW (ei ?_)
       by_cases h1:(pendingOf st4).size > 1
       .rw[eB h1]
        cases hq:(pendingOf st4)[(pendingOf st4).size-2]? with
        |none=>exact dY ⟨rfl,I4,hr4,hpos4⟩
        |some t=>
          clear 5 t u1 u2 u3;dsimp only
          split
          .exact dY ⟨rfl,I4,hr4,hpos4⟩
          .refine dW (show wpS (model prog w) A E s (EA _) _ st4 from LO (i:=(pendingOf st4).size-2) hL hh I4 ∅ ∅ λst5 I5 hs5 hl5=>?_);exact dY ⟨rfl,I5,hr4.loc hl5 (.inr ∅),by lia⟩
       .rw[eC h1];exact dY ⟨rfl,I4,hr4,hpos4⟩
      case post3=>
       rintro c st4 ⟨rfl,I4,hr4,hpos4⟩;dsimp only;refine dW (dM ?_);exact dW (dM (dY ⟨lo+n3,rfl,by lia,n3le,(I4.pow hpos4).push n3pos hr4⟩))
   .rw[eC hlt];have I3:=I2;have hr3:=hr;have n3pos:0<m:=by lia
    have n3le:lo+m<=a₀.size:=by lia
    generalize m=n3 at hr3 n3pos n3le⊢;refine dW (ei ?_)
    cases hb:(pendingOf st2).back? with
    |none=>
      dsimp only;exact dW (dM (dY ⟨lo+n3,rfl,by lia,n3le,I3.push n3pos hr3⟩))
    |some t=>
      clear 5 t s1 n1 p1;dsimp only;have hpos:0<(pendingOf st2).size:=by
       rcases Nat.eq_zero_or_pos (pendingOf st2).size with z|z
       .rw[ua1 z] at hb;simp at hb
       .exact z
      refine dW (dZ (dD (I:=λ_ c st4=>c=(none,())/\SInv κ kd a₀ st4 lo/\RunI κ (arrOf st4) lo n3/\0<(pendingOf st4).size)
       (Q:=λc st4=>c=(none,())/\SInv κ kd a₀ st4 lo/\RunI κ (arrOf st4) lo n3/\0<(pendingOf st4).size) ?step3 (λ_ _ hh=>hh) ⟨rfl,I3,hr3,hpos⟩) ?post3)
      case step3=>
       rintro y c st4 _ hy ⟨rfl,I4,hr4,hpos4⟩;refine dW (ei ?_)
       by_cases h1:(pendingOf st4).size > 1
       .rw[eB h1]
        cases hq:(pendingOf st4)[(pendingOf st4).size-2]? with
        |none=>exact dY ⟨rfl,I4,hr4,hpos4⟩
        |some t=>
          clear 5 t u1 u2 u3;dsimp only
          split
          .exact dY ⟨rfl,I4,hr4,hpos4⟩
          .refine dW (show wpS (model prog w) A E s (EA _) _ st4 from LO (i:=(pendingOf st4).size-2) hL hh I4 ∅ ∅ λst5 I5 hs5 hl5=>?_);exact dY ⟨rfl,I5,hr4.loc hl5 (.inr ∅),by lia⟩
       .rw[eC h1];exact dY ⟨rfl,I4,hr4,hpos4⟩
      case post3=>
       rintro c st4 ⟨rfl,I4,hr4,hpos4⟩;dsimp only;refine dW (dM ?_);exact dW (dM (dY ⟨lo+n3,rfl,by lia,n3le,(I4.pow hpos4).push n3pos hr4⟩))
end
end Srt
namespace Srt
open PySem PyProof.Rows PySem.W
def AL:List Int->List Int->Bool
 |[],[]=>false
 |[],_::_=>true
 |_::_,[]=>false
 |x::xs,y::ys=>if x=y then AL xs ys else decide (x<y)
theorem Jd:∀a,AL a a=false
 |[]=>rfl
 |x::xs=>by rw[AL,eB rfl,Jd xs]
theorem EQ:∀a b c,AL a b=true->AL b c=true->AL a c=true
 |[],[],_,h,_=>by cases h
 |[],_::_,[],_,h=>by cases h
 |[],_::_,_::_,_,_=>rfl
 |_::_,[],_,h,_=>by cases h
 |_::_,_::_,[],_,h=>by cases h
 |x::xs,y::ys,z::zs,h,k=>by
   rw[AL] at h k⊢
   by_cases e1:x=y
   .rw[eB e1] at h
    by_cases e2:y=z
    .rw[eB e2] at k;rw[eB (e1.trans e2)];exact EQ xs ys zs h k
    .rw[eC e2] at k;rw[eC (by rw[e1];exact e2),e1];exact k
   .rw[eC e1] at h;have h:=uj3 h
    by_cases e2:y=z
    .rw[eC (by rw[<-e2];exact e1),<-e2];exact uo3 h
    .rw[eC e2] at k;have k:=uj3 k;rw[eC ∅];exact uo3 ∅
theorem G5:∀a b,AL a b=false->AL b a=false->a=b
 |[],[],_,_=>rfl
 |[],_::_,h,_=>by cases h
 |_::_,[],_,h=>by cases h
 |x::xs,y::ys,h,k=>by
   rw[AL] at h k
   by_cases e:x=y
   .rw[eB e] at h;rw[eB e.symm] at k;rw[e,G5 xs ys h k]
   .rw[eC e] at h;rw[eC (λz=>e z.symm)] at k;have h:=cS h;have k:=cS k;lia
theorem Mr(a b c:List Int)(h:AL a c=true):AL a b=true\/AL b c=true:=by
 cases h1:AL a b with
 |true=>exact .inl rfl
 |false=>
   refine .inr ?_
   cases h2:AL b c with
   |true=>rfl
   |false=>
     cases h3:AL b a with
     |true=>rw[EQ b a c h3 h] at h2;cases h2
     |false=>rw[G5 a b h1 h3,h2] at h;cases h
def κT(tk:bQ->Option (List Int)):KeyKind where
 α:=List Int
 blt:=AL
 irrefl:=Jd
 trans:=EQ
 negTrans:=λa b c h=>Mr a b c h
 total:=λa b h k=>G5 a b h k
 keyOf:=λv=>match v with
  |.ref a=>tk a
  |_=>none
 dflt:=[]
def TupK(h:Heap)(tk:bQ->Option (List Int)):Prop:=∀b ns,tk b=some ns->∃o xs n,h.get? b=some o/\o.cls=.type "tuple"/\o.data=.seq xs n/\IntsAre xs.toList ns/\0<ns.length
variable{vs:List bP}
section
variable{prog:bS}{w:bT}{A:Around}{E:bP->bR->Prop}{s:bR}{tk:bQ->Option (List Int)}
theorem WV{b:Bool}{x y:Int}{t u:Tok}{Q:Bool->bR->Prop}(h:Q (decide (x<y)) s):wpAny (model prog w) A (oneLt' b (.int x t) (.int y u)) Q E s:=by
 cases b with
 |true=>exact oneLt_int h
 |false=>exact kat_one _ _ (PyProof.Rows.lt_int h)
theorem KL{b fin:Bool}{Q:Bool->bR->Prop}:∀{xs ys:List bP}{ns ms:List Int}{i:Nat},IntsAre xs ns->IntsAre ys ms->fin=decide (xs.length<ys.length)->Q (AL ns ms) s->KatLex prog w A b fin Q (xs.zip ys) i s
 |_,_,_,_,_,.nil,.nil,e,h=>by subst e;exact h
 |_,_,_,_,_,.nil,.cons _ _ _,e,h=>by subst e;rw[List.zip_nil_left];refine kat_nil ?_;simpa[AL] using h
 |_,_,_,_,_,.cons _ _ _,.nil,e,h=>by subst e;rw[List.zip_nil_right];refine kat_nil ?_;simpa[AL] using h
 |_,_,_,_,_,.cons x t r,.cons y u q,e,h=>by
   rw[List.zip_cons_cons];refine kat_cons (wpAny_eqBool_int ?_);rw[AL] at h;refine kat_go (λe1=>kat_yes (KL r q (by rw[e];simp) ?_)) λe1=>kat_no (WV ?_)
   .have:x=y:=by simpa using e1
    rwa [eB this] at h
   .have:¬x=y:=by simpa using e1
    rwa [eC this] at h
theorem Up{b:Bool}(ht:TupK s.heap tk):Lts prog w A s (κT tk) (tuples' b):=λE x y na nb Q hx hy h=>by
 cases x with
 |ref xa=>
   cases y with
   |ref ya=>
     obtain⟨ox,xs,n,e1,_,d1,i1,_⟩:=ht xa na hx;obtain⟨oy,ys,m,e2,_,d2,i2,_⟩:=ht ya nb hy;refine kat_lt e1 d1 e2 d2 (KL i1 i2 ?_ h);simp
   |_=>cases hy
 |_=>cases hx
theorem IB{h:Heap}(ht:TupK h tk):∀{vs:List bP},(∀v∈vs,∃a ns,v=.ref a/\tk a=some ns)->∃fs,KatTups h vs fs/\fs.length=vs.length/\∀f∈fs,∃i t,f=.int i t
 |[],_=>⟨[],.nil,rfl,λ_ z=>by cases z⟩
 |v::vs,hv=>by
   obtain⟨fs,k,hl,hf⟩:=IB ht λu hu=>hv u (ue3 _ hu);clear 5(hv v ug5)a ns rfl e;clear 5(ht a ns e)o xs n e1 c1 d1 i1 l1;obtain⟨x,t,r,hx⟩:∃x t r,xs.toList=Value.int x t::r:=by
    cases hq:xs.toList with
    |nil=>rw[hq] at i1;cases i1;simp at l1
    |cons p r=>rw[hq] at i1;cases i1 with|cons x t _=>exact⟨x,t,r,rfl⟩
   refine⟨.int x t::fs,.cons e1 c1 d1 ?_ k,by rw[uj8,uj8,hl],λf hf'=>?_⟩
   .rw[<-ud4,hx];rfl
   .rcases uo5.mp hf' with rfl|hf'
    .exact⟨x,t,rfl⟩
    .exact hf f hf'
theorem TupK.keep{h h':Heap}(ht:TupK h tk)(k:∀b o,tk b≠none->h.get? b=some o->h'.get? b=some o):TupK h' tk:=λb ns e=>by
 clear 5(ht b ns e)o xs n e1 c1 d1 i1 l1;exact⟨o,xs,n,k b o (by rw[e];simp) e1,c1,d1,i1,l1⟩
theorem IG{κ:KeyKind}{xs:Array Keyed}(h:RunI κ xs 0 xs.size):Srtd κ xs.toList:=by
 have:=Jo h ∅
 rwa [show Seg xs 0 xs.size=xs.toList by unfold Seg;rw[uo0,uc7 (by simp)]] at this
def M0(tk:bQ->Option (List Int))(u v:bP):Prop:=(κT tk).kle (((κT tk).keyOf u).getD []) (((κT tk).keyOf v).getD [])
theorem Mu{st:SortSt}(hp:(arrOf st).Perm (pairsOf vs))(hs:Srtd (κT tk) (arrOf st).toList):((arrOf st).map (·.2)).toList.Perm vs/\((arrOf st).map (·.2)).toList.Pairwise (M0 tk):=by
 have hp:=ua8.mp hp;rw[pairsOf_toList] at hp;have same:∀q∈(arrOf st).toList,q.1=q.2:=λq hq=>by
  have:=hp.mem_iff.mp hq;clear 5(ue7.mp this)i hi e;rw[List.getElem_zip] at e;rw[<-e]
 refine⟨?_,?_⟩
 .rw[Array.toList_map];have:=hp.map (·.2)
  rwa [show(vs.zip vs).map (·.2)=vs from List.map_snd_zip (uq9 _)] at this
 .rw[Array.toList_map,ui9];refine List.Pairwise.imp_of_mem (λ{p q} hp' hq' h=>?_) hs;show(κT tk).kle (((κT tk).keyOf p.2).getD []) (((κT tk).keyOf q.2).getD []);rw[<-same p hp',<-same q hq'];exact h
theorem Jf{a:bQ}{n:Nat}{P:PySem.Fin->bR->Prop}(ho:s.heap.get? a=some (seqObj "list" vs.toArray n))(ht:TupK s.heap tk)(hv:∀v∈vs,∃b ns,v=.ref b/\tk b=some ns)(hna:tk a=none)(hz:vs.length<=2000)
 (h:∀out:Array bP,out.toList.Perm vs->out.toList.Pairwise (M0 tk)->P (.done (.ret .none)) {s with heap:=sortedHeap s.heap a vs out}) :
 wpAny (model prog w) A (Builtin.«list.sort» ⟨[.ref a],[]⟩) P E s:=by
 rw[list_sort_plain];have ha:a<s.heap.objs.size:=up4 ho;refine ur4 (listItems_at ho rfl ?_);refine ur4 (listUpdate_at ho rfl ?_ (by rw[uh5,dH];lia) (ur0 _));obtain⟨e1,ho1⟩:∃e1,(s.heap.update a (Obj.mapSeq λ_=>#[])).get? a=some (seqObj "list" #[] e1):=⟨_,get?_update_seq ho (λ_=>#[])⟩;refine ur4 (seqEpoch_at ho1 rfl ?_);refine ur4 (wpAny_newTuple ?_ (by show vs.length<=_;rw[dH];lia));refine ur4 (wpAny_newList ?_ (ur0 _));refine up3 ?_;have ho6:(((s.heap.update a (Obj.mapSeq λ_=>#[])).push (seqObj "tuple" vs.toArray 0)).push (seqObj "list" #[] 0)).get? a=some (seqObj "list" #[] e1):=by
  rw[uj0 _ _ _ (by rw[size_push',uk9];exact up5 (ui2 ha)),uj0 _ _ _ (by rw[uk9];exact up5 ha)];exact ho1
 have ht6:TupK (((s.heap.update a (Obj.mapSeq λ_=>#[])).push (seqObj "tuple" vs.toArray 0)).push (seqObj "list" #[] 0)) tk:=ht.keep λb o hb e=>by
  have hba:b≠a:=λz=>hb (by rw[z];exact hna);refine uc4 _ (uc4 _ ?_);rw[Heap.get?_update_ne _ _ _ _ hba];exact e
 show wpAny (model prog w) A _ P E {s with heap:=((s.heap.update a (Obj.mapSeq λ_=>#[])).push (seqObj "tuple" vs.toArray 0)).push (seqObj "list" #[] 0)};dsimp only;have hsz:vs.toArray.size=vs.length:=by simp
 by_cases h2:vs.toArray.size<2
 .rw[eB h2,eB h2];refine ur4 (ur5 ?_);rw[StateT.run_pure];refine ur4 (ur5 ?_);dsimp only;refine ur4 (seqEpoch_at ho6 rfl ?_);refine ur4 (listUpdate_at ho6 rfl ?_ (ur0 _) (by rw[Array.size_map];show(pairsOf vs).size<=_;rw[dF,dH];lia));simp only[bne_self_eq_false,ug8,dR];have hr:Srtd (κT tk) (vs.toArray.zip vs.toArray).toList:=IG λi j h1 h3 h4=>by
   have:(vs.toArray.zip vs.toArray).size=vs.length:=dF vs;have:i=j:=by lia
   subst this;exact dj _
  clear 5(Mu (tk:=tk) (st:=SortSt.mk' general' (vs.toArray.zip vs.toArray) #[] 7 none) (Array.Perm.refl _) hr)o1 o2;exact ur5 (h _ o1 o2)
 .rw[eC h2,eC h2];clear 5(IB ht6 hv)fs hk hl hf;refine ur4 (kat_kind (T:=.type "int") hk ∅ (λf hf'=>?_) (by rfl) ?_)
  .clear 5(hf f hf')i t rfl;exact Looks.now
  have hh:∀p∈(vs.toArray.zip vs.toArray).toList,Has (κT tk) p:=λp hp=>by
   rw[show(vs.toArray.zip vs.toArray).toList=vs.zip vs from pairsOf_toList vs] at hp;clear 5(hv _ (um5 hp).1)b ns e e2;exact⟨ns,by rw[e];exact e2⟩
  refine ur4 (ur6 (Sn (κ:=κT tk) (st:=SortSt.mk' (tuples' (Value.type "int" != Value.type "tuple")) (vs.toArray.zip vs.toArray) #[] 7 none)
   (Q:=λ_ st'=>(arrOf st').Perm (pairsOf vs)/\failedOf st'=none/\RunI (κT tk) (arrOf st') 0 (vs.toArray.zip vs.toArray).size) (Up ht6) rfl rfl rfl hh
   (by show 2<=(pairsOf vs).size;rw[dF];lia) λst' a1 a2 a3=>⟨a1,a2,a3⟩) ?_ λ_ _ e=>e)
  rintro⟨⟨⟩,st'⟩ s' ⟨rfl,hp,hfl,hs⟩;dsimp only;have hs2:Srtd (κT tk) (arrOf st').toList:=IG (by rw[hp.size_eq];exact hs);clear 5(Mu hp hs2)o1 o2;refine ur4 (seqEpoch_at ho6 rfl ?_);refine ur4 (listUpdate_at ho6 rfl ?_ (ur0 _) (by refine up6 (dA ((Array.size_map ..).trans (hp.size_eq.trans (dF _)))) ?_;rw[dH];lia));rw[hfl];simp only[bne_self_eq_false,ug8,dR];exact ur5 (h _ o1 o2)
theorem LU{l:bQ}{Q:bP->bR->Prop}(hl:s.heap.IsList l vs.toArray)(ht:TupK s.heap tk)(hv:∀v∈vs,∃b ns,v=.ref b/\tk b=some ns)(hz:vs.length<=2000)
 (h:∀out:Array bP,out.toList.Perm vs->out.toList.Pairwise (M0 tk)->Q (.ref (s.heap.objs.size+1)) {s with heap:=sortedAll s.heap vs out}) :
 wpAny (model prog w) A (call (.builtin "sorted") [.ref l]) Q E s:=by
 refine Calls.call_function_entry kind_sorted plain_sorted entry_sorted (args_sorted1 _) ?_;unfold Builtin.«sorted»;refine ur4 (m:=checkCount "sorted" 1 1 _) (ur5 ?_);refine ur4 (collect_list hl ?_ (by rw[dH];lia));refine ur4 (wpAny_newList ?_ (by rw[dH];lia));have hsz:((s.heap.push (seqObj "list" #[] 0)).update s.heap.objs.size (Obj.mapSeq (·++vs.toArray))).objs.size=s.heap.objs.size+1:=by
  rw[uk9,size_push']
 have hoL:(((s.heap.push (seqObj "list" #[] 0)).update s.heap.objs.size (Obj.mapSeq (·++vs.toArray))).push (seqObj "list" vs.toArray 0)).get? (s.heap.objs.size+1)=some (seqObj "list" vs.toArray 0):=by
  rw[<-hsz];exact uf8 _ rfl
 have keep:∀b o,s.heap.get? b=some o->(((s.heap.push (seqObj "list" #[] 0)).update s.heap.objs.size (Obj.mapSeq (·++vs.toArray))).push (seqObj "list" vs.toArray 0)).get? b=some o:=λb o q=>by
  have hlt:b<s.heap.objs.size:=up4 q;rw[uj0 _ _ _ (by rw[hsz];exact up5 (ui2 hlt)),Heap.get?_update_ne _ _ _ _ (up5 hlt),uj0 _ _ _ (up5 hlt)];exact q
 have hna:tk (s.heap.objs.size+1)=none:=by
  cases e:tk (s.heap.objs.size+1) with
  |none=>rfl
  |some ns=>
    obtain⟨o,xs,n,e1,_⟩:=ht _ ns e;have h3:s.heap.objs.size+1<s.heap.objs.size:=up4 e1;exact absurd h3 ∅
 show wpAny _ _ _ _ _ {s with heap:=((s.heap.push (seqObj "list" #[] 0)).update s.heap.objs.size (Obj.mapSeq (·++vs.toArray))).push (seqObj "list" vs.toArray 0)};rw[hsz];refine ur4 (up3 (cZ slot_list_sort ⟨_,hoL,rfl⟩ entry_list_sort (Jf (tk:=tk) hoL (ht.keep λb o _ e=>keep b o e) hv hna hz λout a1 a2=>⟨_,rfl,?_⟩) (args_list_sort _)));exact ur5 ⟨_,rfl,h out a1 a2⟩
end
end Srt
set_option maxRecDepth 100000
namespace L2
open PySem PySem.Spec PyProof.Rows Srt
def D3(l:List (List Int)):List (List Int):=l.mergeSort λa b=>!(AL b a)
theorem KM(a b c:List Int)(h:(!(AL b a))=true)(k:(!(AL c b))=true):(!(AL c a))=true:=by
 cases e:AL c a with
 |false=>rfl
 |true=>
   rcases Mr c b a e with z|z
   .rw[z] at k;cases k
   .rw[z] at h;cases h
theorem ET(l:List (List Int)):(D3 l).Perm l:=List.mergeSort_perm _ _
theorem HK(l:List (List Int)):(D3 l).Pairwise λa b=>(!(AL b a))=true:=
 List.pairwise_mergeSort (le:=λa b=>!(AL b a)) (λa b c h k=>KM a b c h k) (λa b=>by
  show((!(AL b a))||(!(AL a b)))=true
  cases e:AL b a with
  |false=>rfl
  |true=>
    cases e2:AL a b with
    |false=>rfl
    |true=>have:=EQ a b a e2 e;rw[Jd] at this;cases this) l
theorem Je:∀{a b:List (List Int)},a.Perm b->(a.Pairwise λx y=>(!(AL y x))=true)->(b.Pairwise λx y=>(!(AL y x))=true)->a=b
 |[],b,p,_,_=>p.nil_eq
 |x::a,[],p,_,_=>absurd p.length_eq (by simp)
 |x::a,y::b,p,h1,h2=>by
   rw[uh0] at h1 h2;have e:x=y:=by
    rcases uo5.mp (p.mem_iff.mp ug5) with e|m1
    .exact e
    .rcases uo5.mp (p.symm.mem_iff.mp ug5) with e|m2
     .exact e.symm
     .have a1:=h2.1 x m1;have a2:=h1.1 y m2;exact G5 x y (by simpa using a1) (by simpa using a2)
   subst e;rw[Je (List.Perm.cons_inv p) h1.2 h2.2]
theorem Vv{a b:List (List Int)}(p:a.Perm b):D3 a=D3 b:=Je ((ET a).trans (p.trans (ET b).symm)) (HK a) (HK b)
def T2(H:Hp):List bQ->List (List Int)->Prop
 |[],[]=>True
 |b::bs,ns::r=>H b=some (.tup (ns.map V.int))/\0<ns.length/\T2 H bs r
 |_,_=>False
def G3:List V->Option (List Int)
 |[]=>some []
 |.int i::r=>(G3 r).map (i :: ·)
 |_=>none
theorem JJ:∀ns:List Int,G3 (ns.map V.int)=some ns
 |[]=>rfl
 |n::r=>by rw[uo6,G3,JJ r];rfl
def tkH(H:Hp)(b:bQ):Option (List Int):=match H b with
 |some (.tup ws)=>(G3 ws).bind λns=>if ns=[] then none else some ns
 |_=>none
theorem XY{H:Hp}{b:bQ}{ns:List Int}(h:H b=some (.tup (ns.map V.int)))(hn:0<ns.length):tkH H b=some ns:=by
 unfold tkH;rw[h];simp only[JJ,ul0];rw[eC (λz=>by rw[z] at hn;simp at hn)]
theorem KI:∀{ws:List V}{ns:List Int},G3 ws=some ns->ws=ns.map V.int
 |[],ns,h=>by cases h;rfl
 |w::r,ns,h=>by
   cases w with
   |int i=>
     rw[G3] at h;clear 5(uc6.mp h)ms h1 rfl;rw[KI h1];rfl
   |_=>cases h
set_option tactic.hygienic true in
theorem PX{H:Hp}{b:bQ}{ns:List Int}(h:tkH H b=some ns):H b=some (.tup (ns.map V.int))/\0<ns.length:=by
 unfold tkH at h
 split at h
 .next ws e=>
  clear 5(ub9.mp h)ms h1 h2
  split at h2
  .cases h2
  .next hne=>
   cases h2
   exact⟨by rw[e,KI h1],List.length_pos_iff.mpr hne⟩
 .cases h
theorem T2.keys{H:Hp}:∀{bs:List bQ}{nss:List (List Int)},T2 H bs nss->bs.map (tkH H)=nss.map some
 |[],[],_=>rfl
 |b::bs,ns::r,h=>by rw[uo6,uo6,XY h.1 h.2.1,T2.keys h.2.2]
theorem T2.of{H:Hp}:∀{bs:List bQ}{nss:List (List Int)},bs.map (tkH H)=nss.map some->T2 H bs nss
 |[],[],_=>trivial
 |b::bs,ns::r,h=>by
   rw[uo6,uo6] at h;injection h with h1 h2
   clear 5(PX h1)e1 e2;exact⟨e1,e2,T2.of h2⟩
 |[],_::_,h=>by cases h
 |_::_,[],h=>by cases h
theorem JU:∀{bs:List bQ}{us:List bP},Vals (bs.map V.ref) us->us=bs.map Value.ref
 |[],_,r=>by cases r;rfl
 |b::bs,_,r=>by
   rw[uo6] at r
   cases r with
   |cons r1 r2=>cases r1;rw[JU r2];rfl
theorem JO:∀{bs:List bQ},Vals (bs.map V.ref) (bs.map Value.ref)
 |[]=>.nil
 |_::_=>.cons rfl JO
def adr:bP->bQ
 |.ref a=>a
 |_=>0
theorem Tu{us:List bP}{bs:List bQ}(p:us.Perm (bs.map Value.ref)):us=(us.map adr).map Value.ref/\(us.map adr).Perm bs:=by
 refine⟨?_,?_⟩
 .rw[uq5]
  conv=>lhs;rw[<-ur2 us]
  refine ug0 λu hu=>?_;obtain⟨b,_,rfl⟩:=uq6.mp (p.mem_iff.mp hu);rfl
 .have:=p.map adr
  rwa [uq5,show adr ∘ Value.ref=id from rfl,ur2] at this
section
variable{X:Cx}
theorem Nf:Bs X (.builtin "sorted") (λxs H Q=>XB3 λ(p:bQ) (bs:List bQ) (nss:List (List Int))=>AB5 (xs=[.ref p]) (SqL X.K H p (bs.map V.ref)) (T2 H bs nss) (nss.length<=2000) (∀l bs',H l=none->bs'.Perm bs->T2 H bs' (D3 nss)->Q (.ref l) (upd H l (.lst (bs'.map V.ref))))):=by
 intro bO s σ H xs us Q I r h;clear 5 h p bs nss rfl hq ht hn q;clear 5(Dx r)u rfl rx
 cases rx
 clear 5(I.list hq)its rv pl hz;have hits:=JU rv;have hk:=ht.keys;have hlen:bs.length=nss.length:=by have:=dQ List.length hk;rwa [um6,um6] at this
 have htk:TupK s.heap (tkH H):=λb ns e=>by
  clear 5(PX e)e1 e2;obtain⟨_,js,rj,oj⟩:=I.hok b _ e1;clear 5 oj o h1 h2 n h3;exact⟨o,js.toArray,n,h1,h2,h3,by simpa using Ir rj,e2⟩
 refine LU pl.isList htk (λv hv=>?_) (by rw[hits,um6];lia) λout a1 a2=>?_
 .rw[hits] at hv;clear 5(uq6.mp hv)b hb rfl;have:tkH H b∈nss.map some:=by rw[<-hk];exact uq6.mpr ⟨b,hb,rfl⟩
  obtain⟨ns,_,e⟩:=uq6.mp this;exact⟨b,ns,rfl,e.symm⟩
 .rw[hits] at a1;clear 5(Tu a1)o1 o2;obtain⟨bs',hbs⟩:∃bs',bs'=out.toList.map adr:=⟨_,rfl⟩;rw[<-hbs] at o1 o2;obtain⟨nss',hn1,hn2⟩:∃nss':List (List Int),bs'.map (tkH H)=nss'.map some/\nss'.Perm nss:=by
   have hp:=o2.map (tkH H);rw[hk] at hp;refine⟨bs'.map λb=>(tkH H b).getD [],?_,?_⟩
   .rw[uq5];refine ug0 λb hb=>?_;obtain⟨ns,_,e⟩:=uq6.mp (hp.mem_iff.mp (uq6.mpr ⟨b,hb,rfl⟩));show _=some ((tkH H b).getD []);rw[<-e];rfl
   .have:=hp.map (λx:Option (List Int)=>x.getD []);rw[uq5,uq5] at this
    rwa [show((λx:Option (List Int)=>x.getD []) ∘ some)=id from rfl,ur2] at this
  have hs:nss'.Pairwise λx y=>(!(AL y x))=true:=by
   rw[o1,ui9] at a2;have:(nss'.map some).Pairwise λx y=>(!(AL (y.getD []) (x.getD [])))=true:=by
    rw[<-hn1,ui9];refine a2.imp λ{x y} h=>?_;have h:AL (((κT (tkH H)).keyOf (.ref y)).getD []) (((κT (tkH H)).keyOf (.ref x)).getD [])=false:=h;show(!(AL ((tkH H y).getD []) ((tkH H x).getD [])))=true;rw[show AL ((tkH H y).getD []) ((tkH H x).getD [])=false from h];rfl
   rw[ui9] at this;exact this
  have es:nss'=D3 nss:=Je (hn2.trans (ET nss).symm) hs (HK nss);clear 5(sortedAll_at s.heap its out)e he;refine⟨.ref (s.heap.objs.size+1),_,I.laid (t':=s.toks) (λb o e=>sortedAll_old e) (ur1 _) (show ObjOk X.prog X.w _ _ _ (.lst (bs'.map V.ref)) from⟨?_,out.toList,e,by rw[o1];exact JO,he⟩),rfl,q _ bs' (I.hok.fresh (ur1 _)) o2 (T2.of (by rw[hn1,es]))⟩;rw[um6,o2.length_eq,hlen];rw[show sizeLine=16777216 from dH];lia
end
def Gv:List D->Option (List (List Int))
 |[]=>some []
 |.tup ds::r=>(CA ds).bind λns=>if ns=[] then none else(Gv r).map (ns :: ·)
 |_=>none
abbrev AU(ns:List Int):D:=.tup (ns.map D.int)
def EH:List D->M (List D)
 |[.lst ds]=>λt=>(Gv ds).bind λnss=>if nss.length<=2000 then some ((D3 nss).map AU,t) else none
 |_=>fail
set_option tactic.hygienic true in
theorem LG{K:bN}{c:Cf}{H:Hp}:∀{ds:List D}{vs:List V}{nss:List (List Int)},Reps K c H vs ds->Gv ds=some nss->∃bs:List bQ,vs=bs.map V.ref/\T2 H bs nss/\∀b∈bs,¬c.A b
 |[],_,nss,r,e=>by
   cases r;cases e
   exact⟨[],rfl,trivial,λ_ z=>by cases z⟩
 |d::ds,_,nss,r,e=>by
   cases r with
   |cons r1 r2=>
     cases d with
     |tup es=>
       rw[Gv] at e;clear 5(ub9.mp e)ns e1 e2
       split at e2
       .cases e2
       .next hne=>
        clear 5(uc6.mp e2)ms e3 rfl;clear 5(LG r2 e3)bs rfl h1 h2
        obtain⟨a,ws,rfl,g1,g2,g3⟩:=r1.rv
        have:=Hx g3 e1;subst this;refine⟨a::bs,rfl,⟨g1,List.length_pos_iff.mpr hne,h1⟩,λb hb=>?_⟩;rcases uo5.mp hb with rfl|hb
        .exact g2
        .exact h2 b hb
     |_=>cases e
theorem Lk{K:bN}{c:Cf}{H:Hp}:∀{bs:List bQ}{nss:List (List Int)},T2 H bs nss->(∀b∈bs,¬c.A b)->Reps K c H (bs.map V.ref) (nss.map AU)
 |[],[],_,_=>.nil
 |b::bs,ns::r,h,k=>.cons (.tup h.1 (k b ug5) (Reps.ints ns)) (Lk h.2.2 λx hx=>k x (ue3 _ hx))
 |[],_::_,h,_=>h.elim
 |_::_,[],h,_=>h.elim
set_option tactic.hygienic true in
theorem PD{K:bN}:FE K (λxs H Q=>XB3 λ(p:bQ) (bs:List bQ) (nss:List (List Int))=>AB5 (xs=[.ref p]) (SqL K H p (bs.map V.ref)) (T2 H bs nss) (nss.length<=2000) (∀l bs',H l=none->bs'.Perm bs->T2 H bs' (D3 nss)->Q (.ref l) (upd H l (.lst (bs'.map V.ref))))) EH:=λ{Oo c t σ H xs ds r t' Q} f rx eq k=>by
 unfold EH at eq
 split at eq
 .next es=>
  clear 5(ub9.mp eq)nss e1 e2
  split at e2
  .next hn=>
   cases e2
   clear 5(Ds rx)v rfl rv
   obtain⟨a,ws,rfl,g1,g2,g3⟩:=rv.rv
   clear 5(LG g3 e1)bs rfl h1 h2;exact⟨a,bs,nss,rfl,SqL.of g1,h1,hn,λq bs' hq hp ht=>k q _ H c f .refl (Lk ht λb hb=>h2 b (hp.mem_iff.mp hb)) hq⟩
  .cases e2
 .cases eq
def Xs:V->List V->Hp->VK->Prop:=λx vs H Q=>∃a kvs k,x=.ref a/\H a=some (.dK kvs)/\((vs=[kV k]/\Q ((Br kvs k).getD .non) H)\/∃d,vs=[kV k,d]/\Q ((Br kvs k).getD d) H)
theorem JP{o:Option V}{u:Option bP}{d:V}{e:bP}(h:RelO o u)(hd:RelV d e):RelV (o.getD d) (u.getD e):=by
 cases o<;>cases u<;>first|exact hd|exact h|exact absurd h id
theorem QX{X:Cx}:MtM X "dict.get" Xs:=by
 intro bO s σ H x vs v us Q I rx rv h;clear 5 h a kvs k rfl hH h
 cases rx
 clear 5(D6 I.hok hH)z hd vs' rel dd;rcases h with⟨rfl,q⟩|⟨d,rfl,q⟩
 .clear 5 rv.one u rfl ru;exact dC ue2 dd.typeIs cG (PySem.F.args_dict_get_2 _ _) (meets_dict_get _ a (Eb ru) hd) ⟨_,dd.mapOf,⟨_,_,I.tok _,JP (d:=.non) (rel.val k) rfl,q⟩⟩
 .clear 5 rv.two u w rfl ru rw';exact dC ue2 dd.typeIs cG (PySem.F.args_dict_get_3 _ _ _) (meets_dict_get_default _ a (Eb ru) hd w) ⟨_,dd.mapOf,⟨_,_,I.tok _,JP (rel.val k) rw',q⟩⟩
theorem KVR.opt{K:bN}{c:Cf}{H:Hp}{us:List (Key×V)}{kvs:List (Key×D)}(r:KVR K c H us kvs)(k:Key):(∃v d,Br us k=some v/\AR kvs k=some d/\Rep K c H v d)\/(Br us k=none/\AR kvs k=none):=by
 cases e:AR kvs k with
 |some d=>clear 5(r.get _ e)v e1 e2;exact .inl ⟨v,d,e1,rfl,e2⟩
 |none=>
   refine .inr ⟨?_,rfl⟩;unfold KVR at r
   induction r with
   |nil=>rfl
   |@cons p q ps qs h t ih=>
     by_cases hk:p.1=k
     .have hq:q.1=k:=h.1.symm.trans hk;have:AR (q::qs) k=some q.2:=by simp[AR,um9,hq]
      rw[this] at e;cases e
     .have hq:¬q.1=k:=λz=>hk (h.1.trans z);have:AR (q::qs) k=AR qs k:=by simp[AR,um9,hq]
      rw[this] at e;rw[DJ hk];exact ih e
theorem KVR.getD{K:bN}{c:Cf}{H:Hp}{us:List (Key×V)}{kvs:List (Key×D)}(r:KVR K c H us kvs)(k:Key){v:V}{d:D}(h:Rep K c H v d):Rep K c H ((Br us k).getD v) ((AR kvs k).getD d):=by
 rcases r.opt k with⟨v',d',e1,e2,e3⟩|⟨e1,e2⟩
 .rw[e1,e2];exact e3
 .rw[e1,e2];exact h
def D5(f:M D)(g:M (List D)):M D:=bnd f λo=>match o with
 |.obj k=>λt=>match t.S[k]? with
   | some (.dct _)=>bnd g (λds t1=>match ds with
     | .str x :: r=>(match t1.S[k]? with
       | some (.dct kvs)=>(match r with
         |[]=>some ((AR kvs (.inr x)).getD .non,t1)
         |[d]=>some ((AR kvs (.inr x)).getD d,t1)
         |_=>none)
       |_=>none)
     |_=>none) t
   |_=>none
 |_=>fail
set_option tactic.hygienic true in
theorem Qy{X:Cx}{o e:Expr}{es:List Expr}{f:M D}{g:M (List D)}{apos cpos:Pos}(ho:PE X o (RE X.K f))(ha:PA X (e::es) (RA X.K g))
 (hbase:autoParam (attributeBase o "get" X.env (eval o X.env)=eval o X.env) q3T)
 (hfew:autoParam (((backTo cpos (starEach (e::es) X.env)).all (λx=>!x.1)&&(backToKw cpos (keywordEach [] X.env)).all (λx=>x.1.isSome)&&decide ((e::es).length+([]:List Keyword).length+(if ([]:List Keyword).isEmpty then 0 else 1)<30))=true) q3T)
 (hline:autoParam ((apos.endLine==cpos.line)=true) q3T) (hs:autoParam (starEach (e::es) X.env=(false,eval e X.env)::starEach es X.env) q3T) (hplain:autoParam ((backTo cpos (starEach es X.env)).any (·.1)=false) q3T) :
 PE X (.Call (.Attribute o "get" apos) (e::es) [] cpos) (RE X.K (D5 f g)):=
 Az (IE cA ue2 PySem.F.type_dict_get QX ho ha hbase hfew hline hs hplain) λσ H Q q=>by
  clear 5 q Oo c t fi r t' eq k;clear 5(Af eq)o t0 e0 eq;refine⟨Oo,c,t,fi,o,t0,e0,λx H0 c0 f0 s0 rx=>?_⟩
  cases rx with
  |@obj a kk hk=>
    dsimp only at eq
    split at eq
    .next xs0 ex0=>
     clear 5(Af eq)ds t1 e1 eq;clear 5(f0.s.obs kk a _ hk ex0)vs0 g0 g0';refine⟨.inr (.inr (.inl ⟨rfl,.inl ⟨vs0,g0⟩⟩)),Oo,c0,t0,f0,ds,t1,e1,λus H1 c1 f1 s1 rus=>?_⟩
     split at eq
     .next z r0=>
      split at eq
      .next kvs ex=>
       have hk1:=s1.ext.io _ _ hk;clear 5(f1.s.obs kk a _ hk1 ex)vs g1 g2
       cases rus with
       |cons ru rn=>
       cases ru
       split at eq
       .cases eq
        cases rn
        exact⟨a,vs,.inr z,rfl,g1,.inl ⟨rfl,k _ _ c1 f1 (s0.trans s1) (g2.getD _ .non)⟩⟩
       .next d=>
        cases eq
        cases rn with
        |cons rd rn=>
        cases rn
        exact⟨a,vs,.inr z,rfl,g1,.inr ⟨_,rfl,k _ _ c1 f1 (s0.trans s1) (g2.getD _ rd)⟩⟩
       .cases eq
      .cases eq
     .cases eq
    .cases eq
  |_=>cases eq
def Xt:V->List V->Hp->VK->Prop:=λx vs H Q=>∃a kvs k v,x=.ref a/\H a=some (.dK kvs)/\vs=[kV k]/\Br kvs k=some v/\Q v (upd H a (.dK (EN kvs k)))
theorem QY{X:Cx}:MtM X "dict.pop" Xt:=by
 intro bO s σ H x vs v us Q I rx rv h;clear 5 h a kvs k d rfl hH rfl l q
 cases rx
 clear 5 rv.one u rfl ru;exact Yh I hH ru l (.inl rfl) λw' s' I' rw'=>⟨_,_,I',rw',q⟩
def Fg(kvs:List (Key×D))(k:Key):List (Key×D):=kvs.filter λp=>decide (p.1≠k)
theorem KVR.drop{K:bN}{c:Cf}{H:Hp}{us:List (Key×V)}{kvs:List (Key×D)}(r:KVR K c H us kvs)(k:Key):KVR K c H (EN us k) (Fg kvs k):=by
 unfold KVR at r⊢;unfold EN Fg
 induction r with
 |nil=>exact .nil
 |@cons p q ps qs h t ih=>
   by_cases e:p.1=k
   .rw[uj9,uj9,eC (by simp[e]),eC (by simp[h.1.symm.trans e])];exact ih
   .rw[uj9,uj9,eB (uo3 e),eB (uo3 (show q.1≠k from λz=>e (h.1.trans z)))];exact .cons h ih
def J6(f:M D)(g:M (List D)):M D:=bnd f λo=>match o with
 |.obj k=>λt=>match t.S[k]? with
   | some (.dct _)=>bnd g (λds t1=>match ds with
     | [.str x]=>(match t1.S[k]? with
       | some (.dct kvs)=>(match AR kvs (.inr x) with
         |some d=>some (d,{t1 with S:=t1.S.set k (.dct (Fg kvs (.inr x)))})
         |none=>none)
       |_=>none)
     |_=>none) t
   |_=>none
 |_=>fail
set_option tactic.hygienic true in
theorem QB{X:Cx}{o e:Expr}{es:List Expr}{f:M D}{g:M (List D)}{apos cpos:Pos}(ho:PE X o (RE X.K f))(ha:PA X (e::es) (RA X.K g))
 (hbase:autoParam (attributeBase o "pop" X.env (eval o X.env)=eval o X.env) q3T)
 (hfew:autoParam (((backTo cpos (starEach (e::es) X.env)).all (λx=>!x.1)&&(backToKw cpos (keywordEach [] X.env)).all (λx=>x.1.isSome)&&decide ((e::es).length+([]:List Keyword).length+(if ([]:List Keyword).isEmpty then 0 else 1)<30))=true) q3T)
 (hline:autoParam ((apos.endLine==cpos.line)=true) q3T) (hs:autoParam (starEach (e::es) X.env=(false,eval e X.env)::starEach es X.env) q3T) (hplain:autoParam ((backTo cpos (starEach es X.env)).any (·.1)=false) q3T) :
 PE X (.Call (.Attribute o "pop" apos) (e::es) [] cpos) (RE X.K (J6 f g)):=
 Az (IE cA cJ PySem.F.type_dict_pop QY ho ha hbase hfew hline hs hplain) λσ H Q q=>by
  clear 5 q Oo c t fi r t' eq k;clear 5(Af eq)o t0 e0 eq;refine⟨Oo,c,t,fi,o,t0,e0,λx H0 c0 f0 s0 rx=>?_⟩
  cases rx with
  |@obj a kk hk=>
    dsimp only at eq
    split at eq
    .next xs0 ex0=>
     clear 5(Af eq)ds t1 e1 eq;clear 5(f0.s.obs kk a _ hk ex0)vs0 g0 g0';refine⟨.inr (.inr (.inl ⟨rfl,.inl ⟨vs0,g0⟩⟩)),Oo,c0,t0,f0,ds,t1,e1,λus H1 c1 f1 s1 rus=>?_⟩
     split at eq
     .next z=>
      split at eq
      .next kvs ex=>
       have hk1:=s1.ext.io _ _ hk;clear 5(f1.s.obs kk a _ hk1 ex)vs g1 g2
       cases rus with
       |cons ru rn=>
       cases rn
       cases ru
       split at eq
       .next d hd=>
        cases eq
        clear 5(g2.get _ hd)v e3 e4;refine⟨a,vs,.inr z,v,rfl,g1,rfl,e3,?_⟩;obtain⟨f2,s2⟩:=f1.wrObj (o:=.dct (Fg kvs (.inr z))) (u:=.dK (EN vs (.inr z))) hk1 λc' H' ext hu=>⟨_,hu,(g2.drop _).mono ext⟩;exact k _ _ c1 f2 ((s0.trans s1).trans s2) (e4.mono s2.ext)
       .cases eq
      .cases eq
     .cases eq
    .cases eq
  |_=>cases eq
def VB(tk tv:TE):TE:=λσ H Q=>∀p,H p=none->tk σ (upd H p (.dT [])) λx H1=>tv σ H1 λy H2=>∃ks b,x=.ref b/\H2 b=some (.tup (ks.map kV))/\H2 p=some (.dT [])/\Q (.ref p) (upd H2 p (.dT [(ks,y)]))
theorem Pi{X:Cx}{pos:Pos}{k v:Expr}{tk tv:TE}(hu:X.A.units+1<cLine)(hk:PE X k tk)(hv:PE X v tv):PE X (.Dict [some k] [v] pos) (VB tk tv):=by
 intro bO s σ H Q I q;have hn:=I.hok.fresh (uq9 s.heap.objs.size);have I1:=I.laid (a:=s.heap.objs.size) (o:=.dT []) (h':=s.heap.push {cls:=.type "dict",data:=.dict #[]}) (t':=s.toks) (λ_ _ q=>uc4 _ q) (uq9 _) (Qu s.heap I.big);have hp:PPs X pos [some k] [v] [(tk,tv)]:=Lf hk hv My;refine wpAny_Dict_any rfl rfl (List.cons_ne_nil _ _) (by show 1<=15;decide) (thn (hp bO _ σ _ (λps H2=>match ps with
  |[(x,y)]=>∃ks b,x=.ref b/\H2 b=some (.tup (ks.map kV))/\H2 s.heap.objs.size=some (.dT [])/\Q (.ref s.heap.objs.size) (upd H2 s.heap.objs.size (.dT [(ks,y)]))
  |_=>False) I1 (q _ hn)) λws s2 ⟨ps,H2,I2,rel,q2⟩=>?_)
 cases rel with
 |nil=>exact q2.elim
 |@cons p0 w0 ps ws h0 t0=>
 cases t0 with
 |cons _ _=>exact q2.elim
 |nil=>
 clear 5 p0 x y;clear 5 w0 u w2;clear 5 q2 ks b rfl eb e q2
 cases (show u=Value.ref b from h0.1)
 clear 5(SF I2.hok e)z hd xs r0 dd
 cases r0
 unfold storeAll;rw[un1];refine ur4 (ur4 (wpAny_dictSet_heap (hsz:=ur0 _) (show X.A.units<cLine by lia) (Ix I2.hok eb) dd λh' dd' hs=>ur5 ?_));dsimp only;rw[List.forIn_nil];refine ur5 ⟨.ref s.heap.objs.size,_,?_,rfl,q2⟩;obtain⟨qq,es,ep,hq,h2,h3,h4,_,h5⟩:=dd';have r1:KT H2 [(ks,y)] (storedH [] ks b w2):=KT.put .nil ks eb h0.2;refine Ee I2 (by rw[e];exact True.intro) hs ⟨qq,hq⟩ ⟨by show 1<=sizeLine;rw[dH];decide,hd,_,r1.keeps λc ys ec=>?_,qq,es,ep,hq,h2,h3,h4,h5⟩;rw[Ar (SV ec e (λz=>nomatch z))];exact ec
def Xy(neg:Bool):R2:=λx y H Q=>∃a kvs ks b,x=.ref b/\H b=some (.tup (ks.map kV))/\y=.ref a/\H a=some (.dT kvs)/\Q (.bl (if neg then !(Br kvs ks).isSome else(Br kvs ks).isSome)) H
def Xv:V->V->V->Hp->(Hp->Prop)->Prop:=λo i v H Q=>∃a kvs ks b,o=.ref a/\i=.ref b/\H b=some (.tup (ks.map kV))/\H a=some (.dT kvs)/\kvs.length<sizeLine/\Q (upd H a (.dT (BP kvs ks v)))
section
variable{X:Cx}
theorem Pe(hu:X.A.units+64<cLine):OpR X (compareOp .NotIn) (Xy true):=by
 intro bO s σ H x y v u Q I rx ry h;clear 5 h a kvs ks b rfl eb rfl e q
 cases ry
 exact TH ∅ I (DGet.t e eb) rx λs' I'=>⟨.bl _,H,I',rfl,q⟩
theorem Vt(hu:X.A.units+64<cLine):M3 X Xv:=by
 intro bO s σ H o i v ou iu vu Q I ro ri rv h;clear 5 h a kvs ks b rfl rfl eb e hl q
 cases ro
 exact Op ∅ I (.inr ⟨kvs,ks,b,e,rfl,eb,hl,rfl⟩) ri rv λs' I'=>⟨_,I',q⟩
end
theorem R6{κ:Type}[DecidableEq κ]{kvs:List (κ×V)}{k:κ}:(Br kvs k).isSome=decide (k∈kvs.map (·.1)):=by
 induction kvs with
 |nil=>rfl
 |cons p r ih=>
   by_cases e:p.1=k
   .rw[EI e,uo6];simp[e]
   .rw[DJ e,ih,uo6];simp[Ne.symm e]
theorem Ps{κ:Type}[DecidableEq κ]{kvs:List (κ×V)}{k:κ}{v:V}:(BP kvs k v).map (·.1)=if k∈kvs.map (·.1) then kvs.map (·.1) else kvs.map (·.1)++[k]:=by
 unfold BP
 by_cases h:k∈kvs.map (·.1)
 .rw[eB h,eB (by clear 5(uq6.mp h)p hp e;exact ul1.mpr ⟨p,hp,uo3 e⟩),uq5];refine ug0 λp _=>?_;show(if p.1=k then(p.1,v) else p).1=p.1
  split<;>rfl
 .rw[eC h,eC (λz=>h (by clear 5(ul1.mp z)p hp e;exact uq6.mpr ⟨p,hp,uj3 e⟩)),un5];rfl
def pK(p:Int×Int):List Key:=[Sum.inl p.1,Sum.inl p.2]
theorem W7{p q:Int×Int}(h:pK p=pK q):p=q:=by
 unfold pK at h;injection h with h1 h2
 injection h1 with h1
 injection h2 with h2 _
 injection h2 with h2
 exact dS h1 h2
theorem K7{p:Int×Int}{ks:List (Int×Int)}:(pK p∈ks.map pK)=(p∈ks):=propext ⟨λh=>by clear 5(uq6.mp h)q hq e;rw[<-W7 e];exact hq,λh=>ug3 h⟩
theorem HG{K:bN}{c:Cf}{H:Hp}{x:V}{i j:Int}(h:Rep K c H x (.tup [.int i,.int j])):∃b,x=.ref b/\H b=some (.tup ((pK (i,j)).map kV)):=by
 obtain⟨b,vs,rfl,h1,h2,h3⟩:=h.rv
 cases h3 with
 |cons q1 r1=>
 cases r1 with
 |cons q2 r2=>
 cases r2
 cases q1
 cases q2
 exact⟨b,rfl,h1⟩
def inU(neg:Bool):D->D->M D
 |.tup [.int i,.int j],.obj n=>λt=>match t.S[n]? with
   |some (.dtu ks)=>some (.bl (if neg then !decide ((i,j)∈ks) else decide ((i,j)∈ks)),t)
   |_=>none
 |_,_=>fail
set_option tactic.hygienic true in
theorem Ve{K:bN}{neg:Bool}:Bh K (Xy neg) (inU neg):=λ{Oo c t σ H x y dx dy r t' Q} f rx ry eq k=>by
 unfold inU at eq
 split at eq
 .next i j n=>
  obtain⟨a,rfl,hk⟩:=ry.rv
  split at eq
  .next ks es=>
   cases eq
   clear 5(f.s.obs _ a _ hk es)us g1 g2;clear 5(HG rx)b rfl hb;refine⟨a,us,pK (i,j),b,rfl,hb,rfl,g1,?_⟩;have e:(Br us (pK (i,j))).isSome=decide ((i,j)∈ks):=by
    rw[R6,g2];exact c9.mpr (Iff.of_eq K7)
   rw[e];exact k _ H c f .refl (.bl _)
  .cases eq
 .cases eq
def II:D->D->M Unit
 |.obj n,.tup [.int i,.int j]=>λt=>match t.S[n]? with
   |some (.dtu ks)=>if ks.length<LIM then some ((),{t with S:=t.S.set n (.dtu (if (i,j)∈ks then ks else ks++[(i,j)]))}) else none
   |_=>none
 |_,_=>fail
def stU(f g:M D)(_:D):M Unit:=bnd f λo=>bnd g λi=>II o i
section
variable{X:Cx}{pos:Pos}{e:Expr}
set_option tactic.hygienic true
theorem TU{o i:Expr}{f g:M D}(hu:X.A.units+64<cLine)(ho:PE X o (RE X.K f))(hi:PE X i (RE X.K g))
 (ha:∀v,assign (.Subscript o i pos) X.env v=(do
   let ov <-holding [v] (eval o X.env)
   let iv <-holding [v,ov] (eval i X.env)
   standAt pos
   holding [v,ov,iv] (setItem ov iv v)
   release [v,ov,iv] []):=by intro _;rfl):PG X (.Subscript o i pos) (RG X.K (stU f g)):=
 F8 (La ho hi (Vt hu) ha) λv σ H Q z9=>by
  clear 5 z9 Oo c t d fi rv t' eq k;clear 5(Af eq)d0 t1 e1 eq;clear 5(Af eq)di t2 e2 eq;refine⟨Oo,c,t,fi,_,t1,e1,λx H1 c1 f1 s1 rx=>⟨Oo,c1,t1,f1,di,t2,e2,λy H2 c2 f2 s2 ry=>?_⟩⟩;unfold II at eq
  split at eq
  .next n i j _=>
   obtain⟨a,rfl,hk⟩:=rx.rv
   split at eq
   .next ks es=>
    split at eq
    .next hl=>
     cases eq
     have hk2:=s2.ext.io _ _ hk;clear 5(f2.s.obs _ a _ hk2 es)us g1 g2;clear 5(HG ry)b rfl hb;have hlen:us.length=ks.length:=by have:=dQ List.length g2;simpa using this
     refine⟨a,us,pK (i,j),b,rfl,rfl,hb,g1,by rw[hlen];exact dB hl N3,?_⟩;obtain⟨f3,s3⟩:=f2.wrObj (o:=.dtu (if (i,j)∈ks then ks else ks++[(i,j)])) (u:=.dT (BP us (pK (i,j)) v)) hk2 λc' H' ext hu=>⟨_,hu,by
      rw[Ps,g2]
      by_cases h:(i,j)∈ks
      .rw[eB h,eB (by have:=K7 (p:=(i,j)) (ks:=ks);rw[<-this] at h;exact h)]
      .rw[eC h,eC (by intro z;exact h ((Iff.of_eq (K7 (p:=(i,j)) (ks:=ks))).mp z)),un5];rfl⟩
     exact k σ _ c2 f3 ((s1.trans s2).trans s3)
    .cases eq
   .cases eq
  .cases eq
def Gm(f g:M D):M D:=λt=>bnd f (λx=>bnd g λ_ t2=>match x,t2.S[t.S.length]? with
 |.tup [.int i,.int j],some (.dtu [])=>some (.obj t.S.length,{t2 with S:=t2.S.set t.S.length (.dtu [(i,j)])})
 |_,_=>none) {t with S:=t.S++[.dtu []]}
theorem QA{k v:Expr}{f g:M D}(hu:X.A.units+64<cLine)(hk:PE X k (RE X.K f))(hv:PE X v (RE X.K g)):PE X (.Dict [some k] [v] pos) (RE X.K (Gm f g)):=
 Az (Pi ∅ hk hv) λσ H Q z9=>by
  clear 5 z9 Oo c t fi r t' eq kk;intro p hp;obtain⟨c1,f1,s1,e1⟩:=fi.newObj (o:=.dtu []) (u:=.dT []) hp λc' H' ex hu=>⟨[],hu,rfl⟩;clear 5(Af eq)x t1 ex eq;clear 5(Af eq)y t2 ey eq;refine⟨Oo,c1,_,f1,x,t1,ex,λvx H1 c2 f2 s2 rx=>⟨Oo,c2,t1,f2,y,t2,ey,λvy H2 c3 f3 s3 ry=>?_⟩⟩
  split at eq
  .next i j es _=>
   cases eq
   have hk2:=(s2.trans s3).ext.io _ _ e1;clear 5(f3.s.obs _ p _ hk2 es)u0 g1 g2
   cases u0 with
   |cons _ _=>cases g2
   |nil=>
   clear 5(HG (rx.mono s3.ext))b rfl hb;refine⟨pK (i,j),b,rfl,hb,g1,?_⟩;obtain⟨f4,s4⟩:=f3.wrObj (o:=.dtu [(i,j)]) (u:=.dT [(pK (i,j),vy)]) hk2 λc' H' ext hu=>⟨_,hu,rfl⟩;exact kk _ _ c3 f4 (((s1.trans s2).trans s3).trans s4) (.obj (s4.ext.io _ _ hk2))
  .cases eq
end
open SeqAt MeetsSeq MeetsSeq2 MeetsSeq3
open AutoSeq1 (wpAny_loadPart')
def EqIn(P:bS)(w:bT)(A:Around)(s:bR)(y x:bP)(b:Bool):Prop:=
 ∀(E:bP->bR->Prop) (Q:Bool->bR->Prop),Q b s->wpAny (model P w) A (eqBool y x) Q E s
section
variable{w:bT}
theorem EqIn.of_refs{P:bS}{A:Around}{s:bR}{l b:bQ}{k:Bool}(hne:l≠b)(h:∀(E Q:bP->bR->Prop),Q (.bool k) s->wpAny (model P w) A (richCompare .Eq (.ref l) (.ref b)) Q E s):EqIn P w A s (.ref l) (.ref b) k:=λE Q hq=>by
 unfold eqBool;refine up3 ?_;refine df (λhab=>absurd (by have:=eq_of_beq hab;injection this) hne) (λ_=>?_);exact ur4 (h E _ (cT hq))
variable{prog:bS}
theorem O9(l b:bQ)(items items2:Array bP)(n n2:Nat)(dd dd2:Option bQ)(sl sl2:Array (Option bP))(hsz:items.size=items2.size)(e:Nat->Bool)(k:Nat) :
 ∀i:Nat,items.size-i=k->MeetsIn prog w (Builtin.«list.__eq__.loop» ⟨[.ref l,.ref b,rawInt i,rawInt 3],[]⟩)
  (λA R s=>s.heap.get? l=some { cls:=.type "list",dict:=dd,data:=.seq items n,slots:=sl }/\s.heap.get? b=some { cls:=.type "list",dict:=dd2,data:=.seq items2 n2,slots:=sl2 }/\
    (∀j (h1:j<items.size) (h2:j<items2.size),EqIn prog w A.in1 s items[j] items2[j] (e j))/\
    R (.ok (.ret (.bool (!((List.range items.size).drop i).all e)))) s):=by
 induction k with
 |zero=>
   intro i hk A R s h;clear 5 s hp g d tk os;clear 5 h hl hb he h
   wp_walk using wpAny_loadPart' hl,wpAny_loadPart' hb
   have hi1:items[((i:Nat):Int).toNat]?=none:=by simp;lia
   have hi2:items2[((i:Nat):Int).toNat]?=none:=by simp;lia
   have hd:(List.range items.size).drop i=[]:=by simp;lia
   rw[hd] at h;rw[hi1,hi2]
   wp_walk using wpAny_loadPart' hl,wpAny_loadPart' hb
   show R (.ok (.ret (.bool (items.size != items2.size)))) _;rw[hsz];simpa using h
 |succ k ih=>
   intro i hk A R s h;clear 5 s hp g d tk os;clear 5 h hl hb he h
   wp_walk using wpAny_loadPart' hl,wpAny_loadPart' hb
   have hlt:i<items.size:=by lia
   have hlt2:i<items2.size:=by lia
   have hi1:items[((i:Nat):Int).toNat]?=some items[i]:=by simp[hlt]
   have hi2:items2[((i:Nat):Int).toNat]?=some items2[i]:=by simp[hlt2]
   have hd:(List.range items.size).drop i=i::(List.range items.size).drop (i+1):=by simp[ub2,hlt]
   have hc:((i:Int)+1)=((i+1:Nat):Int):=by push_cast;rfl
   rw[hd,uo7] at h;rw[hi1,hi2];refine ur4 (he i hlt hlt2 _ _ ?_)
   cases hb':e i with
   |true=>
     rw[hb'] at h
     wp_walk
     rw[hc];exact⟨plainId_quiet plain_eq_loop _,codeAny_builtin entry_eq_loop (by
      rw[Around.under_plainId plain_eq_loop _];exact ih (i+1) ∅ A R _ ⟨hl,hb,he,by simpa using h⟩)⟩
   |false=>
     rw[hb'] at h
     wp_walk using wpAny_loadPart' hl,wpAny_loadPart' hb
     rw[hi1,hi2]
     wp_walk
     simpa using h
theorem O0(l b:bQ)(items items2:Array bP)(n n2:Nat)(dd dd2:Option bQ)(sl sl2:Array (Option bP))(hsz:items.size=items2.size)(e:Nat->Bool) :
 MeetsIn prog w (Builtin.«list.__ne__» ⟨[.ref l,.ref b],[]⟩)
  (λA R s=>s.heap.get? l=some { cls:=.type "list",dict:=dd,data:=.seq items n,slots:=sl }/\s.heap.get? b=some { cls:=.type "list",dict:=dd2,data:=.seq items2 n2,slots:=sl2 }/\
    (∀j (h1:j<items.size) (h2:j<items2.size),EqIn prog w A.in1 s items[j] items2[j] (e j))/\
    R (.ok (.ret (.bool (!(List.range items.size).all e)))) s):=by
 intro A R s h;clear 5 s hp g d tk os;clear 5 h hl hb he h;have f3:=cF;have hne:¬(items.size != items2.size)=true:=by simp[hsz]
 wp_walk using wpAny_loadPart' hl,wpAny_loadPart' hb
 exact⟨plainId_quiet plain_eq_loop _,codeAny_builtin entry_eq_loop (by
  rw[Around.under_plainId plain_eq_loop _];exact O9 l b items items2 n n2 dd dd2 sl sl2 hsz e _ 0 rfl A R _ ⟨hl,hb,he,by simpa using h⟩)⟩
theorem Ny{A:Around}{s:bR}{l b:bQ}{items items2:Array bP}{e:Nat->Bool}{E Q:bP->bR->Prop}(hl:s.heap.IsList l items)(hb:s.heap.IsList b items2)(hsz:items.size=items2.size)(hu:A.units<cLine)
 (he:∀j (h1:j<items.size) (h2:j<items2.size),EqIn prog w A.in1 s items[j] items2[j] (e j)) (h:Q (.bool (!(List.range items.size).all e)) s):wpAny (model prog w) A (richCompare .NotEq (.ref l) (.ref b)) Q E s:=by
 obtain⟨⟨cls,dd,data,sl⟩,ho,hc,n,hd⟩:=id hl;obtain⟨⟨cls2,dd2,data2,sl2⟩,ho2,hc2,n2,hd2⟩:=id hb;simp only at hc hd hc2 hd2;subst hc hd hc2 hd2;exact wpAny_richCompare_same_room (op:=.NotEq) ⟨_,ho,rfl⟩ ⟨_,ho2,rfl⟩ F.slot_list_ne (dC F.slot_list_ne ⟨_,ho,rfl⟩ F.entry_list_ne (F.args_list_ne_2 _ _) (O0 l b items items2 n n2 dd dd2 sl sl2 hsz e)
  ⟨ho,ho2,he,show Value.bool (!(List.range items.size).all e)≠Value.notImplemented/\Q (.bool (!(List.range items.size).all e)) s from⟨(λx=>nomatch x),h⟩⟩) hu
end
def AlikeX(K:bN)(H:Hp)(v w:V):Prop:=E9 K H v w\/∃a b us ts,v=.ref a/\w=.ref b/\H a=some (.dK us)/\H b=some (.dK ts)/\us.length=ts.length/\∀kv∈us,∃z,Br ts kv.1=some z/\E9 K H kv.2 z
section
variable{K:bN}
theorem AlikeX.at{P:bS}{w:bT}{H:Hp}{s:bR}{A:Around}(hok:HOk P w H s.heap){x y:V}{u v:bP}(h:AlikeX K H x y)(ru:RelV x u)(rv:RelV y v)(hu:A.units+62<cLine):EqIn P w A s u v true:=by
 rcases h with⟨c,dv,dw,r1,r2,e⟩|⟨a,b,us,ts,rfl,rfl,ha,hb,hl,h⟩
 .exact λE Q hq=>(Fc hok EQD ru rv r1 r2 e (by unfold EQD;lia)).2 P w E Q hq
 .cases ru;cases rv
  by_cases hab:a=b
  .subst hab;exact λE Q hq=>EqAt.same _ P w E Q hq
  obtain⟨_,lo1,vs,rel1,d1⟩:=D6 hok ha;obtain⟨_,lo2,ws,rel2,d2⟩:=D6 hok hb;have hlen:vs.length=ws.length:=by rw[<-rel1.length,<-rel2.length];exact hl
  refine EqIn.of_refs hab λE Q hq=>?_;refine PySem.W.keq_eq (knd:=A5 P w) lo1 lo2 d1 d2 ∅ (λ_=>TJ (A:=A.in1) hok rel2 (by rw[show A.in1.units=A.units+1 from rfl];lia) rel1 h) ?_;rw[hlen,ul8];exact hq
def Xw(K:bN)(b:Bool):R2:=λx y H Q=>∃p q vs ws,x=.ref p/\y=.ref q/\H p=some (.lst vs)/\H q=some (.lst ws)/\vs.length=ws.length/\(∀(j:Nat) v w,vs[j]?=some v->ws[j]?=some w->AlikeX K H v w)/\Q (.bl b) H
theorem W2{X:Cx}(hu:X.A.units+64<cLine):OpR X (compareOp .NotEq) (Xw X.K false):=by
 intro bO s σ H x y v u Q I rx ry h;clear 5 h p q vs ws rfl rfl h1 h2 hl hh k
 cases rx;cases ry
 clear 5(De I.hok h1)is r1 l1;clear 5(De I.hok h2)js r2 l2;have hsz:is.toArray.size=js.toArray.size:=by simp[<-r1.length,<-r2.length,hl]
 refine Ny (e:=λ_=>true) l1 l2 hsz ∅ (λj h1 h2=>?_) ?_
 .clear 5(Fy r1 h1)v1 a1 a2;clear 5(Fy r2 h2)v2 b1 b2;exact(hh j v1 v2 a1 b1).at I.hok a2 b2 (by rw[show X.A.in1.units=X.A.units+1 from rfl];lia)
 .rw[Qe];exact⟨.bl false,H,I,rfl,k⟩
def alikeX(S:List Ob)(x y:D):Bool:=match x,y with
 |.obj m,.obj n=>match S[m]?,S[n]? with
   |some (.dct kvs),some (.dct lvs)=>kvs.length==lvs.length&&kvs.all (λkv=>match AR lvs kv.1 with|some e=>alike1 S kv.2 e|none=>false)
   |_,_=>alike1 S x y
 |_,_=>alike1 S x y
def eqX(b:Bool)(x y:D):M D:=match x,y with
 |.lst xs,.lst ys=>λt=>if xs.length=ys.length/\(xs.zip ys).all (λp=>alikeX t.S p.1 p.2)=true then some (.bl b,t) else none
 |_,_=>fail
set_option tactic.hygienic true
theorem alikeX.to{K:bN}{c:Cf}{S:List Ob}{H:Hp}(s:SInv K c S H){v w:V}{x y:D}(rx:Rep K c H v x)(ry:Rep K c H w y)(h:alikeX S x y=true):AlikeX K H v w:=by
 unfold alikeX at h
 split at h
 .next m n=>
  split at h
  .next kvs lvs e1 e2=>
   obtain⟨a,rfl,ha⟩:=rx.rv
   obtain⟨b,rfl,hb⟩:=ry.rv
   simp only[uj7,dO] at h;clear 5 h hl hh;clear 5(s.obs _ a _ ha e1)us g1 g2;clear 5(s.obs _ b _ hb e2)ts g3 g4;refine .inr ⟨a,b,us,ts,rfl,rfl,g1,g3,by rw[g2.length,g4.length];exact hl,λkv m=>?_⟩;clear 5(g2.allK kv m)q q1 q2 q3;have hq:=uk3.mp hh q q1
   split at hq
   .next e ee=>
    clear 5(g4.get _ ee)z z1 z2;exact⟨z,by rw[q2];exact z1,alike1.to s q3 z2 hq⟩
   .cases hq
  .exact .inl (alike1.to s rx ry h)
 .exact .inl (alike1.to s rx ry h)
theorem Va{b:Bool}:Bh K (Xw K b) (eqX b):=λ{Oo c t σ H x y dx dy r t' Q} f rx ry eq k=>by
 unfold eqX at eq
 split at eq
 .next xs ys=>
  split at eq
  .next hp=>
   cases eq
   obtain⟨p,vs,rfl,g1,g2,g3⟩:=rx.rv
   obtain⟨q,ws,rfl,h1,h2,h3⟩:=ry.rv
   refine⟨p,q,vs,ws,rfl,rfl,g1,h1,by rw[g3.length,h3.length];exact hp.1,λj v w e1 e2=>?_,k _ H c f .refl (.bl b)⟩;obtain⟨l1,_⟩:=ub0.mp e1;obtain⟨l2,_⟩:=ub0.mp e2;have k1:xs[j]?=some (xs[j]'(by rw[<-g3.length];exact l1)):=ub5 _;have k2:ys[j]?=some (ys[j]'(by rw[<-h3.length];exact l2)):=ub5 _;have hz:(xs.zip ys)[j]?=some (xs[j]'(by rw[<-g3.length];exact l1),ys[j]'(by rw[<-h3.length];exact l2)):=by
    rw[List.getElem?_zip_eq_some];exact⟨k1,k2⟩
   exact alikeX.to f.s (g3.get e1 k1) (h3.get e2 k2) (uk3.mp hp.2 _ (ue6 hz))
  .cases eq
 .cases eq
set_option tactic.hygienic false
theorem Gg{n:Nat}:∀(bs as:List Int),∃b,B6 (eqN n) (bs.map D.int) (as.map D.int)=some b/\(b&&(bs.map D.int).length==(as.map D.int).length)=decide (bs=as)
 |[],[]=>⟨true,by simp[B6],by simp⟩
 |[],_::_=>⟨true,by simp[B6],by simp⟩
 |_::_,[]=>⟨true,by simp[B6],by simp⟩
 |x::bs,y::as=>by
   clear 5(Gg (n:=n) bs as)b h1 h2;have h0:eqN n (.int x) (.int y)=some (x==y):=by cases n<;>rfl
   refine⟨(x==y)&&b,by rw[uo6,uo6,B6,h0,h1],?_⟩;rw[uo6,uo6,uj8,uj8];rw[show((bs.map D.int).length+1==(as.map D.int).length+1)=((bs.map D.int).length==(as.map D.int).length) by rw[un3];simp,Bool.and_assoc,h2,un3];simp
theorem Qv{n:Nat}{bs as:List Int}:eqN (n+1) (.tup (bs.map D.int)) (.tup (as.map D.int))=some (decide (bs=as)):=by
 clear 5(Gg (n:=n) bs as)b h1 h2;rw[eqN,h1,<-h2];rfl
def eIx(H:Hp)(as:List Int):bP->Bool
 |.ref a=>match H a with
   |some (.tup vs)=>decide (vs=as.map V.int)
   |_=>false
 |_=>false
theorem JQ{K:bN}{c:Cf}{H:Hp}:∀{b:List Int}{vs:List V},Reps K c H vs (b.map D.int)->vs=b.map V.int
 |[],_,h=>by cases h;rfl
 |x::b,_,h=>by
   cases h with
   |cons h1 h2=>
     cases h1
     rw[JQ h2];rfl
theorem Hk:∀{a b:List Int},a.map V.int=b.map V.int->a=b
 |[],[],_=>rfl
 |[],_::_,h=>by cases h
 |_::_,[],h=>by cases h
 |x::a,y::b,h=>by
   rw[uo6,uo6] at h;injection h with h1 h2
   injection h1 with h1
   rw[h1,Hk h2]
theorem KR{P:bS}{w:bT}{K:bN}{c:Cf}{H:Hp}{s:bR}{A:Around}{x:V}{v:bP}{as:List Int}(hok:HOk P w H s.heap)(rx:RelV x v)(qx:Rep K c H x (.tup (as.map D.int)))(hu:A.units+EQD<cLine) :
 ∀{bs:List (List Int)}{vs:List V}{its:List bP},Vals vs its->Reps K c H vs (bs.map AU)->(∀u∈its,SeqAt.EqAt A s u v (eIx H as u))/\its.any (eIx H as)=bs.any λb=>decide (b=as)
 |[],_,_,r,h=>by
   cases h;cases r
   refine⟨λu hu=>?_,rfl⟩
   cases hu
 |b::bs,_,_,r,h=>by
   cases h with
   |cons h1 h2=>
     cases r with
     |cons r1 r2=>
       clear 5(KR hok rx qx hu r2 h2)m1 m2;have h1':=h1
       obtain⟨a,ws,rfl,g1,g2,g3⟩:=h1.rv
       have e:=JQ g3;have r1':=r1
       cases r1
       have e2:eIx H as (.ref a)=decide (b=as):=by
        unfold eIx;simp only[g1];rw[e,un3,uj2,uj2];exact⟨Hk,λz=>by rw[z]⟩
       have q:=(Fc hok EQD (A:=A) r1' rx h1' qx Qv hu).2;refine⟨λu hu=>?_,by rw[uo8,uo8,e2,m2]⟩;rcases uo5.mp hu with rfl|hu
       .rw[e2];exact q
       .exact m1 u hu
def Xx(K:bN):R2:=λx y H Q=>∃(c:Cf) (as:List Int) (bs:List (List Int)),Rep K c H x (.tup (as.map D.int))/\Rep K c H y (.lst (bs.map AU))/\Q (.bl (!(bs.any λb=>decide (b=as)))) H
theorem Pd{X:Cx}(hu:X.A.units+64<cLine):OpR X (compareOp .NotIn) (Xx X.K):=by
 intro bO s σ H x y v u Q I rx ry h;clear 5 h c as bs q1 q2 q
 obtain⟨p,vs,rfl,h1,h2,h3⟩:=q2.rv
 cases ry
 clear 5(De I.hok h1)its r pl;clear 5(KR (A:=X.A.in1) I.hok rx q1 (by rw[show X.A.in1.units=X.A.units+1 from rfl];unfold EQD;lia) r h3)m1 m2;refine SeqAt.notIn_listAt (eIx H as) pl (λw hw=>m1 w (by simpa using hw)) ⟨.bl _,H,I,rfl,?_⟩;rw[show its.toArray.any (eIx H as)=its.any (eIx H as) by simp,m2];exact q
theorem Iu:∀{ds:List D}{xs:List Int},CA ds=some xs->ds=xs.map D.int
 |[],xs,h=>by cases h;rfl
 |d::r,xs,h=>by
   cases d with
   |int x=>
     rw[CA] at h;clear 5(uc6.mp h)ys h1 rfl;rw[Iu h1];rfl
   |_=>cases h
def Kg:D->Option (List Int)
 |.tup ds=>CA ds
 |_=>none
theorem LB{d:D}{xs:List Int}(h:Kg d=some xs):d=AU xs:=by
 cases d with
 |tup ds=>rw[Iu h]
 |_=>cases h
def G6:List D->Option (List (List Int))
 |[]=>some []
 |d::r=>(Kg d).bind λa=>(G6 r).map (a :: ·)
theorem KP:∀{ds:List D}{bs:List (List Int)},G6 ds=some bs->ds=bs.map AU
 |[],bs,h=>by cases h;rfl
 |d::r,bs,h=>by
   rw[G6] at h;clear 5(ub9.mp h)a h1 h2;clear 5(uc6.mp h2)ys h3 rfl;rw[LB h1,KP h3];rfl
def QU:D->Option (List (List Int))
 |.lst ds=>G6 ds
 |_=>none
theorem Uo{d:D}{bs:List (List Int)}(h:QU d=some bs):d=.lst (bs.map AU):=by
 cases d with
 |lst ds=>rw[KP h]
 |_=>cases h
theorem GI:∀ns:List Int,DF (ns.map D.int)=true
 |[]=>rfl
 |n::r=>by rw[uo6,DF,GI r];rfl
theorem GJ:∀bs:List (List Int),DF (bs.map AU)=true
 |[]=>rfl
 |b::r=>by rw[uo6,DF,GJ r,dt];exact GI b
def inI(x y:D):M D:=λt=>(Kg x).bind λa=>(QU (BQ t.S y)).map λbs=>(.bl (!(bs.any λb=>decide (b=a))),t)
theorem Vd:Bh K (Xx K) inI:=λ{Oo c t σ H x y dx dy r t' Q} f rx ry eq k=>by
 unfold inI at eq;clear 5(ub9.mp eq)a e1 eq;clear 5(uc6.mp eq)bs e2 eq
 cases eq
 have ex:=LB e1;have ey:=Uo e2;subst ex;have ry':=A3 f.s ry (by rw[ey];exact GJ bs);rw[ey] at ry';exact⟨c0,a,bs,EE rx (GI a),ry',k _ H c f .refl (.bl _)⟩
end
abbrev vw(d:L2.D):Option L2.Sl:=some (.val d)
abbrev bM(i:Int):L2.M L2.D:=L2.fC (.int i)
end L2
namespace LW
inductive AN7(p0 p1 p2 p3 p4 p5 p6:Prop):Prop where|mk:p0->p1->p2->p3->p4->p5->p6->AN7 p0 p1 p2 p3 p4 p5 p6
inductive AN8(p0 p1 p2 p3 p4 p5 p6 p7:Prop):Prop where|mk:p0->p1->p2->p3->p4->p5->p6->p7->AN8 p0 p1 p2 p3 p4 p5 p6 p7
inductive XN5{A0 A1 A2 A3 A4:Type}(P:A0->A1->A2->A3->A4->Prop):Prop where|mk(a0:A0)(a1:A1)(a2:A2)(a3:A3)(a4:A4)(h:P a0 a1 a2 a3 a4):XN5 P
inductive XN7{A0 A1 A2 A3 A4 A5 A6:Type}(P:A0->A1->A2->A3->A4->A5->A6->Prop):Prop where|mk(a0:A0)(a1:A1)(a2:A2)(a3:A3)(a4:A4)(a5:A5)(a6:A6)(h:P a0 a1 a2 a3 a4 a5 a6):XN7 P
inductive XN8{A0 A1 A2 A3 A4 A5 A6 A7:Type}(P:A0->A1->A2->A3->A4->A5->A6->A7->Prop):Prop where|mk(a0:A0)(a1:A1)(a2:A2)(a3:A3)(a4:A4)(a5:A5)(a6:A6)(a7:A7)(h:P a0 a1 a2 a3 a4 a5 a6 a7):XN8 P
inductive XN6{A0 A1 A2 A3 A4 A5:Type}(P:A0->A1->A2->A3->A4->A5->Prop):Prop where|mk(a0:A0)(a1:A1)(a2:A2)(a3:A3)(a4:A4)(a5:A5)(h:P a0 a1 a2 a3 a4 a5):XN6 P
inductive AN3(p0 p1 p2:Prop):Prop where|mk:p0->p1->p2->AN3 p0 p1 p2
open PySem L2
def Ey:M Out:=
 (Aq (Ac (Ac (Ac (Ac (Ab 0) (Ac (Ab 1) (bM 0) ixD) ixD) (bM 1) ixD) (Ac (Ab 1) (bM 1) ixD) ixD) (bM 2) ixD))
def FU(Of:Fn):M Out:=
 (Aq (fIf (Ai (Ag Of (Aa (Ab 0) Ad))) (As Ad) (Ac (Ab 0) (bM 1) ixD)))
def HA:M Out:=
 (Aq (Ac (Ac (Ab 0) (bM 0) ixD) (fC (.str "end")) (eqS id)))
def D2:M Out:=
 (Aq (Ac (Ac (fUn (Ab 0) H9) (bM 7) Aw) (bM 8) D8))
def Ew:M Out:=
 (Ah (Am 1 (bM 0))
 (Ah (FB (Ai (Ac (Ab 0) (bM 0) gtA))
   (Ah (Am 0 (Ac (Ab 0) (bM 256) D8))
 (Am 1 (Ac (Ab 1) (bM 1) Aw))))
 (Aq (Ab 1))))
def Cs:M Out:=
 (Ah (Am 2 (bM 0))
 (Ah (ifS (Ai (Ac (Ab 1) (fB (Aa (Ab 0) Ad) AD) ltA))
   (Am 2 (Ac (Ab 0) (Ab 1) ixD))
   An)
 (Aq (Ij [("rest",(Ab 2)),("digits",(Gn (Ac (Ab 1) (fB (Aa (Ab 0) Ad) AD) geA) (Ac (Ab 2) (Ac (bM 10) (bM 18) FX) geA))),("count",(Ab 1))]))))
def CK:M Out:=
 (Ah (ifS (Ai (Ac (Ab 0) (fC (.str "digits")) Dm))
   (Ah (Am 2 (Ac (Ac (Ab 0) (fC (.str "rest")) Dm) (Ab 1) CS))
 (Ah (Cc (Ac (Ac (Ab 0) (fC (.str "rest")) Dm) (Ab 1) G1) (Dv (Ab 0) (fC (.str "rest"))))
 (Aq (Ab 2))))
   An)
 (Ah (Cc (Ac (Ac (Ab 0) (fC (.str "count")) Dm) (bM 1) Aw) (Dv (Ab 0) (fC (.str "count"))))
 (Ah (Am 3 (Ac (Ac (Ac (Ac (Ab 0) (fC (.str "rest")) Dm) (bM 999999999989) CS) (Ac (bM 480007) (Ac (Ab 0) (fC (.str "count")) Dm) HD) Aw) (bM 999999999989) CS))
 (Ah (Am 3 (Ac (Ac (Ab 3) (Ab 3) HD) (bM 1000000000039) CS))
 (Ah (Am 3 (Ac (Ac (Ac (Ab 3) (bM 290027) Aw) (Ab 3) HD) (bM 999999999961) CS))
 (Aq (Ac (Ac (Ab 3) (bM 7) G1) (Ab 1) CS)))))))
def AT(Ae Au:Fn):M Out:=
 (Ah (Am 2 (Ag Ae (Aa (Ab 0) (Aa (Ac (bM 3) (Ac (bM 3) (fB (Aa (Ac (Ab 1) (bM 0) gtA) Ad) DX) Ct) Aw) Ad))))
 (Ah (ifS (Ai (Ac (Ab 2) (bM 0) (eqS id)))
   (Aq (As (Aa (fC (.str "nothing")) Ad)))
   An)
 (Ah (ifS (Ai (Ac (Ab 2) (bM 1) (eqS id)))
   (Ah (Am 3 (Ac (Al (Av (Aa (bM 0) (Aa (Ac (Ag Ae (Aa (Ab 0) (Aa (bM 9) Ad))) (bM 4) Cw) (Aa (Ac (Ag Ae (Aa (Ab 0) (Aa (Ac (bM 10) (bM 16) FX) Ad))) (Ac (bM 10) (bM 15) FX) Cw) Ad))))) (Ag Ae (Aa (Ab 0) (Aa (bM 3) Ad))) ixD))
 (Aq (As (Aa (fC (.str "number")) (Aa (Ab 3) (Aa (Ac (Ab 3) (Ac (Al (Av (Aa (bM 0) (Aa (bM 1) (Aa (bM 200) (Aa (bM 255) (Aa (bM 256) (Aa (bM 70000) (Aa (Ag Ae (Aa (Ab 0) (Aa (Ac (bM 10) (bM 16) FX) Ad))) Ad))))))))) (Ag Ae (Aa (Ab 0) (Aa (bM 7) Ad))) ixD) Aw) Ad))))))
   An)
 (Ah (ifS (Ai (Ac (Ab 2) (bM 2) (eqS id)))
   (Aq (As (Aa (fC (.str "text")) (Aa (Ac (Al (Av (Aa (bM 0) (Aa (bM 1) (Aa (bM 5) (Aa (bM 250) Ad)))))) (Ag Ae (Aa (Ab 0) (Aa (bM 4) Ad))) ixD) Ad))))
   An)
 (Ah (ifS (Ai (Ac (Ab 2) (bM 3) (eqS id)))
   (Ah (Am 4 (Ag Au (Aa (Ab 0) (Aa (Ac (Ab 1) (bM 1) Cw) Ad))))
 (Ah (ifS (Ai (Ac (Ac (Ab 4) (bM 0) ixD) (fC (.str "list")) (eqS id)))
   (Am 4 (As (Aa (fC (.str "list")) (Aa (Ac (Ab 4) (bM 1) ixD) (Aa (fB (Aa (Ac (Ab 4) (bM 2) ixD) (Aa (bM 6) Ad)) FV) Ad)))))
   An)
 (Aq (As (Aa (fC (.str "list")) (Aa (Ab 4) (Aa (Ac (Al (Av (Aa (bM 0) (Aa (bM 2) (Aa (bM 6) (Aa (bM 250) Ad)))))) (Ag Ae (Aa (Ab 0) (Aa (bM 4) Ad))) ixD) Ad)))))))
   An)
 (Ah (ifS (Ai (Ac (Ab 2) (bM 4) (eqS id)))
   (Aq (As (Aa (fC (.str "pair")) (Aa (Ag Au (Aa (Ab 0) (Aa (Ac (Ab 1) (bM 1) Cw) Ad))) (Aa (Ag Au (Aa (Ab 0) (Aa (Ac (Ab 1) (bM 1) Cw) Ad))) Ad)))))
   An)
 (Aq (As (Aa (fC (.str "choice")) (Aa (fB (Aa (Al (AN 1 [0,1] (B2 (Aa (Ac (bM 1) (Ag Ae (Aa (Ab 0) (Aa (bM 3) Ad))) Aw) Ad)) (Aj 0) BL (Ag Au (Aa (Ab 1) (Aa (Ac (Ab 2) (bM 1) Cw) Ad))))) Ad) HN) Ad))))))))))
def wdZ(Ae Au:Fn):M Out:=
 (Ah (Am 11 (Ac (Al (Av (Aa (fB (Aa (Ac (Ab 2) (bM 1) Cw) (Aa (Ac (Ab 5) (bM 1) Aw) Ad)) FV) (Aa (Ag Ae (Aa (Ab 6) (Aa (Ab 2) Ad))) Ad)))) (Ag Ae (Aa (Ab 6) (Aa (bM 2) Ad))) ixD))
 (ownM 9 AZ (Aa (As (Aa (Ac (Ab 3) (Ac (Ac (Ab 8) (Ac (bM 3) (Ab 10) Ct) Aw) (bM 14) CS) ixD) (Aa (Ag Au (Aa (Ab 6) (Aa (Ag Ae (Aa (Ab 6) (Aa (bM 3) Ad))) Ad))) (Aa (Ab 11) Ad)))) Ad)))
def CQ(Ae Au AV:Fn):M Out:=
 (Ah (Am 3 (Al (Av (Aa (fC (.str "a")) (Aa (fC (.str "ab")) (Aa (fC (.str "b")) (Aa (fC (.str "ba")) (Aa (fC (.str "abc")) (Aa (fC (.str "zz")) (Aa (fC (.str "hello")) (Aa (fC (.str "x")) (Aa (fC (.str "quit")) (Aa (fC (.str "go")) (Aa (fC (.str "abcdefgh")) (Aa (fC (.str "c")) (Aa (fC (.str "no")) (Aa (fC (.str "abcdefgi")) Ad)))))))))))))))))
 (Ah (CG 4 (Av Ad))
 (Ah (Ba (B2 (Aa (Ab 2) Ad)) (Aj 5)
   (Ah (Am 6 (Ag AV (Aa (Ab 0) (Aa (Ac (Ab 1) (Ab 5) Aw) Ad))))
 (ifS (DW (Ai (Ac (Ag Ae (Aa (Ab 6) (Aa (bM 6) Ad))) (bM 1) (eqS id))) (fOr (Ai (Ac (Ab 5) (bM 0) gtA)) (Ai (Ac (Ag Ae (Aa (Ab 6) (Aa (bM 4) Ad))) (bM 1) (eqS id)))))
   (ownM 4 AZ (Aa (As (Aa (fC (.str "end")) Ad)) Ad))
   (Ah (Am 7 (Ac (Al (Av (Aa (fC (.str "left")) (Aa (fC (.str "right")) Ad)))) (Ag Ae (Aa (Ab 6) (Aa (bM 2) Ad))) ixD))
 (Ah (Am 8 (Ag Ae (Aa (Ab 6) (Aa (bM 14) Ad))))
 (Ah (CG 9 (Av Ad))
 (Ah (Ba (B2 (Aa (Ac (Al (Av (Aa (bM 1) (Aa (bM 2) (Aa (bM 3) (Aa (bM 9) Ad)))))) (Ag Ae (Aa (Ab 6) (Aa (bM 4) Ad))) ixD) Ad)) (Aj 10)
   (wdZ Ae Au))
 (ownM 4 AZ (Aa (As (Aa (Ab 7) (Aa (Ab 9) Ad))) Ad)))))))))
 (Aq (Ab 4)))))
def E1(BX Hi:Fn):M Out:=
 (Ah (Am 2 (Ac (Ab 0) (bM 0) ixD))
 (Ah (ifS (Ai (Ac (Ab 2) (Ac (Ab 1) (bM 0) ixD) (eqS λb=>!b)))
   (Aq (fC (.bl false)))
   An)
 (Ah (ifS (Ai (Ac (Ab 2) (fC (.str "nothing")) (eqS id)))
   (Aq (fC (.bl true)))
   An)
 (Ah (ifS (Ai (Ac (Ab 2) (fC (.str "number")) (eqS id)))
   (Aq (Cm (Ac (Ac (Ab 0) (bM 1) ixD) (Ac (Ab 1) (bM 1) ixD) (eqS id)) (Cm (Ac (Ag Hi (Aa (Ab 0) Ad)) (Ag Hi (Aa (Ab 1) Ad)) (eqS id)) (Ac (Ac (Ab 0) (bM 2) ixD) (Ac (Ab 1) (bM 2) ixD) leA))))
   An)
 (Ah (ifS (Ai (Ac (Ab 2) (fC (.str "text")) (eqS id)))
   (Aq (Ac (Ac (Ab 0) (bM 1) ixD) (Ac (Ab 1) (bM 1) ixD) leA))
   An)
 (Ah (ifS (Ai (Ac (Ab 2) (fC (.str "list")) (eqS id)))
   (Aq (Cm (Ac (Ac (Ab 0) (bM 2) ixD) (Ac (Ab 1) (bM 2) ixD) leA) (Gn (Ac (Ac (Ab 0) (bM 2) ixD) (bM 0) (eqS id)) (Ag BX (Aa (Ac (Ab 0) (bM 1) ixD) (Aa (Ac (Ab 1) (bM 1) ixD) Ad))))))
   An)
 (Ah (ifS (Ai (Ac (Ab 2) (fC (.str "pair")) (eqS id)))
   (Aq (Cm (Ag BX (Aa (Ac (Ab 0) (bM 1) ixD) (Aa (Ac (Ab 1) (bM 1) ixD) Ad))) (Ag BX (Aa (Ac (Ab 0) (bM 2) ixD) (Aa (Ac (Ab 1) (bM 2) ixD) Ad)))))
   An)
 (Aq (Cm (Ac (fB (Aa (Ac (Ab 0) (bM 1) ixD) Ad) AD) (fB (Aa (Ac (Ab 1) (bM 1) ixD) Ad) AD) leA) (fB (Aa (Al (AN 1 [0,1] (B2 (Aa (fB (Aa (Ac (Ab 0) (bM 1) ixD) Ad) AD) Ad)) (Aj 0) BL (Ag BX (Aa (Ac (Ac (Ab 1) (bM 1) ixD) (Ab 0) ixD) (Aa (Ac (Ac (Ab 2) (bM 1) ixD) (Ab 0) ixD) Ad))))) Ad) Hs))))))))))
def FT(IY:Fn):M Out:=
 (Aq (Ag IY (Aa (Ac (Ac (Ab 0) (bM 2) ixD) (Ac (Ab 0) (bM 1) ixD) Cw) Ad)))
def rlB(CN:Fn):M Out:=
 (Ah (Am 8 (Ag CN (Aa (Ab 0) (Aa (Ab 1) (Aa (Ab 7) Ad)))))
 (ifS (Ai (Ac (Ab 8) (Ab 4) (inU true)))
   (Ah (Cc (fC (.bl true)) (stU (Ab 4) (Ab 8)))
 (D7 (objM AZ (Ab 5) (Aa (Ab 8) Ad))))
   An))
def D1(CN FK:Fn):M Out:=
 (Ah (CG 3 (Av Ad))
 (Ah (Am 4 (Gm (As (Aa (bM 0) (Aa (bM 0) Ad))) (fC (.bl true))))
 (Ah (Am 5 (C5 (Av (Aa (As (Aa (bM 0) (Aa (bM 0) Ad))) Ad))))
 (Ah (FB (Ai (Ac (fB (Aa (Ab 5) Ad) AD) (bM 0) gtA))
   (Ah (Am 6 (Ag FK (Aa (Ab 0) (Aa (Ab 1) (Aa (Ab 2) (Aa (KY (Ab 5)) Ad))))))
 (Ah (ifS (Ai (Ac (Ab 6) (fC .non) isC))
   (Aq (fC .non))
   An)
 (Ah (ownM 3 EW (Aa (Ab 6) Ad))
 (Ba (BH (Ab 6)) (Aj 7)
   (rlB CN))))))
 (Aq (C5 (fBF (Aa (Ab 3) Ad) EH)))))))
def GA(Ks Hf J0 DL Ia Kr:Fn):M Out:=
 (Ah (ifS (Ai (Ag Kr (Aa (Ab 0) (Aa (Ab 1) (Aa (Ab 3) Ad)))))
   (Aq (fC .non))
   An)
 (Ah (Am 4 (Ac (Ac (Ab 0) (Ac (Ab 3) (bM 0) ixD) ixD) (bM 0) ixD))
 (Ah (Am 5 (Al (AN 1 [3] (BH (Ag Ia (Aa (Ag DL (Aa (Ac (Ab 0) (Ac (Ab 3) (bM 0) ixD) ixD) Ad)) (Aa (Ag DL (Aa (Ac (Ab 1) (Ac (Ab 3) (bM 1) ixD) ixD) Ad)) (Aa (Ab 2) Ad))))) (Aj 0) BL (Ac (Ab 1) (Ab 0) Aw))))
 (Ah (ifS (Ai (Ac (Al (fBF (Aa (Al (AN 1 [4] (BH (Ab 5)) (Aj 0) BL (Ag Hf (Aa (Ab 1) (Aa (Ab 0) Ad))))) Ad) Hc)) (Al (fBF (Aa (fB (Aa (Ag J0 (Aa (Ab 0) (Aa (Ab 1) (Aa (Ab 3) Ad)))) Ad) AD) Ad) Iz)) (eqS λb=>!b)))
   (Aq (fC .non))
   An)
 (Ah (ifS (Cn (Ai (fB (Aa (Al (AN 1 [0,1,4] (BH (Ab 5)) (Aj 0) BL (Ag Ks (Aa (Ab 1) (Aa (Ab 2) (Aa (Ab 3) (Aa (Ab 0) Ad))))))) Ad) Hs)))
   (Aq (fC .non))
   An)
 (Aq (Ab 5)))))))
def plB:M Out:=
 (Ah (Am 5 (D5 (Ab 2) (Aa (Ac (Ac (Ab 0) (Ab 4) ixD) (bM 0) ixD) Ad)))
 (ownM 3 EW (Aa (Al (AN 1 [4,5,1] (B2 (Aa (fB (Aa (Ab 1) Ad) AD) Ad)) (Aj 0) (Ai (Ac (Ac (Ac (Ab 3) (Ab 0) ixD) (bM 0) ixD) (Ab 2) (eqS id))) (As (Aa (Ab 1) (Aa (Ab 0) Ad))))) Ad)))
def DC:M Out:=
 (Ah (CG 3 (Av Ad))
 (Ah (Ba (B2 (Aa (fB (Aa (Ab 0) Ad) AD) Ad)) (Aj 4)
   (plB))
 (Aq (Ab 3))))
def Dg:M Out:=
 (Aq (fIf (Ai (Ac (Ab 0) (fC (.str "left")) (eqS id))) (Ac (Ab 1) (bM 2) ixD) (Ac (Ab 1) (bM 3) ixD)))
def EZ(BX:Fn):M Out:=
 (Ah (Am 4 (Ac (Ac (Ac (Ac (Ab 0) (Ac (Ab 3) (bM 0) ixD) ixD) (bM 1) ixD) (Ac (Ab 3) (bM 2) ixD) ixD) (bM 1) ixD))
 (Ah (Am 5 (Ac (Ac (Ac (Ac (Ab 1) (Ac (Ab 3) (bM 1) ixD) ixD) (bM 1) ixD) (Ac (Ab 3) (bM 3) ixD) ixD) (bM 1) ixD))
 (Aq (fIf (Ai (Ac (Ab 2) (fC (.str "left")) (eqS id))) (Ag BX (Aa (Ab 4) (Aa (Ab 5) Ad))) (Ag BX (Aa (Ab 5) (Aa (Ab 4) Ad)))))))
def E3(F5:Fn):M Out:=
 (Aq (As (Aa (Ag F5 (Aa (Ab 0) (Aa (As (Aa (Ac (Ab 2) (bM 0) ixD) (Aa (Ac (Ab 2) (bM 2) ixD) Ad))) Ad))) (Aa (Ag F5 (Aa (Ab 1) (Aa (As (Aa (Ac (Ab 2) (bM 1) ixD) (Aa (Ac (Ab 2) (bM 3) ixD) Ad))) Ad))) Ad))))
def EY:M Out:=
 (Aq (Ac (Ac (Ac (Ab 0) (Ac (Ab 2) (bM 0) ixD) ixD) (bM 0) ixD) (Ac (Ac (Ab 1) (Ac (Ab 2) (bM 1) ixD) ixD) (bM 0) ixD) (eqS λb=>!b)))
def Ez(DL:Fn):M Out:=
 (Aq (Ag DL (Aa (fIf (Ai (Ac (Ac (Ac (Ab 0) (Ac (Ab 2) (bM 0) ixD) ixD) (bM 0) ixD) (fC (.str "left")) (eqS id))) (Ac (Ab 0) (Ac (Ab 2) (bM 0) ixD) ixD) (Ac (Ab 1) (Ac (Ab 2) (bM 1) ixD) ixD)) Ad)))
def C6(BV CM:Fn):M Out:=
 (Ah (ifS (Ai (Ac (Ac (Ab 0) (bM 0) ixD) (Ac (Ab 1) (bM 0) ixD) (eqS λb=>!b)))
   (Aq (fC (.bl false)))
   An)
 (Ah (ifS (Ai (Ac (Ac (Ab 0) (bM 0) ixD) (fC (.str "nothing")) (eqS id)))
   (Aq (fC (.bl true)))
   An)
 (Ah (ifS (Ai (Ac (Ac (Ab 0) (bM 0) ixD) (fC (.str "number")) (eqS id)))
   (Aq (Cm (Ac (Ac (Ab 0) (bM 1) ixD) (Ac (Ab 1) (bM 1) ixD) (eqS id)) (Cm (Ac (Ac (Ab 0) (bM 2) ixD) (Ac (Ab 1) (bM 2) ixD) leA) (Ac (Ag CM (Aa (Ac (Ac (Ab 0) (bM 2) ixD) (Ac (Ab 0) (bM 1) ixD) Cw) Ad)) (Ag CM (Aa (Ac (Ac (Ab 1) (bM 2) ixD) (Ac (Ab 1) (bM 1) ixD) Cw) Ad)) (eqS id)))))
   An)
 (Ah (ifS (Ai (Ac (Ac (Ab 0) (bM 0) ixD) (fC (.str "text")) (eqS id)))
   (Aq (Ac (Ac (Ab 0) (bM 1) ixD) (Ac (Ab 1) (bM 1) ixD) leA))
   An)
 (Ah (ifS (Ai (Ac (Ac (Ab 0) (bM 0) ixD) (fC (.str "list")) (eqS id)))
   (Aq (Cm (Ac (Ac (Ab 0) (bM 2) ixD) (Ac (Ab 1) (bM 2) ixD) leA) (Gn (Ac (Ac (Ab 0) (bM 2) ixD) (bM 0) (eqS id)) (Ag BV (Aa (Ac (Ab 0) (bM 1) ixD) (Aa (Ac (Ab 1) (bM 1) ixD) Ad))))))
   An)
 (Ah (ifS (Ai (Ac (Ac (Ab 0) (bM 0) ixD) (fC (.str "pair")) (eqS id)))
   (Aq (Cm (Ag BV (Aa (Ac (Ab 0) (bM 1) ixD) (Aa (Ac (Ab 1) (bM 1) ixD) Ad))) (Ag BV (Aa (Ac (Ab 0) (bM 2) ixD) (Aa (Ac (Ab 1) (bM 2) ixD) Ad)))))
   An)
 (Ah (ifS (Ai (Ac (fB (Aa (Ac (Ab 0) (bM 1) ixD) Ad) AD) (fB (Aa (Ac (Ab 1) (bM 1) ixD) Ad) AD) gtA))
   (Aq (fC (.bl false)))
   An)
 (Aq (Ac (Al (AN 1 [0,1] (B2 (Aa (fB (Aa (Ac (Ab 0) (bM 1) ixD) Ad) AD) Ad)) (Aj 0) (Cn (Ai (Ag BV (Aa (Ac (Ac (Ab 1) (bM 1) ixD) (Ab 0) ixD) (Aa (Ac (Ac (Ab 2) (bM 1) ixD) (Ab 0) ixD) Ad))))) (Ab 0))) (Al (Av Ad)) (eqS id))))))))))
def Bf(AW Ae CM:Fn):M Out:=
 (Ah (Am 2 (Ac (Ab 1) (bM 0) ixD))
 (Ah (ifS (Ai (Ac (Ab 2) (fC (.str "number")) (eqS id)))
   (Ah (Am 3 (Ac (Al (Av (Aa (bM 0) (Aa (bM 1) (Aa (bM 55) (Aa (Ac (bM 10) (bM 9) FX) Ad)))))) (Ag Ae (Aa (Ab 0) (Aa (bM 4) Ad))) ixD))
 (Ah (ifS (Ai (Ac (Ag CM (Aa (Ac (Ac (Ac (Ab 1) (bM 2) ixD) (Ac (Ab 1) (bM 1) ixD) Cw) (Ab 3) Aw) Ad)) (Ag CM (Aa (Ac (Ac (Ab 1) (bM 2) ixD) (Ac (Ab 1) (bM 1) ixD) Cw) Ad)) (eqS λb=>!b)))
   (Am 3 (bM 0))
   An)
 (Aq (As (Aa (fC (.str "number")) (Aa (Ac (Ab 1) (bM 1) ixD) (Aa (Ac (Ac (Ab 1) (bM 2) ixD) (Ab 3) Aw) Ad)))))))
   An)
 (Ah (ifS (Ai (Ac (Ab 2) (fC (.str "text")) (eqS id)))
   (Aq (As (Aa (fC (.str "text")) (Aa (Ac (Al (Av (Aa (Ac (Ab 1) (bM 1) ixD) (Aa (fB (Aa (bM 250) (Aa (Ac (Ac (Ab 1) (bM 1) ixD) (bM 1) Aw) Ad)) FV) (Aa (bM 250) Ad))))) (Ag Ae (Aa (Ab 0) (Aa (bM 3) Ad))) ixD) Ad))))
   An)
 (Ah (ifS (Ai (Ac (Ab 2) (fC (.str "list")) (eqS id)))
   (Aq (As (Aa (fC (.str "list")) (Aa (Ag AW (Aa (Ab 0) (Aa (Ac (Ab 1) (bM 1) ixD) Ad))) (Aa (Ac (Al (Av (Aa (Ac (Ab 1) (bM 2) ixD) (Aa (fB (Aa (bM 250) (Aa (Ac (Ac (Ab 1) (bM 2) ixD) (bM 1) Aw) Ad)) FV) (Aa (bM 250) Ad))))) (Ag Ae (Aa (Ab 0) (Aa (bM 3) Ad))) ixD) Ad)))))
   An)
 (Ah (ifS (Ai (Ac (Ab 2) (fC (.str "pair")) (eqS id)))
   (Aq (As (Aa (fC (.str "pair")) (Aa (Ag AW (Aa (Ab 0) (Aa (Ac (Ab 1) (bM 1) ixD) Ad))) (Aa (Ag AW (Aa (Ab 0) (Aa (Ac (Ab 1) (bM 2) ixD) Ad))) Ad)))))
   An)
 (Ah (ifS (Ai (Ac (Ab 2) (fC (.str "choice")) (eqS id)))
   (Ah (Am 3 (fSl (As (Aa (As (Aa (fC (.str "nothing")) Ad)) (Aa (As (Aa (fC (.str "text")) (Aa (bM 3) Ad))) Ad))) fNo (Bc (Ag Ae (Aa (Ab 0) (Aa (bM 3) Ad)))) BK))
 (Aq (As (Aa (fC (.str "choice")) (Aa (Ac (fB (Aa (Al (AN 1 [0] (BH (Ac (Ab 1) (bM 1) ixD)) (Aj 0) BL (Ag AW (Aa (Ab 1) (Aa (Ab 0) Ad))))) Ad) HN) (Ab 3) Aw) Ad)))))
   An)
 (Aq (Ab 1))))))))
def Kb(Ae:Fn):M Out:=
 (Ah (ifS (Ai (Ac (Ag Ae (Aa (Ab 0) (Aa (bM 6) Ad))) (bM 1) (eqS id)))
   (D7 (J6 (Ab 3) (Aa (Ac (Ab 1) (Ag Ae (Aa (Ab 0) (Aa (bM 14) Ad))) ixD) Ad)))
   An)
 (Aq (Ab 3)))
def Cr(Ae:Fn):M Out:=
 (Ah (Am 1 (Al (Av (Aa (fC (.str "a")) (Aa (fC (.str "ab")) (Aa (fC (.str "b")) (Aa (fC (.str "ba")) (Aa (fC (.str "abc")) (Aa (fC (.str "zz")) (Aa (fC (.str "hello")) (Aa (fC (.str "x")) (Aa (fC (.str "quit")) (Aa (fC (.str "go")) (Aa (fC (.str "abcdefgh")) (Aa (fC (.str "c")) (Aa (fC (.str "no")) (Aa (fC (.str "abcdefgi")) Ad)))))))))))))))))
 (Ah (Am 2 (Ag Ae (Aa (Ab 0) (Aa (bM 14) Ad))))
 (Ah (Am 3 (C8 []))
 (Ah (Ba (B2 (Aa (bM 14) Ad)) (Aj 4)
   (Cc (Ac (Ab 1) (Ac (Ac (Ab 4) (Ab 2) Aw) (bM 14) CS) ixD) (Dv (Ab 3) (Ac (Ab 1) (Ab 4) ixD))))
 (Ah (ifS (Ai (Ac (Ag Ae (Aa (Ab 0) (Aa (bM 3) Ad))) (bM 1) (eqS id)))
   (Cc (Ac (Ab 1) (Ag Ae (Aa (Ab 0) (Aa (bM 14) Ad))) ixD) (Dv (Ab 3) (Ac (Ab 1) (Ag Ae (Aa (Ab 0) (Aa (bM 14) Ad))) ixD)))
   An)
 (Kb Ae))))))
def Bv(Ae Au AW:Fn):M Out:=
 (Ah (ifS (Ai (Ac (fB (Aa (Ab 1) Ad) AD) (bM 1) (eqS id)))
   (Aq (Al (Av (Aa (Ab 1) (Aa (Ab 1) Ad)))))
   An)
 (Ah (Cc (Ab 1) (unS 2 (Ak (Aj 4) (Ak (Aj 5) AJ))))
 (Ah (CG 6 (Av Ad))
 (Ah (CG 7 (Av Ad))
 (Ah (Ba (BH (Ab 5)) (unS 3 (Ak (Aj 8) (Ak (Aj 9) (Ak (Aj 10) AJ))))
   (Ah (Am 11 (Ab 9))
 (Ah (ifS (Ai (Ac (Ag Ae (Aa (Ab 0) (Aa (bM 2) Ad))) (bM 1) (eqS id)))
   (Am 11 (Ag AW (Aa (Ab 0) (Aa (Ab 9) Ad))))
   An)
 (Ah (ifS (Ai (Ac (Ag Ae (Aa (Ab 0) (Aa (bM 40) Ad))) (bM 1) (eqS id)))
   (Am 11 (Ag Au (Aa (Ab 0) (Aa (bM 1) Ad))))
   An)
 (Ah (Am 12 (Al (Av (Aa (Ab 9) (Aa (Ab 11) Ad)))))
 (Ah (ifS (Ai (Ac (Ab 4) (fC (.str "right")) (eqS id)))
   (Am 12 (Al (Av (Aa (Ab 11) (Aa (Ab 9) Ad)))))
   An)
 (Ah (Am 13 (D5 (Ab 2) (Aa (Ab 8) (Aa (fC (.str "none")) Ad))))
 (Ah (ownM 6 AZ (Aa (As (Aa (Ab 8) (Aa (Ac (Ab 12) (bM 0) ixD) (Aa (Ab 10) Ad)))) Ad))
 (ifS (Ai (Ac (Ab 13) (Al (Do 1 [] 7 (Aj 0) BL (Ac (Ab 0) (bM 0) ixD))) (inD true)))
   (ownM 7 AZ (Aa (As (Aa (Ab 13) (Aa (Ac (Ab 12) (bM 1) ixD) (Aa (Ac (Ab 3) (Ab 10) ixD) Ad)))) Ad))
   (ifS (Ai (Ac (Ab 4) (fC (.str "left")) (eqS id)))
   (ownM 7 AZ (Aa (As (Aa (Ac (fC (.str "other")) (Ac (fC (.str "abcdefghi")) (Dz 7) ixD) Aw) (Aa (Ac (Ab 12) (bM 1) ixD) (Aa (Ac (Ab 3) (Ab 10) ixD) Ad)))) Ad))
   An))))))))))
 (Ah (Am 14 (Al (AN 1 [0] (B2 (Aa (Ag Ae (Aa (Ab 0) (Aa (bM 3) Ad))) Ad)) (Aj 0) BL (As (Aa (Ac (fC (.str "extra")) (Ac (fC (.str "abc")) (Ab 0) ixD) Aw) (Aa (Ag Au (Aa (Ab 1) (Aa (bM 1) Ad))) (Aa (bM 0) Ad)))))))
 (Ah (Am 15 (Ag Ae (Aa (Ab 0) (Aa (fB (Aa (Ab 5) Ad) AD) Ad))))
 (Ah (Am 16 (Ag Ae (Aa (Ab 0) (Aa (fB (Aa (Ab 5) Ad) AD) Ad))))
 (Ah (Am 14 (fSl (Ab 14) fNo (Bc (Ac (bM 9) (fB (Aa (Ab 5) Ad) AD) Cw)) BK))
 (Ah (ifS (Ai (Ac (Ab 4) (fC (.str "left")) (eqS id)))
   (Aq (Al (Av (Aa (As (Aa (Ab 4) (Aa (Ac (fSl (Ab 6) (Bc (Ab 16)) fNo BK) (fSl (Ab 6) fNo (Bc (Ab 16)) BK) Aw) Ad))) (Aa (As (Aa (Ab 4) (Aa (Ac (Ac (fSl (Ab 7) (Bc (Ab 15)) fNo BK) (Ab 14) Aw) (fSl (Ab 7) fNo (Bc (Ab 15)) BK) Aw) Ad))) Ad)))))
   An)
 (Aq (Al (Av (Aa (As (Aa (Ab 4) (Aa (Ac (Ac (fSl (Ab 6) (Bc (Ab 15)) fNo BK) (Ab 14) Aw) (fSl (Ab 6) fNo (Bc (Ab 15)) BK) Aw) Ad))) (Aa (As (Aa (Ab 4) (Aa (Ac (fSl (Ab 7) (Bc (Ab 16)) fNo BK) (fSl (Ab 7) fNo (Bc (Ab 16)) BK) Aw) Ad))) Ad)))))))))))))))
def Nq(Ae:Fn):M Out:=
 (Ah (ifS (Ai (Ac (fB (Aa (Ab 4) Ad) AD) (bM 1) gtA))
   (Am 4 (As (Aa (Ac (Ab 4) (bM 0) ixD) (Aa (Al (AN 3 [2,0] (BH (Ac (Ab 4) (bM 1) ixD)) (unS 3 (Ak (Aj 0) (Ak (Aj 1) (Ak (Aj 2) AJ)))) BL (As (Aa (Ab 0) (Aa (Ab 1) (Aa (Ac (Ab 2) (Ac (Ab 3) (Ag Ae (Aa (Ab 4) (Aa (bM 2) Ad))) Ct) Aw) Ad)))))) Ad))))
   An)
 (ownM 3 AZ (Aa (Ab 4) Ad)))
def Dr(Ae:Fn):M Out:=
 (Ah (CG 3 (Av Ad))
 (Ah (FQ (Hv (Ab 1)) (Aj 4)
   (Nq Ae))
 (Fp 3)))
def Ex(Ae EM Bu AV JY Dl:Fn):M Out:=
 (Ah (Am 1 (Ag AV (Aa (Ab 0) (Aa (bM 0) Ad))))
 (Ah (Am 2 (Ac (bM 1) (Ag Ae (Aa (Ab 1) (Aa (bM 5) Ad))) Aw))
 (Ah (Am 3 (Ag Dl (Aa (Ab 0) (Aa (bM 2) (Aa (Ab 2) Ad)))))
 (Ah (Am 4 (Ag JY (Aa (Ab 1) Ad)))
 (Ah (Am 5 (Ag Ae (Aa (Ab 1) (Aa (bM 2) Ad))))
 (Ah (Am 6 (Al (AN 1 [5,2] (B2 (Aa (Ab 2) Ad)) (Aj 0) BL (Ac (Al (Av (Aa (Ab 0) (Aa (Ac (Ac (Ab 2) (Ab 0) Cw) (Ab 2) CS) Ad)))) (Ab 1) ixD))))
 (Ah (Am 7 (C5 (bnd (Ac (Al (Av (Aa (fC .non) Ad))) (Ab 2) Ct) λx=>bnd (bM 2) λy=>Li x y)))
 (Ah (Am 8 (C5 (bnd (Ac (Al (Av (Aa (fC .non) Ad))) (Ab 2) Ct) λx=>bnd (bM 2) λy=>Li x y)))
 (Ah (Ba (B2 (Aa (Ab 2) Ad)) (Aj 9)
   (Ah (Am 10 (Ag AV (Aa (Ab 0) (Aa (Ac (bM 8) (Ab 9) Aw) Ad))))
 (Ba (BH (Al (Av (Aa (bM 0) (Aa (Ab 2) Ad))))) (Aj 11)
   (Cc (Ag Bu (Aa (Ab 10) (Aa (Ac (Ab 3) (Ab 9) ixD) (Aa (Ab 4) (Aa (Ab 6) Ad))))) (unS 2 (Ak (stD (Ab 7) (Ac (Ab 9) (Ab 11) Aw)) (Ak (stD (Ab 8) (Ac (Ac (Ab 6) (Ab 9) ixD) (Ab 11) Aw)) AJ)))))))
 (Ah (Am 5 (Ag Ae (Aa (Ab 1) (Aa (bM 4) Ad))))
 (Ah (Am 7 (Ac (Al (Av (Aa (C5 (Ja (Ab 7) fNo (Bc (Ab 2)))) (Aa (C5 (Et EM (Aa (Ab 1) (Aa (Ab 7) (Aa (Ab 2) Ad))))) Ad)))) (Ac (Ab 5) (bM 2) D8) ixD))
 (Ah (Am 8 (Ac (Al (Av (Aa (C5 (Ja (Ab 8) fNo (Bc (Ab 2)))) (Aa (C5 (Et EM (Aa (Ab 1) (Aa (Ab 8) (Aa (Ab 2) Ad))))) Ad)))) (Ac (Ab 5) (bM 2) CS) ixD))
 (Ah (Am 11 (Ag Ae (Aa (Ab 1) (Aa (Ac (bM 8) (fB (Aa (Ab 8) Ad) AD) Ct) Ad))))
 (Ah (ifS (DW (Ai (Ac (Ab 11) (fB (Aa (Ab 8) Ad) AD) ltA)) (DW (Ai (Ac (fB (Aa (Ac (Ab 8) (Ab 11) ixD) Ad) AD) (bM 1) gtA)) (Ai (Ac (Ab 11) (bM 0) gtA))))
   (Cc (As (Aa (Ac (Al (Av (Aa (fC (.str "left")) (Aa (fC (.str "right")) Ad)))) (fB (Aa (Ac (Ac (Ac (Ab 8) (Ab 11) ixD) (bM 0) ixD) (fC (.str "left")) (eqS id)) Ad) DX) ixD) (Aa (Ac (Ac (Ab 8) (Ab 11) ixD) (bM 1) ixD) Ad))) (stD (Ab 8) (Ab 11)))
   An)
 (Aq (As (Aa (Ab 7) (Aa (Ab 8) (Aa (Ab 4) Ad)))))))))))))))))))
def lkI:M Out:=
 (Ah (ifS (DW (Ai (Ac (Ac (Ab 0) (bM 0) ixD) (fC (.str "left")) (eqS id))) (Ai (Ac (D5 (Ab 2) (Aa (Ac (Ab 7) (bM 0) ixD) (Aa (fC (.str "")) Ad))) (Ac (Ab 10) (bM 0) ixD) (eqS id))))
   (ownM 8 AZ (Aa (Ab 9) Ad))
   An)
 (ifS (DW (Ai (Ac (Ac (Ab 0) (bM 0) ixD) (fC (.str "right")) (eqS id))) (Ai (Ac (D5 (Ab 2) (Aa (Ac (Ab 10) (bM 0) ixD) (Aa (fC (.str "")) Ad))) (Ac (Ab 7) (bM 0) ixD) (eqS id))))
   (ownM 8 AZ (Aa (Ab 9) Ad))
   An))
def DZ(BV:Fn):M Out:=
 (Ah (ifS (DW (Ai (Ac (fB (Aa (Ab 0) Ad) AD) (bM 1) (eqS id))) (Ai (Ac (fB (Aa (Ab 1) Ad) AD) (bM 1) (eqS id))))
   (Aq (Al (Av Ad)))
   An)
 (Ah (ifS (Ai (Ac (Ac (Ab 0) (bM 0) ixD) (Ac (Ab 1) (bM 0) ixD) (eqS λb=>!b)))
   (Aq (fC .non))
   An)
 (Ah (CG 3 (Av Ad))
 (Ah (Cc (Ac (Al (Av (Aa (As (Aa (Ac (Ab 0) (bM 1) ixD) (Aa (Ac (Ab 1) (bM 1) ixD) Ad))) (Aa (As (Aa (Ac (Ab 1) (bM 1) ixD) (Aa (Ac (Ab 0) (bM 1) ixD) Ad))) Ad)))) (fB (Aa (Ac (Ac (Ab 0) (bM 0) ixD) (fC (.str "right")) (eqS id)) Ad) DX) ixD) (unS 2 (Ak (Aj 4) (Ak (Aj 5) AJ))))
 (Ah (Ba (GZ (Aa (Ab 4) Ad)) (unS 2 (Ak (Aj 6) (Ak (Aj 7) AJ)))
   (Ah (CG 8 (Av Ad))
 (Ah (Ba (GZ (Aa (Ab 5) Ad)) (unS 2 (Ak (Aj 9) (Ak (Aj 10) AJ)))
   (lkI))
 (Ah (ifS (fOr (Ai (Ac (fB (Aa (Ab 8) Ad) AD) (bM 1) (eqS λb=>!b))) (Cn (Ai (Ag BV (Aa (Ac (Ab 7) (bM 1) ixD) (Aa (Ac (Ac (Ab 5) (Ac (Ab 8) (bM 0) ixD) ixD) (bM 1) ixD) Ad))))))
   (Aq (fC .non))
   An)
 (ownM 3 AZ (Aa (Ac (Al (Av (Aa (As (Aa (Ab 6) (Aa (Ac (Ab 8) (bM 0) ixD) Ad))) (Aa (As (Aa (Ac (Ab 8) (bM 0) ixD) (Aa (Ab 6) Ad))) Ad)))) (fB (Aa (Ac (Ac (Ab 0) (bM 0) ixD) (fC (.str "right")) (eqS id)) Ad) DX) ixD) Ad))))))
 (Aq (Ab 3)))))))
def tbB:M Out:=
 (Ah (ownM 4 AZ (Aa (As (Aa (Ab 6) (Aa (Ab 7) (Aa (Ab 9) (Aa (Ab 10) Ad))))) Ad))
 (Ah (Am 11 (As (Aa (Ac (Ac (Ac (Ac (Ab 0) (Ab 6) ixD) (bM 1) ixD) (Ab 9) ixD) (bM 2) ixD) (Aa (Ac (Ac (Ac (Ac (Ab 1) (Ab 7) ixD) (bM 1) ixD) (Ab 10) ixD) (bM 2) ixD) Ad))))
 (ifS (Ai (Ac (Ab 11) (Ab 3) inI))
   (D7 (objM AZ (Ab 3) (Aa (Ab 11) Ad)))
   An)))
def D0(Cz:Fn):M Out:=
 (Ah (Am 3 (C5 (Av (Aa (As (Aa (bM 0) (Aa (bM 0) Ad))) Ad))))
 (Ah (CG 4 (Av Ad))
 (Ah (Ba (B2 (Aa (Ac (fB (Aa (Ab 0) Ad) AD) (fB (Aa (Ab 1) Ad) AD) Ct) Ad)) (Aj 5)
   (Ba (BH (fSl (Ab 3) (Bc (Ab 5)) (Bc (Ac (Ab 5) (bM 1) Aw)) HI)) (unS 2 (Ak (Aj 6) (Ak (Aj 7) AJ)))
   (Ah (Am 8 (Ag Cz (Aa (Ac (Ab 0) (Ab 6) ixD) (Aa (Ac (Ab 1) (Ab 7) ixD) (Aa (Ab 2) Ad)))))
 (Ah (ifS (Ai (Ac (Ab 8) (fC .non) isC))
   (Aq (fC .non))
   An)
 (Ba (BH (Ab 8)) (unS 2 (Ak (Aj 9) (Ak (Aj 10) AJ)))
   (tbB))))))
 (Aq (Al (fBF (Aa (Ab 4) Ad) EH))))))
def Dq:M Out:=
 (Aq (Al (Gk 1 [] (Hv (Ab 0)) (Aj 0) BL (fIf (Ai (Ac (fB (Aa (Ab 0) Ad) AD) (bM 1) gtA)) (As (Aa (Ac (Ab 0) (bM 0) ixD) (Aa (Al (fBF (Aa (Ac (Ab 0) (bM 1) ixD) Ad) Gy)) Ad))) (Ab 0)))))
def Df(Fa Ga JZ:Fn):M Out:=
 (Ah (Am 3 (Ag JZ (Aa (Ab 0) (Aa (Ab 1) (Aa (Ab 2) Ad)))))
 (Ah (Am 4 (Al (Av (Aa (Ag Ga (Aa (Ab 0) Ad)) (Aa (Ag Ga (Aa (Ab 1) Ad)) (Aa (fB (Aa (Ab 2) Ad) GV) Ad))))))
 (Ah (Am 5 (Ag Fa (Aa (Ac (Ab 4) (bM 0) ixD) (Aa (Ac (Ab 4) (bM 1) ixD) (Aa (Ac (Ab 4) (bM 2) ixD) Ad)))))
 (Ah (ifS (fOr (Ai (Ac (Ab 5) (Ab 3) (eqT λb=>!b))) (fOr (Ai (Ac (fB (Aa (Ab 5) (Aa (fC (.ty "list")) Ad)) Hy) (fB (Aa (Ab 3) (Aa (fC (.ty "list")) Ad)) CP) (eqS λb=>!b))) (Ai (Ac (Ab 4) (Al (Av (Aa (Ab 0) (Aa (Ab 1) (Aa (Ab 2) Ad))))) (eqX false)))))
   (Aq (fC (.bl false)))
   An)
 (Ah (ifS (Ai (Ac (Ab 3) (fC .non) isC))
   (Aq (fC (.bl true)))
   An)
 (Ah (FQ (Hv (Ab 5)) (Aj 6)
   (ifS (fOr (Cn (Ai (fB (Aa (Ab 6) (Aa (fC (.ty "tuple")) Ad)) CP))) (Ai (Ac (Al (AN 1 [] (BH (Ab 6)) (Aj 0) (fOr (Cn (Ai (fB (Aa (Ab 0) (Aa (fC (.ty "int")) Ad)) CP))) (Ai (fB (Aa (Ab 0) (Aa (fC (.ty "bool")) Ad)) CP))) (Ab 0))) (Al (Av Ad)) (eqS λb=>!b))))
   (Aq (fC (.bl false)))
   An))
 (Ah (D7 (objM AZ (Ab 5) (Aa (As (Aa (bM 0) (Aa (bM 0) (Aa (bM 0) (Aa (bM 0) Ad))))) Ad)))
 (Aq (Ac (Ag Fa (Aa (Ac (Ab 4) (bM 0) ixD) (Aa (Ac (Ab 4) (bM 1) ixD) (Aa (Ac (Ab 4) (bM 2) ixD) Ad)))) (Ab 3) (eqT id))))))))))
def Gz(Bb Ae Dl AV Kq:Fn):M Out:=
 (Ah (Cc (Ag Kq (Aa (Ab 0) Ad)) (unS 3 (Ak (Aj 1) (Ak (Aj 2) (Ak (Aj 3) AJ)))))
 (Ah (ifS (fOr (Cn (Ai (Ag Bb (Aa (Ab 1) (Aa (Ab 2) (Aa (Ab 3) Ad)))))) (Cn (Ai (Ag Bb (Aa (Al (Av (Aa (As (Aa (fC (.str "end")) Ad)) Ad))) (Aa (Al (Av (Aa (As (Aa (fC (.str "end")) Ad)) Ad))) (Aa (C8 []) Ad)))))))
   (Aq (fC (.bl false)))
   An)
 (Ah (Am 4 (Ag AV (Aa (Ab 0) (Aa (bM 1) Ad))))
 (Ah (Am 5 (C8 []))
 (Ah (FQ (Hv (Ab 1)) (Aj 6)
   (Ba (BH (Ac (fSl (fSl (Ab 6) (Bc (bM 1)) fNo BK) fNo (Bc (bM 1)) BK) (fB (Aa (Ac (fB (Aa (Ab 6) Ad) AD) (bM 1) gtA) Ad) DX) Ct)) (Aj 7)
   (Ba (BH (Ab 7)) (unS 3 (Ak (Aj 8) (Ak (Aj 9) (Ak (Aj 10) AJ))))
   (Cc (Ab 8) (Dv (Ab 5) (Ab 8))))))
 (Ah (ifS (fOr (Cn (Ai (Ag Bb (Aa (Ab 1) (Aa (Ab 1) (Aa (Ab 5) Ad)))))) (fOr (Cn (Ai (Ag Bb (Aa (Ab 2) (Aa (Ab 1) (Aa (Ab 3) Ad)))))) (Cn (Ai (Ag Bb (Aa (Ab 1) (Aa (Ab 2) (Aa (C8 []) Ad))))))))
   (Aq (fC (.bl false)))
   An)
 (Ah (Am 11 (Ag Dl (Aa (Ab 0) (Aa (bM 14) (Aa (Ac (bM 1) (Ag Ae (Aa (Ab 4) (Aa (bM 5) Ad))) Aw) Ad)))))
 (Ah (ifS (fOr (Cn (Ai (Ag Bb (Aa (Al (Av (Aa (As (Aa (fC (.str "end")) Ad)) Ad))) (Aa (Ab 2) (Aa (Ab 3) Ad)))))) (Cn (Ai (Ag Bb (Aa (Ab 1) (Aa (Al (Av (Aa (As (Aa (fC (.str "end")) Ad)) Ad))) (Aa (Ab 3) Ad)))))))
   (Aq (fC (.bl false)))
   An)
 (Aq (Cm (Ag Bb (Aa (Ab 1) (Aa (Ab 11) (Aa (Ab 3) Ad)))) (Ag Bb (Aa (Ab 11) (Aa (Ab 2) (Aa (Ab 3) Ad))))))))))))))
end LW
namespace L2
open PySem
def W{α:Type}(m:M α)(t:T)(P:α->T->Prop):Prop:=∃a t',m t=some (a,t')/\P a t'
def Wf(g:Fn)(ds:List D)(S:List Ob)(P:D->List Ob->Prop):Prop:=∃r S',g ds S=some (r,S')/\P r S'
theorem W.mono{α:Type}{m:M α}{t:T}{P Q:α->T->Prop}(h:W m t P)(i:∀a t',P a t'->Q a t'):W m t Q:=by
 clear 5 h a t' e p;exact⟨a,t',e,i a t' p⟩
theorem Wf.mono{g:Fn}{ds:List D}{S:List Ob}{P Q:D->List Ob->Prop}(h:Wf g ds S P)(i:∀r S',P r S'->Q r S'):Wf g ds S Q:=by
 clear 5 h a t' e p;exact⟨a,t',e,i a t' p⟩
section
variable{α β:Type}
theorem Ap{m:M α}{t:T}{P:α->T->Prop}{a:α}{t':T}(e:m t=some (a,t')):W m t P↔P a t':=by
 constructor
 .rintro⟨a',t1,e',p⟩;rw[e] at e';cases e';exact p
 .exact λp=>⟨a,t',e,p⟩
theorem CL{m:M α}{t:T}{P:α->T->Prop}(e:m t=none):W m t P↔False:=by
 constructor
 .rintro⟨a',t1,e',p⟩;rw[e] at e';cases e'
 .exact False.elim
@[simp] theorem W_ret {a:α}{t:T}{P:α->T->Prop}:W (ret a) t P↔P a t:=Ap rfl
@[simp] theorem W_fail {t:T}{P:α->T->Prop}:W (fail:M α) t P↔False:=CL rfl
@[simp] theorem W_bnd {f:M α}{g:α->M β}{t:T}{P:β->T->Prop}:W (bnd f g) t P↔W f t λa t1=>W (g a) t1 P:=by
 constructor
 .rintro⟨b,t',e,p⟩;clear 5(Af e)a t1 e1 e2;exact⟨a,t1,e1,b,t',e2,p⟩
 .rintro⟨a,t1,e1,b,t',e2,p⟩;exact⟨b,t',by unfold bnd;rw[e1];exact e2,p⟩
@[simp] theorem SA {c:Prop} [Decidable c] {f g:M α}{t:T}{P:α->T->Prop}:W (if c then f else g) t P↔if c then W f t P else W g t P:=by split<;>rfl
@[simp] theorem aT {n:Nat}{a:α}{t:T}{P:α->T->Prop}:W (lim n a) t P↔n<=LIM/\P a t:=by
 unfold lim;constructor
 .rintro⟨a',t',e,p⟩
  split at e
  .cases e;exact⟨by assumption,p⟩
  .cases e
 .rintro⟨h,p⟩;exact⟨a,t,by simp only[h,d7],p⟩
end
section
variable{t:T}{env:List (Option Sl)}{S:List Ob}
@[simp] theorem W_fC {d:D}{P:D->T->Prop}:W (fC d) t P↔P d t:=Ap rfl
@[simp] theorem Oc {i:Nat}{P:D->T->Prop}:W (Ab i) t P↔match t.env[i]? with
 |some (some (.val d))=>P d t
 |some (some (.own ds))=>P (.lst ds) ⟨t.env.set i (vw (.lst ds)),t.S⟩
 |_=>False:=by
 cases e:t.env[i]? with
 |none=>exact CL (by unfold Ab;simp[e])
 |some o=>
   cases o with
   |none=>exact CL (by unfold Ab;simp[e])
   |some sl=>
     cases sl with
     |val d=>exact Ap (by unfold Ab;simp[e])
     |own ds=>exact Ap (by unfold Ab;simp[e])
@[simp] theorem W_fBin {f g:M D}{h:D->D->M D}{P:D->T->Prop}:W (Ac f g h) t P↔W f t λx t1=>W g t1 λy t2=>W (h x y) t2 P:=by simp[Ac]
@[simp] theorem W_fUn {f:M D}{h:D->M D}{P:D->T->Prop}:W (fUn f h) t P↔W f t λx t1=>W (h x) t1 P:=by simp[fUn]
@[simp] theorem W_toB {b:Bool}{P:Bool->T->Prop}:W (toB (.bl b)) t P↔P b t:=Ap rfl
@[simp] theorem W_fTst {f:M D}{P:Bool->T->Prop}:W (Ai f) t P↔W f t λx t1=>W (toB x) t1 P:=by simp[Ai]
@[simp] theorem Zl {f g w:M D}{h h':D->D->M D}{P:D->T->Prop}:W (Ou f g w h h') t P↔W f t λx t1=>W g t1 λy t2=>W (h x y) t2 λk t3=>W (toB k) t3 λk t4=>if k=true then W w t4 λz t5=>W (h' y z) t5 P else P (.bl false) t4:=by
 simp[Ou]
@[simp] theorem W_fAnd {f g:M Bool}{P:Bool->T->Prop}:W (DW f g) t P↔W f t λk t1=>if k=true then W g t1 P else P false t1:=by simp[DW]
@[simp] theorem W_fOr {f g:M Bool}{P:Bool->T->Prop}:W (fOr f g) t P↔W f t λk t1=>if k=true then P true t1 else W g t1 P:=by simp[fOr]
@[simp] theorem W_fNot {f:M Bool}{P:Bool->T->Prop}:W (Cn f) t P↔W f t λk t1=>P (!k) t1:=by simp[Cn]
@[simp] theorem W_fAndV {f g:M D}{P:D->T->Prop}:W (Cm f g) t P↔W f t λx t1=>W (toB x) t1 λk t2=>if k=true then W g t2 P else P (.bl false) t2:=by simp[Cm]
@[simp] theorem W_fOrV {f g:M D}{P:D->T->Prop}:W (Gn f g) t P↔W f t λx t1=>W (toB x) t1 λk t2=>if k=true then P (.bl true) t2 else W g t2 P:=by simp[Gn]
@[simp] theorem aB {f:M D}{P:D->T->Prop}:W (SI f) t P↔W f t λx t1=>W (toB x) t1 λk t2=>P (.bl (!k)) t2:=by simp[SI]
@[simp] theorem W_fIf {f:M Bool}{g h:M D}{P:D->T->Prop}:W (fIf f g h) t P↔W f t λk t1=>if k=true then W g t1 P else W h t1 P:=by simp[fIf]
@[simp] theorem W_fNil {P:List D->T->Prop}:W Ad t P↔P [] t:=Ap rfl
@[simp] theorem W_fCons {f:M D}{g:M (List D)}{P:List D->T->Prop}:W (Aa f g) t P↔W f t λd t1=>W g t1 λds t2=>P (d::ds) t2:=by simp[Aa]
@[simp] theorem W_fTup {f:M (List D)}{P:D->T->Prop}:W (As f) t P↔W f t λds t1=>ds.length<=LIM/\P (.tup ds) t1:=by simp[As]
@[simp] theorem W_fLst {f:M (List D)}{P:List D->T->Prop}:W (Av f) t P↔W f t λds t1=>ds.length<=LIM/\P ds t1:=by simp[Av]
@[simp] theorem W_fPure {f:M (List D)}{P:D->T->Prop}:W (Al f) t P↔W f t λds t1=>P (.lst ds) t1:=by simp[Al]
@[simp] theorem W_newOb {o:Ob}{P:D->T->Prop}:W (Nz o) t P↔P (.obj t.S.length) ⟨t.env,t.S++[o]⟩:=Ap rfl
@[simp] theorem V7 {f:M (List D)}{P:D->T->Prop}:W (C5 f) t P↔W f t λds t1=>W (Nz (.lst ds)) t1 P:=by simp[C5]
@[simp] theorem W_fCall {g:Fn}{f:M (List D)}{P:D->T->Prop}:W (Ag g f) t P↔W f t λds t1=>Wf g ds t1.S λr S'=>P r ⟨t1.env,S'⟩:=by
 unfold Ag;rw[W_bnd];constructor
 .rintro⟨ds,t1,e1,r,t',e2,p⟩;refine⟨ds,t1,e1,?_⟩;dsimp only at e2
  cases e:g ds t1.S with
  |none=>rw[e] at e2;cases e2
  |some z=>clear 5 z r' S';rw[e] at e2;cases e2;exact⟨r,_,e,p⟩
 .rintro⟨ds,t1,e1,r,S',e2,p⟩;exact⟨ds,t1,e1,r,_,by simp only[e2],p⟩
@[simp] theorem W_fB {f:M (List D)}{h:List D->M D}{P:D->T->Prop}:W (fB f h) t P↔W f t λds t1=>W (h ds) t1 P:=by simp[fB]
@[simp] theorem W_fBF {f:M (List D)}{h:List D->M (List D)}{P:List D->T->Prop}:W (fBF f h) t P↔W f t λds t1=>W (h ds) t1 P:=by simp[fBF]
@[simp] theorem W_seqS {f g:M Out}{P:Out->T->Prop}:W (Ah f g) t P↔W f t λo t1=>match o with
 |.next=>W g t1 P
 |.brk=>P .brk t1
 |.cont=>P .cont t1
 |.ret d=>P (.ret d) t1:=by
 unfold Ah;constructor
 .rintro⟨o,t',e,p⟩;dsimp only at e
  cases e1:f t with
  |none=>rw[e1] at e;cases e
  |some z=>
    clear 5 z o1 t1;rw[e1] at e;refine⟨o1,t1,e1,?_⟩
    cases o1 with
    |next=>exact⟨o,t',e,p⟩
    |brk=>cases e;exact p
    |cont=>cases e;exact p
    |ret d=>cases e;exact p
 .rintro⟨o,t1,e,p⟩
  cases o with
  |next=>clear 5 p o t' e' p;exact⟨o,t',by simp only[e];exact e',p⟩
  |brk=>exact⟨_,_,by simp only[e],p⟩
  |cont=>exact⟨_,_,by simp only[e],p⟩
  |ret d=>exact⟨_,_,by simp only[e],p⟩
set_option tactic.hygienic true in
@[simp] theorem W_skipS {P:Out->T->Prop}:W An t P↔P .next t:=Ap rfl
@[simp] theorem W_retS {f:M D}{P:Out->T->Prop}:W (Aq f) t P↔W f t λd t1=>P (.ret d) t1:=by simp[Aq]
set_option tactic.hygienic true in
@[simp] theorem W_dropS {f:M D}{P:Out->T->Prop}:W (D7 f) t P↔W f t λd t1=>P .next t1:=by simp[D7]
@[simp] theorem W_ifS {f:M Bool}{g h:M Out}{P:Out->T->Prop}:W (ifS f g h) t P↔W f t λk t1=>if k=true then W g t1 P else W h t1 P:=by simp[ifS]
@[simp] theorem W_putV {i:Nat}{d:D}{P:Unit->T->Prop}:W (Aj i d) t P↔P () ⟨t.env.set i (vw d),t.S⟩:=Ap rfl
@[simp] theorem W_setS {i:Nat}{f:M D}{P:Out->T->Prop}:W (Am i f) t P↔W f t λd t1=>P .next ⟨t1.env.set i (vw d),t1.S⟩:=by
 simp only[Am,W_bnd,W_ret,W_putV]
@[simp] theorem W_ownS {i:Nat}{f:M (List D)}{P:Out->T->Prop}:W (CG i f) t P↔W f t λds t1=>P .next ⟨t1.env.set i (some (.own ds)),t1.S⟩:=by
 unfold CG;rw[W_bnd];have:∀(ds:List D) (t1:T),W (λt:T=>some (Out.next,({t with env:=t.env.set i (some (.own ds))}:T))) t1 P↔P .next ⟨t1.env.set i (some (.own ds)),t1.S⟩:=λds t1=>Ap rfl;simp only[this]
set_option tactic.hygienic true in
@[simp] theorem W_asgS {f:M D}{g:D->M Unit}{P:Out->T->Prop}:W (Cc f g) t P↔W f t λd t1=>W (g d) t1 λ_ t2=>P .next t2:=by simp[Cc]
@[simp] theorem W_putNil {P:Unit->T->Prop}:W (AJ []) t P↔P () t:=Ap rfl
@[simp] theorem W_putCons {f:D->M Unit}{g:List D->M Unit}{d:D}{ds:List D}{P:Unit->T->Prop}:W (Ak f g (d::ds)) t P↔W (f d) t λ_ t1=>W (g ds) t1 P:=by simp[Ak]
@[simp] theorem W_unS_lst {n:Nat}{g:List D->M Unit}{ds:List D}{P:Unit->T->Prop}:W (unS n g (.lst ds)) t P↔ds.length=n/\W (g ds) t P:=by
 unfold unS;simp only[SA,W_fail];split<;>simp[*]
@[simp] theorem W_unS_tup {n:Nat}{g:List D->M Unit}{ds:List D}{P:Unit->T->Prop}:W (unS n g (.tup ds)) t P↔ds.length=n/\W (g ds) t P:=by
 unfold unS;simp only[SA,W_fail];split<;>simp[*]
@[simp] theorem W_forS {f:M (List D)}{st:D->M Unit}{b:M Out}{P:Out->T->Prop}:W (Ba f st b) t P↔W f t λds t1=>W (A1 st b ds) t1 P:=by simp[Ba]
set_option tactic.hygienic true
@[simp] theorem W_forL_nil {st:D->M Unit}{b:M Out}{P:Out->T->Prop}:W (A1 st b []) t P↔P .next t:=Ap rfl
theorem W_forL_cons{st:D->M Unit}{b:M Out}{d:D}{r:List D}{P:Out->T->Prop}:W (A1 st b (d::r)) t P↔W (st d) t λ_ t1=>W b t1 λo t2=>match o with
 |.next=>W (A1 st b r) t2 P
 |.cont=>W (A1 st b r) t2 P
 |.brk=>P .next t2
 |.ret x=>P (.ret x) t2:=by
 constructor
 .rintro⟨o,t',e,p⟩;unfold A1 at e
  cases e1:st d t with
  |none=>rw[e1] at e;cases e
  |some z=>
    clear 5 z u t1;rw[e1] at e
    try dsimp only at e
    refine⟨u,t1,e1,?_⟩
    cases e2:b t1 with
    |none=>rw[e2] at e;cases e
    |some z=>
      clear 5 z o2 t2;rw[e2] at e
      try dsimp only at e
      refine⟨o2,t2,e2,?_⟩
      cases o2 with
      |next=>exact⟨o,t',e,p⟩
      |cont=>exact⟨o,t',e,p⟩
      |brk=>cases e;exact p
      |ret x=>cases e;exact p
 .rintro⟨u,t1,e1,o,t2,e2,p⟩
  cases o with
  |next=>clear 5 p o t' e' p;exact⟨o,t',by unfold A1;simp only[e1,e2];exact e',p⟩
  |cont=>clear 5 p o t' e' p;exact⟨o,t',by unfold A1;simp only[e1,e2];exact e',p⟩
  |brk=>exact⟨_,_,by unfold A1;simp only[e1,e2],p⟩
  |ret x=>exact⟨_,_,by unfold A1;simp only[e1,e2],p⟩
set_option tactic.hygienic false
@[simp] theorem W_fComp {n:Nat}{fr:List Nat}{f:M (List D)}{st:D->M Unit}{tst:M Bool}{elt:M D}{P:List D->T->Prop}:W (AN n fr f st tst elt) t P↔W f t λds t1=>W (AQ st tst elt ds) ⟨cenv n fr t1.env,t1.S⟩ λxs t'=>xs.length<=LIM/\P xs ⟨t1.env,t'.S⟩:=by
 unfold AN;rw[W_bnd];constructor
 .rintro⟨ds,t1,e1,xs,t',e2,p⟩;refine⟨ds,t1,e1,?_⟩;dsimp only at e2
  cases e:AQ st tst elt ds ⟨cenv n fr t1.env,t1.S⟩ with
  |none=>rw[e] at e2;cases e2
  |some z=>
    clear 5 z ys t3;rw[e] at e2;dsimp only at e2
    split at e2
    .cases e2;exact⟨_,_,e,by assumption,p⟩
    .cases e2
 .rintro⟨ds,t1,e1,xs,t',e2,h,p⟩;exact⟨ds,t1,e1,xs,_,by simp only[e2,h,d7],p⟩
@[simp] theorem W_compL_nil {st:D->M Unit}{tst:M Bool}{elt:M D}{P:List D->T->Prop}:W (AQ st tst elt []) t P↔P [] t:=Ap rfl
theorem BW{st:D->M Unit}{tst:M Bool}{elt:M D}{d:D}{r:List D}{P:List D->T->Prop}:W (AQ st tst elt (d::r)) t P↔W (st d) t λ_ t1=>W tst t1 λk t2=>
 if k=true then W elt t2 λx t3=>W (AQ st tst elt r) t3 λxs t4=>P (x::xs) t4 else W (AQ st tst elt r) t2 P:=by
 rw[AQ];simp
theorem Ao{n m:Nat}{g:M Out}{ds:List D}{P:D->List Ob->Prop}(h:ds.length=n)(w:W g ⟨env0 m ds,S⟩ λo t=>match o with
 |.ret r=>P r t.S
 |.next=>P .non t.S
 |_=>False):Wf (fnOf n m g) ds S P:=by
 clear 5 w o t e p
 cases o with
 |ret r=>exact⟨r,t.S,by unfold fnOf;rw[eB h,e],p⟩
 |next=>exact⟨.non,t.S,by unfold fnOf;rw[eB h,e],p⟩
 |brk=>exact p.elim
 |cont=>exact p.elim
@[simp] theorem W_tTru {P:Bool->T->Prop}:W BL t P↔P true t:=Ap rfl
@[simp] theorem aH {P:D->T->Prop}:W Zx t P↔P .dic t:=Ap rfl
end
section
variable{t:T}{P:D->T->Prop}
theorem HY{α β:Type}{o:Option β}{g:β->α×T}{Q:α->T->Prop}{m:M α}(e:m t=o.map g):W m t Q↔∃b,o=some b/\Q (g b).1 (g b).2:=by
 constructor
 .rintro⟨a,t',e',p⟩;rw[e] at e';clear 5(uc6.mp e')b h1 h2;exact⟨b,h1,by rw[h2];exact p⟩
 .rintro⟨b,h,p⟩;exact⟨_,_,by rw[e,h];rfl,p⟩
theorem M9{α:Type}{c:Prop}[Decidable c]{z:α×T}{Q:α->T->Prop}{m:M α}(e:m t=if c then some z else none):W m t Q↔c/\Q z.1 z.2:=by
 constructor
 .rintro⟨a,t',e',p⟩;rw[e] at e'
  split at e'
  .cases e';exact⟨by assumption,p⟩
  .cases e'
 .rintro⟨h,p⟩;exact⟨_,_,by rw[e,eB h],p⟩
theorem Km{α β:Type}{o:Option β}(f:β->α){Q:α->T->Prop}{m:M α}(e:m t=o.map λb=>(f b,t)):W m t Q↔∃b,o=some b/\Q (f b) t:=HY (g:=λb=>(f b,t)) e
theorem FF{α:Type}{c:Prop}[Decidable c]{a:α}{Q:α->T->Prop}{m:M α}(e:m t=if c then some (a,t) else none):W m t Q↔c/\Q a t:=M9 (z:=(a,t)) e
@[simp] theorem W_ix_tup {ds:List D}{i:Int}:W (ixD (.tup ds) (.int i)) t P↔∃d,atI ds i=some d/\P d t:=Km id rfl
@[simp] theorem W_ix_lst {ds:List D}{i:Int}:W (ixD (.lst ds) (.int i)) t P↔∃d,atI ds i=some d/\P d t:=Km id rfl
@[simp] theorem W_ix_scr {ns:List Int}{i:Int}:W (ixD (.scr ns) (.int i)) t P↔∃n,atI ns i=some n/\P (.int n) t:=Km D.int rfl
@[simp] theorem W_ix_str {x:Str}{i:Int}:W (ixD (.str x) (.int i)) t P↔x.length<=LIM/\∃n,atI x.cps.toList i=some n/\P (.str ⟨#[n]⟩) t:=by
 by_cases h:x.length<=LIM
 .have:ixD (.str x) (.int i) t=(atI x.cps.toList i).map λn=>(.str ⟨#[n]⟩,t):=by simp only[ixD,h,d7]
  rw[HY this];simp[h]
 .rw[CL (by simp only[ixD,h,dR])];simp[h]
@[simp] theorem W_ix_obj {k:Nat}{i:Int}:W (ixD (.obj k) (.int i)) t P↔∃ds,t.S[k]?=some (.lst ds)/\∃d,atI ds i=some d/\P d t:=by
 cases e:t.S[k]? with
 |none=>rw[CL (by simp only[ixD,e])];simp
 |some o=>
   cases o with
   |dct _|ins _ _|dtu _=>rw[CL (by simp only[ixD,e])];simp
   |lst ds=>
     have:ixD (.obj k) (.int i) t=(atI ds i).map λd=>(d,t):=by simp only[ixD,e]
     rw[HY this];simp
@[simp] theorem FI {α:Type}{a:α}{r:List α}:atI (a::r) 0=some a:=by simp[atI,ixN]
@[simp] theorem GU {α:Type}{a b:α}{r:List α}:atI (a::b::r) 1=some b:=by
 have:(1:Int)<((a::b::r).length:Nat):=by simp;lia
 simp only[atI,ixN,this,d7,show(0:Int)<=1 by decide];rfl
@[simp] theorem SC {α:Type}{a b c:α}{r:List α}:atI (a::b::c::r) 2=some c:=by
 have:(2:Int)<((a::b::c::r).length:Nat):=by simp;lia
 simp only[atI,ixN,this,d7,show(0:Int)<=2 by decide];rfl
theorem Tx{α:Type}{xs:List α}{i:Int}(h0:0<=i)(h1:i<xs.length):∃d,atI xs i=some d/\d∈xs/\xs[i.toNat]?=some d:=by
 have hl:i.toNat<xs.length:=by lia
 refine⟨xs[i.toNat],?_,uk6 hl,ub5 hl⟩;simp[atI,ixN,h0,h1,hl]
@[simp] theorem W_len_lst {ds:List D}:W (AD [.lst ds]) t P↔P (.int ds.length) t:=Ap rfl
@[simp] theorem W_len_tup {ds:List D}:W (AD [.tup ds]) t P↔P (.int ds.length) t:=Ap rfl
@[simp] theorem W_len_scr {ds:List Int}:W (AD [.scr ds]) t P↔P (.int ds.length) t:=Ap rfl
@[simp] theorem W_len_obj {k:Nat}:W (AD [.obj k]) t P↔∃ds,t.S[k]?=some (.lst ds)/\P (.int ds.length) t:=by
 cases e:t.S[k]? with
 |none=>rw[CL (by simp only[AD,e])];simp
 |some o=>
   cases o with
   |dct _|ins _ _|dtu _=>rw[CL (by simp only[AD,e])];simp
   |lst ds=>rw[Ap (a:=.int ds.length) (t':=t) (by simp only[AD,e])];simp
@[simp] theorem W_isi {d:D}{m:String}:W (CP [d,.ty m]) t P↔∃n,tyD d=some n/\∃b,Eu n m=some b/\P (.bl b) t:=by
 cases e:tyD d with
 |none=>rw[CL (by simp only[CP,e])];simp
 |some n=>
   have:CP [d,.ty m] t=(Eu n m).map λb=>(.bl b,t):=by simp only[CP,e]
   rw[HY this];simp
noncomputable def Nt:D->Bool
 |.non=>true
 |_=>false
noncomputable def ZF(b:Bool):D->Bool
 |.bl c=>c==b
 |_=>false
@[simp] theorem W_is_non {x:D}:W (isC x .non) t P↔P (.bl (Nt x)) t:=Ap (by cases x<;>rfl)
@[simp] theorem aE {x:D}{b:Bool}:W (isC x (.bl b)) t P↔P (.bl (ZF b x)) t:=Ap (by cases x<;>rfl)
@[simp] theorem aD {x y:D}:W (OQ x y) t P↔W (isC x y) t λd t1=>W (toB d) t1 λb t2=>P (.bl (!b)) t2:=by
 unfold OQ;rw[W_bnd];constructor
 .exact λh=>h.mono λd t1 h1=>by
   cases d with
   |bl b=>simpa using h1
   |_=>exact(W_fail.mp h1).elim
 .exact λh=>h.mono λd t1 h1=>by
   cases d with
   |bl b=>simpa using h1
   |_=>obtain⟨_,_,e,_⟩:=h1;cases e
@[simp] theorem W_add_int {i j:Int}:W (Aw (.int i) (.int j)) t P↔P (.int (i+j)) t:=Ap rfl
@[simp] theorem W_sub_int {i j:Int}:W (Cw (.int i) (.int j)) t P↔P (.int (i-j)) t:=Ap rfl
@[simp] theorem W_lt_int {i j:Int}:W (ltA (.int i) (.int j)) t P↔P (.bl (decide (i<j))) t:=Ap rfl
@[simp] theorem W_le_int {i j:Int}:W (leA (.int i) (.int j)) t P↔P (.bl (decide (i<=j))) t:=Ap rfl
@[simp] theorem W_gt_int {i j:Int}:W (gtA (.int i) (.int j)) t P↔P (.bl (decide (j<i))) t:=Ap rfl
@[simp] theorem W_ge_int {i j:Int}:W (geA (.int i) (.int j)) t P↔P (.bl (decide (j<=i))) t:=Ap rfl
@[simp] theorem Zp {i j:Str}:W (ltA (.str i) (.str j)) t P↔P (.bl (decide (i.cps.toList<j.cps.toList))) t:=Ap rfl
@[simp] theorem Zm {i j:Str}:W (gtA (.str i) (.str j)) t P↔P (.bl (decide (j.cps.toList<i.cps.toList))) t:=Ap rfl
@[simp] theorem aV {i:Int}:W (ZK (.int i)) t P↔P (.int (-i)) t:=Ap rfl
@[simp] theorem W_fdiv {i j:Int}:W (D8 (.int i) (.int j)) t P↔(0<j/\j<1073741824)/\P (.int (i/j)) t:=by
 rw[M9 (m:=D8 (.int i) (.int j)) (c:=J5 i j=true) (z:=(.int (i/j),t)) rfl];simp[J5]
@[simp] theorem W_mod {i j:Int}:W (CS (.int i) (.int j)) t P↔0<j/\P (.int (i%j)) t:=by
 rw[M9 (m:=CS (.int i) (.int j)) (c:=decide (0<j)=true) (z:=(.int (i%j),t)) rfl];simp
@[simp] theorem W_pow {i j:Int}:W (FX (.int i) (.int j)) t P↔Kc i j=true/\P (.int (i ^ j.toNat)) t:=FF rfl
@[simp] theorem W_mul_int {i j:Int}:W (Ct (.int i) (.int j)) t P↔FW i j=true/\P (.int (i*j)) t:=FF rfl
@[simp] theorem W_mul_tup {xs:List D}{k:Int}:W (Ct (.tup xs) (.int k)) t P↔(small k=true/\xs.length*k.toNat<=LIM)/\P (.tup (List.replicate k.toNat xs).flatten) t:=FF rfl
@[simp] theorem W_mul_lst {xs:List D}{k:Int}:W (Ct (.lst xs) (.int k)) t P↔(small k=true/\xs.length*k.toNat<=LIM)/\P (.lst (List.replicate k.toNat xs).flatten) t:=FF rfl
theorem CF{i j:Int}(h1 : -18446744073709551616<i)(h2:i<18446744073709551616):FW i j=true:=by simp[FW,h1,h2]
theorem HJ{k:Int}(h1 : -4611686018427387904<=k)(h2:k<4611686018427387904):small k=true:=by simp[small,h1,h2]
@[simp] theorem W_add_str {x y:Str}:W (Aw (.str x) (.str y)) t P↔x.length+y.length<=LIM/\P (.str (x++y)) t:=by
 have:Aw (.str x) (.str y)=lim (x.length+y.length) (.str (x++y)):=rfl;rw[this];simp
@[simp] theorem W_add_lst {x y:List D}:W (Aw (.lst x) (.lst y)) t P↔x.length+y.length<=LIM/\P (.lst (x++y)) t:=by
 have:Aw (.lst x) (.lst y)=lim (x.length+y.length) (.lst (x++y)):=rfl;rw[this];simp
@[simp] theorem W_add_tup {d:D}{x y:List D}:W (Aw (.tup (d::x)) (.tup y)) t P↔x.length+1+y.length<=LIM/\P (.tup (d::x++y)) t:=by
 have:Aw (.tup (d::x)) (.tup y) t=if (d::x).isEmpty=false/\(d::x).length+y.length<=LIM then some (.tup (d::x++y),t) else none:=rfl;rw[M9 this];simp
@[simp] theorem Yf {y:List D}:W (Aw (.tup []) (.tup y)) t P↔P (.tup y) t:=Ap rfl
@[simp] theorem aS {x y:List D}{Q:List D->T->Prop}:W (Wc (.lst x) (.lst y)) t Q↔x.length+y.length<=LIM/\Q (x++y) t:=by
 have:Wc (.lst x) (.lst y)=lim (x.length+y.length) (x++y):=rfl;rw[this];simp
@[simp] theorem aR {i:Int}:W (Zu [.int i]) t P↔P (.int (if i<0 then -i else i)) t:=Ap rfl
@[simp] theorem W_min {i j:Int}:W (FV [.int i,.int j]) t P↔P (.int (if j<i then j else i)) t:=Ap rfl
@[simp] theorem aU {i j:Int}:W (ZI [.int i,.int j]) t P↔P (.int (if j > i then j else i)) t:=Ap rfl
@[simp] theorem Zf {i:Int}:W (DX [.int i]) t P↔P (.int i) t:=Ap rfl
@[simp] theorem W_int_bl {b:Bool}:W (DX [.bl b]) t P↔P (.int (if b then 1 else 0)) t:=Ap rfl
@[simp] theorem W_tup_lst {ds:List D}:W (HN [.lst ds]) t P↔P (.tup ds) t:=Ap rfl
@[simp] theorem W_lst_lst {ds:List D}{Q:List D->T->Prop}:W (Gy [.lst ds]) t Q↔Q ds t:=Ap rfl
@[simp] theorem Zg {ds:List D}{Q:List D->T->Prop}:W (Gy [.tup ds]) t Q↔Q ds t:=Ap rfl
@[simp] theorem W_eq_str {g:Bool->Bool}{x y:Str}:W (eqS g (.str x) (.str y)) t P↔P (.bl (g (x==y))) t:=Ap rfl
@[simp] theorem W_eq_int {g:Bool->Bool}{x y:Int}:W (eqS g (.int x) (.int y)) t P↔P (.bl (g (x==y))) t:=Ap rfl
@[simp] theorem W_eq_bl {g:Bool->Bool}{x y:Bool}:W (eqS g (.bl x) (.bl y)) t P↔P (.bl (g (x==y))) t:=Ap rfl
@[simp] theorem W_eq_nil {g:Bool->Bool}{x:List D}:W (eqS g (.lst x) (.lst [])) t P↔P (.bl (g x.isEmpty)) t:=by
 refine Ap ?_
 cases x<;>rfl
theorem KZ{a b:String}:Str.ofString a=Str.ofString b↔a=b:=by
 constructor
 .intro h;rw[Str.ofString_eq_toList,Str.ofString_eq_toList] at h;injection h with h
  have h:=dQ Array.toList h;simp only at h;have hinj:∀xs ys:List Char,xs.map Char.toNat=ys.map Char.toNat->xs=ys:=by
   intro xs
   induction xs with
   |nil=>intro ys h;cases ys with|nil=>rfl|cons _ _=>simp at h
   |cons x xs ih=>
     intro ys h
     cases ys with
     |nil=>simp at h
     |cons y ys=>
       simp only[uo6,List.cons.injEq] at h;rw[ih ys h.2,Char.toNat_inj.mp h.1]
  exact String.toList_inj.mp (hinj _ _ (by simpa using h))
 .exact λh=>by rw[h]
@[simp] theorem WU {a b:String}:(Str.ofString a==Str.ofString b)=(a==b):=by
 rw[un3,dO,dO,KZ]
@[simp] theorem W_sl_lst {ds:List D}{lo hi:Option Int}:W (BK (.lst ds) lo hi) t P↔P (.lst (AK ds lo hi)) t:=Ap rfl
@[simp] theorem Zq {ds:List Int}{lo hi:Option Int}:W (BK (.scr ds) lo hi) t P↔P (.lst ((AK ds lo hi).map .int)) t:=Ap rfl
@[simp] theorem Zr {x:Str}{lo hi:Option Int}:W (BK (.str x) lo hi) t P↔x.length<=LIM/\P (.str (Txt.slice x lo hi)) t:=by
 have:BK (.str x) lo hi=lim x.length (.str (Txt.slice x lo hi)):=rfl;rw[this];simp
@[simp] theorem W_sl_tup {ds:List D}{lo hi:Option Int}:W (BK (.tup ds) lo hi) t P↔P (.tup (AK ds lo hi)) t:=Ap rfl
@[simp] theorem W_fSl {f:M D}{l u:M (Option Int)}{h:D->Option Int->Option Int->M D}:W (fSl f l u h) t P↔W f t λx t1=>W l t1 λlo t2=>W u t2 λhi t3=>W (h x lo hi) t3 P:=by simp[fSl]
@[simp] theorem W_fNo {Q:Option Int->T->Prop}:W fNo t Q↔Q none t:=Ap rfl
@[simp] theorem W_asI {i:Int}{Q:Option Int->T->Prop}:W (asI (.int i)) t Q↔Q (some i) t:=Ap rfl
@[simp] theorem W_fPart {f:M D}{Q:Option Int->T->Prop}:W (Bc f) t Q↔W f t λx t1=>W (asI x) t1 Q:=by simp[Bc]
@[simp] theorem W_fItA {f:M D}{Q:List D->T->Prop}:W (BH f) t Q↔W f t λx t1=>W (Db x) t1 Q:=by simp[BH]
@[simp] theorem W_it_lst {ds:List D}{Q:List D->T->Prop}:W (Db (.lst ds)) t Q↔Q ds t:=Ap rfl
@[simp] theorem W_it_tup {ds:List D}{Q:List D->T->Prop}:W (Db (.tup ds)) t Q↔Q ds t:=Ap rfl
@[simp] theorem Zn {ds:List Int}{Q:List D->T->Prop}:W (Db (.scr ds)) t Q↔Q (ds.map .int) t:=Ap rfl
@[simp] theorem Zo {x:Str}{Q:List D->T->Prop}:W (Db (.str x)) t Q↔Q (x.cps.toList.map λc=>.str ⟨#[c]⟩) t:=Ap rfl
@[simp] theorem W_fRng1 {f:M (List D)}{Q:List D->T->Prop}:W (B2 f) t Q↔W f t λx t1=>W (Jn x) t1 Q:=by simp[B2]
@[simp] theorem aC {f:M (List D)}{Q:List D->T->Prop}:W (SJ f) t Q↔W f t λx t1=>W (Rw x) t1 Q:=by simp[SJ]
@[simp] theorem W_rng1 {j:Int}{Q:List D->T->Prop}:W (Jn [.int j]) t Q↔small j=true/\Q (By 0 j.toNat) t:=FF rfl
@[simp] theorem aI {i j:Int}{Q:List D->T->Prop}:W (Rw [.int i,.int j]) t Q↔(small i&&small j)=true/\Q (By i (j-i).toNat) t:=FF rfl
@[simp] theorem W_in_lst {neg:Bool}{x:D}{ds:List D}:W (inD neg x (.lst ds)) t P↔(DM x=true/\ds.all DM=true)/\P (.bl (if neg then !inV (toV x) (ds.map toV) else inV (toV x) (ds.map toV))) t:=FF rfl
set_option tactic.hygienic true in
@[simp] theorem W_ownM {i:Nat}{h:List D->List D->Option (List D)}{g:M (List D)}{Q:Out->T->Prop}:W (ownM i h g) t Q↔(∃xs,t.env[i]?=some (some (.own xs)))/\W g t λds t1=>∃xs,t1.env[i]?=some (some (.own xs))/\∃ys,h xs ds=some ys/\Q .next ⟨t1.env.set i (some (.own ys)),t1.S⟩:=by
 constructor
 .rintro⟨o,t',e,p⟩;unfold ownM at e
  split at e
  .next xs e0=>
   refine⟨⟨xs,e0⟩,?_⟩;clear 5(Af e)ds t1 e1 e;refine⟨ds,t1,e1,?_⟩
   split at e
   .next ys e2=>
    clear 5(uc6.mp e)zs e3 e4
    cases e4
    exact⟨ys,e2,zs,e3,p⟩
   .cases e
  .cases e
 .rintro⟨⟨xs,e0⟩,ds,t1,e1,ys,e2,zs,e3,p⟩;exact⟨_,_,by unfold ownM bnd;simp only[e0,e1,e2,e3,un2],p⟩
@[simp] theorem app1_one {xs:List D}{d:D}{ys:List D}:AZ xs [d]=some ys↔xs.length<LIM/\xs++[d]=ys:=by
 unfold AZ;split<;>simp[*]
@[simp] theorem W_stD {f g:M D}{d:D}{Q:Unit->T->Prop}:W (stD f g d) t Q↔W f t λo t1=>W g t1 λi t2=>W (E7 o i d) t2 Q:=by simp[stD]
@[simp] theorem W_stOb {k:Nat}{j:Int}{d:D}{Q:Unit->T->Prop}:W (E7 (.obj k) (.int j) d) t Q↔∃xs,t.S[k]?=some (.lst xs)/\∃n,ixN xs.length j=some n/\Q () ⟨t.env,t.S.set k (.lst (xs.set n d))⟩:=by
 cases e:t.S[k]? with
 |none=>rw[CL (by simp only[E7,e])];simp
 |some o=>
   cases o with
   |dct _|ins _ _|dtu _=>rw[CL (by simp only[E7,e])];simp
   |lst ds=>
     have:E7 (.obj k) (.int j) d t=(ixN ds.length j).map λn=>((),{t with S:=t.S.set k (.lst (ds.set n d))}):=by simp only[E7,e]
     rw[HY this];simp
end
section
variable{t:T}{P:D->T->Prop}{Q:List D->T->Prop}{R:Out->T->Prop}{B:Bool->T->Prop}{U:Unit->T->Prop}
def Ev(k:Bool)(A B:Prop):Prop:=if k=true then A else B
theorem B1{k:Bool}{A B:Prop}(h:k=true)(a:A):Ev k A B:=by unfold Ev;rw[eB h];exact a
theorem BZ{k:Bool}{A B:Prop}(h:k=false)(b:B):Ev k A B:=by unfold Ev;rw[eC (by rw[h];exact ug6)];exact b
theorem DY{k:Bool}{A B:Prop}(a:k=true->A)(b:k=false->B):Ev k A B:=by cases h:k with
 |true=>exact B1 rfl (a h)
 |false=>exact BZ rfl (b h)
def RW(g:M Out)(R:Out->T->Prop)(o:Out)(t1:T):Prop:=match o with
 |.next=>W g t1 R
 |o=>R o t1
variable{t1:T}
set_option tactic.hygienic true in
theorem ER{g:M Out}(h:W g t1 R):RW g R .next t1:=h
theorem RY{g:M Out}{d:D}(h:R (.ret d) t1):RW g R (.ret d) t1:=h
theorem ap{f g:M Out}(h:W f t (RW g R)):W (Ah f g) t R:=W_seqS.mpr (h.mono λo t1 h1=>by cases o<;>exact h1)
set_option tactic.hygienic true in
theorem Za(h:R .next t):W An t R:=W_skipS.mpr h
variable{f:M D}
theorem ao(h:W f t λd t1=>R (.ret d) t1):W (Aq f) t R:=W_retS.mpr h
set_option tactic.hygienic true in
theorem YZ(h:W f t λd t1=>R .next t1):W (D7 f) t R:=W_dropS.mpr h
theorem wIf{f:M Bool}{g h:M Out}(w:W f t λk t1=>Ev k (W g t1 R) (W h t1 R)):W (ifS f g h) t R:=W_ifS.mpr w
theorem aq{i:Nat}(h:W f t λd t1=>R .next ⟨t1.env.set i (vw d),t1.S⟩):W (Am i f) t R:=W_setS.mpr h
theorem ak{i:Nat}{f:M (List D)}(h:W f t λd t1=>R .next ⟨t1.env.set i (some (.own d)),t1.S⟩):W (CG i f) t R:=W_ownS.mpr h
set_option tactic.hygienic true in
theorem Z1{g:D->M Unit}(h:W f t λd t1=>W (g d) t1 λ_ t2=>R .next t2):W (Cc f g) t R:=W_asgS.mpr h
theorem Z5{f:M (List D)}{st:D->M Unit}{b:M Out}(h:W f t λds t1=>W (A1 st b ds) t1 R):W (Ba f st b) t R:=W_forS.mpr h
theorem wC{d:D}(h:P d t):W (fC d) t P:=W_fC.mpr h
theorem Bp{i:Nat}{d:D}(e:t.env[i]?=some (vw d))(h:P d t):W (Ab i) t P:=by rw[Oc,e];exact h
variable{ds:List D}
theorem Ze{i:Nat}(e:t.env[i]?=some (some (.own ds)))(h:P (.lst ds) ⟨t.env.set i (vw (.lst ds)),t.S⟩):W (Ab i) t P:=by rw[Oc,e];exact h
variable{g:M D}
theorem HQ{h:D->D->M D}(w:W f t λx t1=>W g t1 λy t2=>W (h x y) t2 P):W (Ac f g h) t P:=W_fBin.mpr w
theorem wUn{h:D->M D}(w:W f t λx t1=>W (h x) t1 P):W (fUn f h) t P:=W_fUn.mpr w
theorem C7{α β:Type}{f:M α}{g:α->M β}{K:β->T->Prop}(w:W f t λx t1=>W (g x) t1 K):W (bnd f g) t K:=W_bnd.mpr w
theorem N0{b:Bool}(h:B b t):W (toB (.bl b)) t B:=W_toB.mpr h
theorem N1(h:W f t λx t1=>W (toB x) t1 B):W (Ai f) t B:=W_fTst.mpr h
theorem ZZ{f g:M Bool}(h:W f t λk t1=>Ev k (W g t1 B) (B false t1)):W (DW f g) t B:=W_fAnd.mpr h
theorem wOr{f g:M Bool}(h:W f t λk t1=>Ev k (B true t1) (W g t1 B)):W (fOr f g) t B:=W_fOr.mpr h
theorem aj{f:M Bool}(h:W f t λk t1=>B (!k) t1):W (Cn f) t B:=W_fNot.mpr h
theorem YV(h:W f t λx t1=>W (toB x) t1 λk t2=>Ev k (W g t2 P) (P (.bl false) t2)):W (Cm f g) t P:=W_fAndV.mpr h
theorem Sg(h:W f t λx t1=>W (toB x) t1 λk t2=>Ev k (P (.bl true) t2) (W g t2 P)):W (Gn f g) t P:=W_fOrV.mpr h
theorem Z8{f:M Bool}{h:M D}(w:W f t λk t1=>Ev k (W g t1 P) (W h t1 P)):W (fIf f g h) t P:=W_fIf.mpr w
theorem GN(h:Q [] t):W Ad t Q:=W_fNil.mpr h
theorem Cy{g:M (List D)}(h:W f t λd t1=>W g t1 λds t2=>Q (d::ds) t2):W (Aa f g) t Q:=W_fCons.mpr h
def EX(n:Nat)(A:Prop):Prop:=n<=LIM/\A
variable{n:Nat}
theorem AM{A:Prop}(h:n<=LIM)(a:A):EX n A:=⟨h,a⟩
theorem ax{f:M (List D)}(h:W f t λds t1=>EX ds.length (P (.tup ds) t1)):W (As f) t P:=W_fTup.mpr h
theorem X7{f:M (List D)}(h:W f t λds t1=>EX ds.length (Q ds t1)):W (Av f) t Q:=W_fLst.mpr h
theorem Tt{f:M (List D)}(h:W f t λds t1=>P (.lst ds) t1):W (Al f) t P:=W_fPure.mpr h
theorem Sf{f:M (List D)}(h:W f t λds t1=>P (.obj t1.S.length) ⟨t1.env,t1.S++[.lst ds]⟩):W (C5 f) t P:=by rw[V7];exact h.mono λds t1 h=>W_newOb.mpr h
theorem IK{g:Fn}{f:M (List D)}(h:W f t λds t1=>Wf g ds t1.S λr S'=>P r ⟨t1.env,S'⟩):W (Ag g f) t P:=W_fCall.mpr h
theorem wB{f:M (List D)}{h:List D->M D}(w:W f t λds t1=>W (h ds) t1 P):W (fB f h) t P:=W_fB.mpr w
theorem wBF{f:M (List D)}{h:List D->M (List D)}(w:W f t λds t1=>W (h ds) t1 Q):W (fBF f h) t Q:=W_fBF.mpr w
theorem CH{i:Nat}{d:D}(h:U () ⟨t.env.set i (vw d),t.S⟩):W (Aj i d) t U:=W_putV.mpr h
theorem VN(h:U () t):W (AJ []) t U:=W_putNil.mpr h
theorem Si{f:D->M Unit}{g:List D->M Unit}{d:D}(h:W (f d) t λ_ t1=>W (g ds) t1 U):W (Ak f g (d::ds)) t U:=W_putCons.mpr h
theorem ay{g:List D->M Unit}(e:ds.length=n)(h:W (g ds) t U):W (unS n g (.lst ds)) t U:=W_unS_lst.mpr ⟨e,h⟩
theorem az{g:List D->M Unit}(e:ds.length=n)(h:W (g ds) t U):W (unS n g (.tup ds)) t U:=W_unS_tup.mpr ⟨e,h⟩
theorem YX{fr:List Nat}{f:M (List D)}{st:D->M Unit}{tst:M Bool}{elt:M D}(h:W f t λds t1=>W (AQ st tst elt ds) ⟨cenv n fr t1.env,t1.S⟩ λxs t'=>EX xs.length (Q xs ⟨t1.env,t'.S⟩)):W (AN n fr f st tst elt) t Q:=W_fComp.mpr h
theorem Ju(h:B true t):W BL t B:=W_tTru.mpr h
variable{i:Int}
theorem HS{d:D}(e:atI ds i=some d)(h:P d t):W (ixD (.tup ds) (.int i)) t P:=W_ix_tup.mpr ⟨d,e,h⟩
theorem AC{d:D}(e:atI ds i=some d)(h:P d t):W (ixD (.lst ds) (.int i)) t P:=W_ix_lst.mpr ⟨d,e,h⟩
theorem LK{k:Nat}{d:D}(e0:t.S[k]?=some (.lst ds))(e:atI ds i=some d)(h:P d t):W (ixD (.obj k) (.int i)) t P:=W_ix_obj.mpr ⟨ds,e0,d,e,h⟩
theorem NW(h:P (.int ds.length) t):W (AD [.lst ds]) t P:=W_len_lst.mpr h
theorem To(h:P (.int ds.length) t):W (AD [.tup ds]) t P:=W_len_tup.mpr h
theorem Y4{ds:List Int}(h:P (.int ds.length) t):W (AD [.scr ds]) t P:=W_len_scr.mpr h
theorem Kh{k:Nat}(e:t.S[k]?=some (.lst ds))(h:P (.int ds.length) t):W (AD [.obj k]) t P:=W_len_obj.mpr ⟨ds,e,h⟩
theorem aa{d:D}{m n:String}{b:Bool}(e:tyD d=some n)(e':Eu n m=some b)(h:P (.bl b) t):W (CP [d,.ty m]) t P:=W_isi.mpr ⟨n,e,b,e',h⟩
theorem Z9{x:D}(h:P (.bl (Nt x)) t):W (isC x .non) t P:=W_is_non.mpr h
variable{j:Int}
theorem YS(h:P (.int (i+j)) t):W (Aw (.int i) (.int j)) t P:=W_add_int.mpr h
theorem Zb(h:P (.int (i-j)) t):W (Cw (.int i) (.int j)) t P:=W_sub_int.mpr h
theorem ah(h:P (.bl (decide (i<j))) t):W (ltA (.int i) (.int j)) t P:=W_lt_int.mpr h
theorem ag(h:P (.bl (decide (i<=j))) t):W (leA (.int i) (.int j)) t P:=W_le_int.mpr h
theorem Z7(h:P (.bl (decide (j<i))) t):W (gtA (.int i) (.int j)) t P:=W_gt_int.mpr h
theorem Z6(h:P (.bl (decide (j<=i))) t):W (geA (.int i) (.int j)) t P:=W_ge_int.mpr h
theorem Z3(h1:0<j)(h2:j<1073741824)(h:P (.int (i/j)) t):W (D8 (.int i) (.int j)) t P:=W_fdiv.mpr ⟨⟨h1,h2⟩,h⟩
theorem NX(h1:0<j)(h:P (.int (i%j)) t):W (CS (.int i) (.int j)) t P:=W_mod.mpr ⟨h1,h⟩
theorem am(h1:Kc i j=true)(h:P (.int (i ^ j.toNat)) t):W (FX (.int i) (.int j)) t P:=W_pow.mpr ⟨h1,h⟩
theorem DP(h1:FW i j=true)(h:P (.int (i*j)) t):W (Ct (.int i) (.int j)) t P:=W_mul_int.mpr ⟨h1,h⟩
variable{xs:List D}
theorem Tp{k:Int}(h1:small k=true/\xs.length*k.toNat<=LIM)(h:P (.lst (List.replicate k.toNat xs).flatten) t):W (Ct (.lst xs) (.int k)) t P:=W_mul_lst.mpr ⟨h1,h⟩
theorem Tq{k:Int}(h1:small k=true/\xs.length*k.toNat<=LIM)(h:P (.tup (List.replicate k.toNat xs).flatten) t):W (Ct (.tup xs) (.int k)) t P:=W_mul_tup.mpr ⟨h1,h⟩
theorem YU{x y:Str}(h:EX (x.length+y.length) (P (.str (x++y)) t)):W (Aw (.str x) (.str y)) t P:=W_add_str.mpr h
variable{x:List D}
theorem YT{y:List D}(h:EX (x.length+y.length) (P (.lst (x++y)) t)):W (Aw (.lst x) (.lst y)) t P:=W_add_lst.mpr h
theorem Tk{d:D}{y:List D}(h:EX (x.length+1+y.length) (P (.tup (d::x++y)) t)):W (Aw (.tup (d::x)) (.tup y)) t P:=W_add_tup.mpr h
theorem ai(h:P (.int (if j<i then j else i)) t):W (FV [.int i,.int j]) t P:=W_min.mpr h
theorem Y1{i:Bool}(h:P (.int (if i then 1 else 0)) t):W (DX [.bl i]) t P:=W_int_bl.mpr h
theorem Zc(h:P (.tup ds) t):W (HN [.lst ds]) t P:=W_tup_lst.mpr h
theorem Y7(h:Q ds t):W (Gy [.lst ds]) t Q:=W_lst_lst.mpr h
theorem NU{g:Bool->Bool}{x y:Str}(h:P (.bl (g (x==y))) t):W (eqS g (.str x) (.str y)) t P:=W_eq_str.mpr h
theorem X2{g:Bool->Bool}{x y:Int}(h:P (.bl (g (x==y))) t):W (eqS g (.int x) (.int y)) t P:=W_eq_int.mpr h
theorem Z4{g:Bool->Bool}{x y:Bool}(h:P (.bl (g (x==y))) t):W (eqS g (.bl x) (.bl y)) t P:=W_eq_bl.mpr h
theorem X3{g:Bool->Bool}(h:P (.bl (g x.isEmpty)) t):W (eqS g (.lst x) (.lst [])) t P:=W_eq_nil.mpr h
theorem ar{lo hi:Option Int}(h:P (.lst (AK ds lo hi)) t):W (BK (.lst ds) lo hi) t P:=W_sl_lst.mpr h
theorem au{lo hi:Option Int}(h:P (.tup (AK ds lo hi)) t):W (BK (.tup ds) lo hi) t P:=W_sl_tup.mpr h
theorem wSl{l u:M (Option Int)}{h:D->Option Int->Option Int->M D}(w:W f t λx t1=>W l t1 λlo t2=>W u t2 λhi t3=>W (h x lo hi) t3 P):W (fSl f l u h) t P:=W_fSl.mpr w
variable{K:Option Int->T->Prop}
theorem wNo(h:K none t):W fNo t K:=W_fNo.mpr h
theorem X0(h:K (some i) t):W (asI (.int i)) t K:=W_asI.mpr h
theorem Ts(h:W f t λx t1=>W (asI x) t1 K):W (Bc f) t K:=W_fPart.mpr h
theorem ad(h:W f t λx t1=>W (Db x) t1 Q):W (BH f) t Q:=W_fItA.mpr h
theorem ae(h:Q ds t):W (Db (.lst ds)) t Q:=W_it_lst.mpr h
theorem af(h:Q ds t):W (Db (.tup ds)) t Q:=W_it_tup.mpr h
theorem Y9{f:M (List D)}(h:W f t λx t1=>W (Jn x) t1 Q):W (B2 f) t Q:=W_fRng1.mpr h
theorem DK(e:small j=true)(h:Q (By 0 j.toNat) t):W (Jn [.int j]) t Q:=W_rng1.mpr ⟨e,h⟩
theorem Se{neg:Bool}{x:D}(e:DM x=true/\ds.all DM=true)(h:P (.bl (if neg then !inV (toV x) (ds.map toV) else inV (toV x) (ds.map toV))) t):W (inD neg x (.lst ds)) t P:=W_in_lst.mpr ⟨e,h⟩
theorem Y8{i:Nat}{h:List D->List D->Option (List D)}{g:M (List D)}(e:t.env[i]?=some (some (.own xs)))(w:W g t λds t1=>∃xs,t1.env[i]?=some (some (.own xs))/\∃ys,h xs ds=some ys/\R .next ⟨t1.env.set i (some (.own ys)),t1.S⟩):W (ownM i h g) t R:=W_ownM.mpr ⟨⟨xs,e⟩,w⟩
theorem Z0{i:Nat}{d:D}{A:List D->Prop}(e:t1.env[i]?=some (some (.own xs)))(w:EX (xs.length+1) (A (xs++[d]))):∃xs,t1.env[i]?=some (some (.own xs))/\∃ys,AZ xs [d]=some ys/\A ys:=
 ⟨xs,e,_,app1_one.mpr ⟨w.1,rfl⟩,w.2⟩
theorem aw{d:D}(h:W f t λo t1=>W g t1 λi t2=>W (E7 o i d) t2 U):W (stD f g d) t U:=W_stD.mpr h
theorem NZ{k:Nat}{d:D}(e:t.S[k]?=some (.lst xs))(e':ixN xs.length j=some n)(h:U () ⟨t.env,t.S.set k (.lst (xs.set n d))⟩):W (E7 (.obj k) (.int j) d) t U:=W_stOb.mpr ⟨xs,e,n,e',h⟩
end
section
variable{i:Nat}{g:Fn}{d':D}
section
variable{t:T}{P:D->T->Prop}{B:Bool->T->Prop}{Q:List D->T->Prop}
theorem Zd{n:Int}{ds:List D}{d:D}(e:t.env[i]?=some (vw (.tup ds)))(a:atI ds n=some d)(h:P d t):W (Ac (Ab i) (bM n) ixD) t P:=HQ (Bp e (wC (HS a h)))
theorem Y3{x y:Str}{ds:List D}{g:Bool->Bool}(e:t.env[i]?=some (vw (.tup (.str y::ds))))(h:B (g (y==x)) t):W (Ai (Ac (Ac (Ab i) (bM 0) ixD) (fC (.str x)) (eqS g))) t B:=N1 (HQ (HQ (Bp e (wC (HS FI (wC (NU (N0 h))))))))
theorem Yc{x y:Str}{g:Bool->Bool}(e:t.env[i]?=some (vw (.str y)))(h:B (g (y==x)) t):W (Ai (Ac (Ab i) (fC (.str x)) (eqS g))) t B:=N1 (HQ (Bp e (wC (NU (N0 h)))))
theorem Yb{x y:Int}{g:Bool->Bool}(e:t.env[i]?=some (vw (.int y)))(h:B (g (y==x)) t):W (Ai (Ac (Ab i) (bM x) (eqS g))) t B:=N1 (HQ (Bp e (wC (X2 (N0 h)))))
theorem VD{d:D}(e:t.env[i]?=some (vw d))(h:Wf g [d] t.S λr S'=>P r ⟨t.env,S'⟩):W (Ag g (Aa (Ab i) Ad)) t P:=IK (Cy (Bp e (GN h)))
theorem VF{j:Nat}{d:D}(e:t.env[i]?=some (vw d))(e':t.env[j]?=some (vw d'))(h:Wf g [d,d'] t.S λr S'=>P r ⟨t.env,S'⟩):W (Ag g (Aa (Ab i) (Aa (Ab j) Ad))) t P:=IK (Cy (Bp e (Cy (Bp e' (GN h)))))
theorem VH{d:D}(e:t.env[i]?=some (vw d))(h:Wf g [d,d'] t.S λr S'=>P r ⟨t.env,S'⟩):W (Ag g (Aa (Ab i) (Aa (fC d') Ad))) t P:=IK (Cy (Bp e (Cy (wC (GN h)))))
theorem VG{j k:Nat}{d d'':D}(e:t.env[i]?=some (vw d))(e':t.env[j]?=some (vw d'))(e'':t.env[k]?=some (vw d''))(h:Wf g [d,d',d''] t.S λr S'=>P r ⟨t.env,S'⟩):W (Ag g (Aa (Ab i) (Aa (Ab j) (Aa (Ab k) Ad)))) t P:=IK (Cy (Bp e (Cy (Bp e' (Cy (Bp e'' (GN h)))))))
end
end
end L2
namespace LW
open PySem L2
set_option compiler.extract_closed false
local macro_rules | `(tactic| clear 31 $t*)=>`(tactic| with_reducible first $[| refine $t ?_]*)
local macro_rules | `(tactic| clear 32 $t*)=>`(tactic| ((with_reducible first $[| refine' $t ?wv ?_]*);(case wv=>exact rfl)))
local macro_rules | `(tactic| clear 33 $t*)=>`(tactic| ((with_reducible first $[| refine' $t ?wv ?_]*);(case wv=>decide)))
local macro_rules | `(tactic| walk_at"w1")=>`(tactic| first
 |clear 32 Y3 Yc VD
 |clear 32 Yb VH
 |((with_reducible refine' Zd ?wv ?wu ?_);(case wv=>exact rfl);(case wu=>first|exact rfl|exact FI|exact GU|exact SC))
 |((with_reducible refine' VF ?wv ?wu ?_);(case wv=>exact rfl);(case wu=>exact rfl))
 |((with_reducible refine' VG ?wv ?wu ?wt ?_);(case wv=>exact rfl);(case wu=>exact rfl);(case wt=>exact rfl))
 |clear 31 ap ER RY aq HQ wC Cy GN wIf N1 N0 ao IK NU X2 Z4 YS Zb Za wB wBF Tt ax X7 Sf Z1 Z5 ZZ wOr aj YV Sg Z8 wUn Z9 ah ag Z7 Z6 NW To Y4 ai Y1 Zc Y7 YU YT Tk X3 wSl wNo Ts X0 ar au ad ae af Y9 CH VN Si YX Ju ak C7 YZ aw
 |clear 32 Bp B1 ay Y8 Z0
 |clear 32 BZ Ze az
 |((with_reducible first|refine' HS ?wv ?_|refine' AC ?wv ?_);(case wv=>first|exact rfl|exact FI|exact GU|exact SC))
 |((with_reducible refine AM ?wv ?_);(case wv=>exact ud6 rfl))
 |((with_reducible refine' aa ?wv ?wu ?_);(case wv=>exact rfl);(case wu=>exact rfl))
 |((with_reducible refine Z3 ?wv ?wu ?_);(case wv=>decide);(case wu=>decide))
 |clear 33 am NX DK)
local macro_rules | `(tactic| right)=>`(tactic| repeat (walk_at"w1"))
structure DeckAt(k c:Nat)(S:List Ob):Prop where
 ne:k≠c
 at_:∃(cells:List Int) (par pos:Int),S[k]?=some (.lst [.obj c,.int par,.int pos])/\S[c]?=some (.lst (cells.map .int))/\cells≠[]/\0<=pos
variable{n:Nat}
theorem BG{i:Int}(h0:0<=i)(h1:i<n):ixN n i=some i.toNat:=by simp[ixN,h0,h1]
variable{S:List Ob}{o:Ob}
theorem Ue{k:Nat}{o':Ob}(h:S[k]?=some o):(S.set k o')[k]?=some o':=by
 obtain⟨hl,_⟩:=ub0.mp h;exact uc3 hl
inductive Sh where
 |nothing|number (lo hi:Int)|text (m:Int)|list (s:Sh) (m:Int)|pair (s r:Sh)|choice (ss:List Sh)
mutual
noncomputable def Sh.d:Sh->D
 |.nothing=>.tup [.str "nothing"]
 |.number lo hi=>.tup [.str "number",.int lo,.int hi]
 |.text m=>.tup [.str "text",.int m]
 |.list s m=>.tup [.str "list",s.d,.int m]
 |.pair s r=>.tup [.str "pair",s.d,r.d]
 |.choice ss=>.tup [.str "choice",.tup (shD ss)]
noncomputable def shD:List Sh->List D
 |[]=>[]
 |s::r=>s.d::shD r
end
mutual
noncomputable def Sh.depth:Sh->Nat
 |.nothing=>1
 |.number _ _=>1
 |.text _=>1
 |.list s _=>s.depth+1
 |.pair s r=>max s.depth r.depth+1
 |.choice ss=>Ed ss+1
noncomputable def Ed:List Sh->Nat
 |[]=>0
 |s::r=>max s.depth (Ed r)
end
theorem Ci:∀ss:List Sh,(shD ss).length=ss.length
 |[]=>rfl
 |s::r=>by simp[shD,Ci r]
theorem MM:∀(ss:List Sh) (k:Nat),(shD ss)[k]?=(ss[k]?).map Sh.d
 |[],k=>by simp[shD]
 |s::r,0=>by simp[shD]
 |s::r,k+1=>by simp[shD,MM r k]
theorem Sh.depth_pos(s:Sh):1<=s.depth:=by cases s<;>simp[Sh.depth]
noncomputable def Tg(n:Nat):Bool:=decide (32<=n)&&decide (n<=126)&&decide (n≠37)
noncomputable def ZG:Str->Bool:=λo=>o==("of":Str)
mutual
def C0:Sh->D->Bool
 |.nothing,d=>Nt d
 |.number lo hi,d=>match d with
   |.int i=>decide (lo<=i)&&decide (i<=hi)
   |_=>false
 |.text m,d=>match d with
   |.str x=>decide ((x.length:Int)<=m)&&x.cps.toList.all Tg
   |_=>false
 |.list s m,d=>match d with
   |.lst ds=>decide ((ds.length:Int)<=m)&&ds.all λe=>C0 s e
   |_=>false
 |.pair s r,d=>match d with
   |.tup [a,b]=>C0 s a&&C0 r b
   |_=>false
 |.choice ss,d=>match d with
   |.tup [.str o,.int k,x]=>ZG o&&(decide (0<=k)&&decide (k<ss.length))&&SN ss k.toNat x
   |_=>false
def SN:List Sh->Nat->D->Bool
 |[],_,_=>false
 |s::_,0,d=>C0 s d
 |_::r,k+1,d=>SN r k d
end
mutual
noncomputable def okD:D->Bool
 |.str x=>decide (x.length<=90000)
 |.tup xs=>oks xs
 |.lst xs=>oks xs
 |.obj _=>false
 |.scr _=>false
 |.exc _ _=>false
 |.ty _=>false
 |_=>true
noncomputable def oks:List D->Bool
 |[]=>true
 |d::r=>okD d&&oks r
end
abbrev Pure1(f:Fn)(ds:List D)(r:D):Prop:=∀S,Wf f ds S λv S'=>v=r/\S'=S
variable{ds:List D}
theorem Pure1.use{f:Fn}{r:D}(h:Pure1 f ds r){S:List Ob}{P:D->List Ob->Prop}(p:P r S):Wf f ds S P:=(h S).mono λ_ _ ⟨e1,e2⟩=>by subst e1 e2;exact p
mutual
noncomputable def sz:D->Nat
 |.tup xs=>szs xs+1
 |.lst xs=>szs xs+1
 |_=>1
noncomputable def szs:List D->Nat
 |[]=>0
 |d::r=>sz d+szs r
end
mutual
noncomputable def wf:Sh->Bool
 |.nothing=>true
 |.number lo hi=>decide (-1000000000000000000<lo)&&decide (lo<=hi)&&decide (hi<1000000000000000000)
 |.text m=>decide (0<=m)&&decide (m<=250)
 |.list s m=>decide (0<=m)&&decide (m<=250)&&wf s
 |.pair s r=>wf s&&wf r
 |.choice ss=>decide (1<=ss.length)&&decide (ss.length<=9)&&wfs ss
noncomputable def wfs:List Sh->Bool
 |[]=>true
 |s::r=>wf s&&wfs r
end
mutual
noncomputable def cnt:Sh->Nat
 |.list s _=>cnt s+1
 |.pair s r=>cnt s+cnt r+1
 |.choice ss=>Es ss+1
 |_=>1
noncomputable def Es:List Sh->Nat
 |[]=>0
 |s::r=>cnt s+Es r
end
theorem FA:∀{ss:List Sh},wfs ss=true->∀s∈ss,wf s=true
 |x::r,h,s,m=>by
   rw[wfs,uj7] at h;rcases uo5.mp m with z|z
   .subst z;exact h.1
   .exact FA h.2 s z
theorem LM:∀{ss:List Sh},(∀s∈ss,wf s=true)->wfs ss=true
 |[],_=>rfl
 |x::r,h=>by rw[wfs,h x ug5,LM λs m=>h s (ue3 _ m)];rfl
theorem Lq:∀ss:List Sh,shD ss=ss.map Sh.d
 |[]=>rfl
 |s::r=>by rw[shD,Lq r];rfl
theorem Lu:∀{ss:List Sh}{n:Nat},(∀s∈ss,s.depth<=n)->Ed ss<=n
 |[],n,_=>ur0 _
 |s::r,n,h=>by
   rw[Ed];have:=h s ug5;have:=Lu λs m=>h s (ue3 _ m);lia
theorem BU:∀{ss:List Sh}{s:Sh},s∈ss->s.depth<=Ed ss
 |x::r,s,m=>by
   rw[Ed];rcases uo5.mp m with z|z
   .subst z;lia
   .have:=BU z;lia
variable{xs:List D}
theorem E4{i:Int}(h0:0<=i)(h1:i<xs.length){p:D->Prop}(h:∀d∈xs,p d):∃d,atI xs i=some d/\p d:=by
 obtain⟨d,e,m,_⟩:=Tx h0 h1;exact⟨d,e,h d m⟩
def MZ(k c l:Nat)(S S':List Ob):Prop:=S'.length=S.length/\∀j:Nat,j≠k->j≠c->j≠l->S'[j]?=S[j]?
noncomputable def NM(deep:Int):Int:=if deep<2 then 0 else 2*deep+4
def bd(deep x:Int):Int:=if deep<2 then 1 else max x 1+NM deep-(if deep+1<=x then 1 else 0)
def tb(deep y i:Int):Int:=if deep=2 then i else if i=0 then 0 else y+NM (deep-1)+i-1-(if deep<=y then 1 else 0)
structure ShapeRes(k c l:Nat)(S:List Ob)(deep x:Int)(s:Sh)(S':List Ob):Prop where
 w:wf s=true
 dep:(s.depth:Int)<=max deep 1
 lft:S'[l]?=some (.lst [.int (x-cnt s)])
 one:x<=1->cnt s=1
 few:(cnt s:Int)<=max x 1+NM deep
 deck:DeckAt k c S'
 kp:MZ k c l S S'
 few2:(cnt s:Int)<=bd deep x
structure Sep(ks:List (Nat×Nat)):Prop where
 sep:∀p∈ks,∀q∈ks,p=q\/(q.1≠p.1/\q.1≠p.2/\q.2≠p.1/\q.2≠p.2)
mutual
noncomputable def dpt:D->Nat
 |.lst ds=>Qq ds+1
 |.tup ds=>Qq ds+1
 |_=>1
noncomputable def Qq:List D->Nat
 |[]=>0
 |d::r=>max (dpt d) (Qq r)
end
mutual
noncomputable def smD:D->Bool
 |.str x=>decide (x.length<=300)
 |.int i=>decide (-1000000000000000000000000<i)&&decide (i<1000000000000000000000000)
 |.tup xs=>decide (xs.length<=300)&&sms xs
 |.lst xs=>decide (xs.length<=300)&&sms xs
 |.obj _=>false
 |.scr _=>false
 |.ty _=>false
 |.exc _ _=>false
 |_=>true
noncomputable def sms:List D->Bool
 |[]=>true
 |d::r=>smD d&&sms r
end
theorem Gh{f:D->D->Option Bool}:∀{xs:List D},(∀d∈xs,f d d=some true)->B6 f xs xs=some true
 |[],_=>rfl
 |x::r,h=>by
   rw[B6,h x ug5,Gh λd m=>h d (ue3 _ m)];rfl
theorem Ea:∀ns:List Int,CA (ns.map .int)=some ns
 |[]=>rfl
 |n::r=>by rw[uo6,CA,Ea r];rfl
theorem Lr:∀{ss:List Sh}{d:D},d∈shD ss->∃s∈ss,d=s.d
 |s::r,d,h=>by
   rw[shD] at h;rcases uo5.mp h with rfl|h
   .exact⟨s,ug5,rfl⟩
   .clear 5(Lr h)s' h1 h2;exact⟨s',ue3 _ h1,h2⟩
structure ValueRes(k c l:Nat)(S:List Ob)(s:Sh)(r:D)(S':List Ob):Prop where
 fit:C0 s r=true
 lft:∃a b:Int,S'[l]?=some (.lst [.int a,.int b])
 deck:DeckAt k c S'
 kp:MZ k c l S S'
variable{P:D->T->Prop}
theorem YW{i:Int}{t:T}(h:P (.int (Builtin.Int.intBits i:Nat)) t):W (H9 (.int i)) t P:=⟨_,_,rfl,h⟩
variable{i:Nat}
theorem X4{ys:List D}{t1:T}{A:List D->Prop}(e:t1.env[i]?=some (some (.own xs)))(l:xs.length+ys.length<=LIM)(w:A (xs++ys)):∃xs,t1.env[i]?=some (some (.own xs))/\∃zs,EW xs [.lst ys]=some zs/\A zs:=
 ⟨xs,e,xs++ys,by simp[EW,l],w⟩
set_option tactic.hygienic true in
theorem FG{f:M Bool}{b:M Out}{P:Out->T->Prop}(I:Nat->T->Prop)(turn:∀n t,I n t->W f t λk t1=>match k with
 |true=>∃m,n=m+1/\W b t1 λo t2=>match o with
   |.next=>I m t2
   |.cont=>I m t2
   |.brk=>P .next t2
   |.ret x=>P (.ret x) t2
 |false=>P .next t1):∀(fuel n:Nat) (t:T),n<fuel->I n t->W (CD f b fuel) t P
 |0,n,t,h,_=>absurd h (Nat.not_lt_zero _)
 |fuel+1,n,t,h,i=>by
   clear 5(turn n t i)k t1 e1 p
   cases k with
   |false=>exact⟨_,_,by simp only[CD,e1],p⟩
   |true=>
     clear 5 p m rfl o t2 e2 p
     cases o with
     |next=>clear 5(FG I turn fuel m t2 ∅ p)o t' e' p;exact⟨o,t',by simp only[CD,e1,e2];exact e',p⟩
     |cont=>clear 5(FG I turn fuel m t2 ∅ p)o t' e' p;exact⟨o,t',by simp only[CD,e1,e2];exact e',p⟩
     |brk=>exact⟨_,_,by simp only[CD,e1,e2],p⟩
     |ret x=>exact⟨_,_,by simp only[CD,e1,e2],p⟩
noncomputable def wid(n:Nat):Nat:=if n=0 then 0 else n.log2/8+1
theorem O2(h:2<=n):n.log2=(n/2).log2+1:=by rw[Nat.log2_def,eB h]
theorem QT(h:n<2):n.log2=0:=by rw[Nat.log2_def,eC ∅]
theorem KO:∀(k:Nat){n:Nat},2 ^ k<=n->n.log2=(n/2 ^ k).log2+k
 |0,n,_=>by rw[Nat.pow_zero,Nat.div_one,uq3]
 |k+1,n,h=>by
   have h2:2 ^ k*2<=n:=by rw[<-uq7];exact h
   have h3:2<=n/2 ^ k:=(Nat.le_div_iff_mul_le (Nat.pow_pos (by decide))).mpr (by rw[uq0];exact h2);rw[KO k (up6 (Nat.le_mul_of_pos_right _ (by decide)) h2),O2 h3,Nat.div_div_eq_div_mul,<-uq7,uzz1,Nat.add_comm 1 k]
theorem QR(h:256<=n):n.log2=(n/256).log2+8:=KO 8 h
theorem QS(h:n<256):n.log2<8:=by
 by_cases z:n=0
 .subst z;rw[QT ∅];lia
 .exact(Nat.log2_lt z).mpr h
theorem HV(h:0<n):wid n=wid (n/256)+1:=by
 unfold wid;rw[eC ∅]
 by_cases z:n<256
 .have:=QS z;rw[eB ∅];lia
 .rw[eC ∅,QR ∅];lia
theorem P7:∀(k n:Nat),n<256 ^ k->wid n<=k
 |0,n,h=>by
   have:n=0:=by simpa using h
   subst this;decide
 |k+1,n,h=>by
   by_cases z:n=0
   .subst z;exact ur0 _
   .rw[HV ∅];have:=P7 k (n/256) (Nat.div_lt_of_lt_mul (by rw[uq7] at h;lia));lia
theorem Qh(n:Nat):((Builtin.Int.intBits (n:Int):Nat)+7)/8=wid n:=by
 unfold Builtin.Int.intBits wid
 by_cases z:n=0
 .subst z;rfl
 .have:((n:Int)==0)=false:=by simp;exact z
  rw[this,eC (by simp),eC z,Int.natAbs_natCast];lia
noncomputable def nb:Nat->Nat->List D
 |0,_=>[]
 |w+1,n=>nb w (n/256)++[.int ((n%256:Nat):Int)]
mutual
def Eo:Sh->D->List D
 |.nothing,_=>[]
 |.number lo hi,d=>match d with
   |.int i=>nb (wid (hi-lo).toNat) (i-lo).toNat
   |_=>[]
 |.text _,d=>match d with
   |.str x=>.int (x.length:Nat)::x.cps.toList.map λn=>D.int (n:Nat)
   |_=>[]
 |.list s _,d=>match d with
   |.lst ds=>.int (ds.length:Nat)::(ds.map λd=>Eo s d).flatten
   |_=>[]
 |.pair s r,d=>match d with
   |.tup [a,b]=>Eo s a++Eo r b
   |_=>[]
 |.choice ss,d=>match d with
   |.tup [_,.int k,x]=>.int k::SD ss k.toNat x
   |_=>[]
def SD:List Sh->Nat->D->List D
 |[],_,_=>[]
 |s::_,0,d=>Eo s d
 |_::r,k+1,d=>SD r k d
end
def FH(f:Fn):Prop:=∀n:Nat,n<256 ^ 9->Pure1 f [.int n] (.int (wid n:Nat))
theorem Sk:FH (fnOf 1 1 D2):=by
 intro n _ S;refine Ao rfl ?_;unfold D2;right;refine YW ?_;right;refine⟨?_,rfl⟩;rw[<-Qh];simp
theorem Uq:FH (fnOf 1 2 Ew):=by
 intro n hb S;have hn:wid n<GQ:=Nat.lt_of_le_of_lt (P7 9 n hb) (by decide);refine Ao rfl ?_;unfold Ew;right;refine FG (λk t=>∃m:Nat,k=wid m/\t=⟨[vw (.int m),vw (.int ((wid n-wid m:Nat):Int))],S⟩/\wid m<=wid n) ?_ GQ (wid n) _ hn ⟨n,rfl,by rw[uq4];rfl,uq9 _⟩;rintro k t ⟨m,rfl,rfl,hm⟩;right
 by_cases z:0<m
 .rw[uo3 (by lia:(0:Int)<m)];refine⟨_,HV z,?_⟩;have:=HV z;right;refine⟨m/256,rfl,?_,by lia⟩;have e:((wid n-wid (m/256):Nat):Int)=((wid n-wid m:Nat):Int)+1:=by lia
  rw[e];rfl
 .have:m=0:=by lia
  subst this;rw[un7 ∅];right;exact⟨by simp[wid],rfl⟩
section
variable{t:T}{P:D->T->Prop}{R:Out->T->Prop}
end
local macro_rules | `(tactic| walk_at"x1")=>`(tactic| first
 |walk_at"w1" |clear 31 tryK_next|clear 33 tryK_ex|clear 32 xK_ok|clear 32 xK_ex)
local macro_rules | `(tactic| left)=>`(tactic| repeat (walk_at"x1"))
inductive Rd where
 |done (v:D)
 |need (ok:Nat->Bool) (nx:Nat->Rd)
inductive RR where
 |told (v:D) (a:Nat)
 |short
 |broken (a:Nat)
noncomputable def Rd.run:Rd->List Nat->Nat->RR
 |.done v,_,a=>.told v a
 |.need ok nx,w,a=>match w[a]? with
   |none=>.short
   |some b=>if ok b=true then(nx b).run w (a+1) else .broken a
noncomputable def Rd.bnd:Rd->(D->Rd)->Rd
 |.done v,k=>k v
 |.need ok nx,k=>.need ok λb=>(nx b).bnd k
def RR.thn(r:RR)(w:List Nat)(k:D->Rd):RR:=match r with
 |.told v a=>(k v).run w a
 |.short=>.short
 |.broken a=>.broken a
def Rd.good:Rd->Prop
 |.done _=>True
 |.need ok nx=>(ok 0=true\/ok 32=true)/\∀b,ok b=true->(nx b).good
noncomputable def Xa(lo:Int)(M:Nat):Nat->Nat->Rd
 |0,x=>.done (.int (lo+x))
 |r+1,x=>.need (λb=>decide (x*256+b<=M/2 ^ (8*r))) λb=>Xa lo M r (x*256+b)
def Xb:Nat->List Nat->Rd
 |0,cs=>.done (.str ⟨cs.toArray⟩)
 |n+1,cs=>.need Tg λc=>Xb n (cs++[c])
def W9(p:Rd):Nat->List D->Rd
 |0,ds=>.done (.lst ds)
 |n+1,ds=>p.bnd λv=>W9 p n (ds++[v])
def pSh:Nat->Sh->Rd
 |0,_=>.done .non
 |_+1,.nothing=>.done .non
 |_+1,.number lo hi=>Xa lo (hi-lo).toNat (wid (hi-lo).toNat) 0
 |_+1,.text q=>.need (λb=>decide ((b:Int)<=q)) λb=>Xb b []
 |n+1,.list s q=>.need (λb=>decide ((b:Int)<=q)) λb=>W9 (pSh n s) b []
 |n+1,.pair s r=>(pSh n s).bnd λv=>(pSh n r).bnd λu=>.done (.tup [v,u])
 |n+1,.choice ss=>.need (λb=>decide (b<ss.length)) λb=>(pSh n (ss.getD b .nothing)).bnd λv=>.done (.tup [.str "of",.int b,v])
mutual
noncomputable def plD:D->Bool
 |.lst xs=>pls xs
 |.tup xs=>pls xs
 |.obj _=>false
 |.scr _=>false
 |.ty _=>false
 |.exc _ _=>false
 |.dic=>false
 |_=>true
noncomputable def pls:List D->Bool
 |[]=>true
 |d::r=>plD d&&pls r
end
variable{r:List D}
theorem Qn{x:D}:AK (x::r) none (some 1)=[x]:=by
 have:HT.sIx (x::r).length (x::r).length (some 1)=1:=by simp[HT.sIx]
 unfold AK;rw[this];simp[HT.sIx]
theorem Qo{x:D}:AK (x::r) (some 1) none=r:=by
 have:HT.sIx (x::r).length 0 (some 1)=1:=by simp[HT.sIx]
 unfold AK;rw[this];simp[HT.sIx]
theorem Qp{k:Int}(h0:0<=k)(h1:k<=xs.length):AK xs none (some k)=xs.take k.toNat:=by
 have:HT.sIx xs.length xs.length (some k)=k.toNat:=by simp only[HT.sIx];rw[eC ∅];lia
 unfold AK;rw[this];simp[HT.sIx]
theorem Qm{k:Int}(h0:0<=k)(h1:k<=xs.length):AK xs (some k) none=xs.drop k.toNat:=by
 have:HT.sIx xs.length 0 (some k)=k.toNat:=by simp only[HT.sIx];rw[eC ∅];lia
 unfold AK;rw[this];simp only[HT.sIx];rw[uc7 (by simp)]
noncomputable def pos(i:Int):Int:=if 0<i then i else 0
structure ValueRes2(k c l:Nat)(S:List Ob)(s:Sh)(a b:Int)(r:D)(S':List Ob):Prop where
 fit:C0 s r=true
 lft:∃a' b':Int,S'[l]?=some (.lst [.int a',.int b'])/\((Eo s r).length:Int)<=9*(a-a')+(pos b-pos b')/\pos b'<=pos b/\1<=a-a'/\a-a'<=cnt s+(14*(s.depth:Int))*pos a
 deck:DeckAt k c S'
 kp:MZ k c l S S'
mutual
noncomputable def szE:D->Nat
 |.lst xs=>1+R5 xs
 |.tup xs=>1+R5 xs
 |_=>1
noncomputable def R5:List D->Nat
 |[]=>0
 |d::r=>szE d+R5 r
end
structure VOk(s:Sh)(v:D):Prop where
 fit:C0 s v=true
 len:(Eo s v).length<=14809
local macro_rules | `(tactic| walk_at"y1")=>`(tactic| first
 |walk_at"x1")
local macro_rules | `(tactic| symm)=>`(tactic| repeat (walk_at"y1"))
local macro_rules
|`(tactic|rw[6,$f $a*])=>`(tactic|(refine $f $a* ?_;symm))
|`(tactic|rw[6,$f:ident])=>`(tactic|(refine $f ?_;symm))
|`(tactic|rw[7,$f $a*])=>`(tactic|(refine $f $a* ?_;right))
|`(tactic|rw[7,$f:ident])=>`(tactic|(refine $f ?_;right))
|`(tactic|rw[8,$f $a*])=>`(tactic|(refine $f $a* ?_;left))
|`(tactic|rw[8,$f:ident])=>`(tactic|(refine $f ?_;left))
|`(tactic|rw[6,$f:term])=>`(tactic|(refine $f ?_;symm))
|`(tactic|rw[7,$f:term])=>`(tactic|(refine $f ?_;right))
|`(tactic|rw[8,$f:term])=>`(tactic|(refine $f ?_;left))
|`(tactic|rw[9,$f:ident])=>`(tactic|(refine Ao rfl ?_;unfold $f:ident;symm))
noncomputable def wD(w:List Nat):List D:=w.map λ(n:Nat)=>D.int (n:Int)
abbrev exS:D:=.exc "Short" []
abbrev exB(a:Nat):D:=.exc "Broken" [.int (a:Int),.non]
noncomputable def rrD:RR->D
 |.told v b=>.tup [v,.int (b:Int)]
 |.short=>exS
 |.broken a=>exB a
def RX(c:Fn)(s:Sh)(p:Rd):Prop:=∀(w:List Nat) (a:Nat),a<=w.length->Pure1 c [s.d,.lst (wD w),.int (a:Int)] (rrD (p.run w a))
variable{x:Str}{kvs:List (Key×D)}
theorem F1{d:D}{t:T}(e:t.S[n]?=some (.dct kvs))(e2:AR kvs (.inr x)=some d)(h:P d t):W (Dm (.obj n) (.str x)) t P:=
 ⟨d,t,by simp only[Dm,e,e2];rfl,h⟩
variable{f:M D}{U:Unit->T->Prop}
theorem P6{g:M D}{d:D}{t:T}(h:W f t λo t1=>W g t1 λi t2=>W (Fv o i d) t2 U):W (Dv f g d) t U:=C7 (h.mono λo t1 h1=>C7 h1)
theorem EJ{d:D}{t:T}(e:t.S[n]?=some (.dct kvs))(hl:kvs.length<LIM)(h:U () ⟨t.env,t.S.set n (.dct (CJ kvs (.inr x) d))⟩):W (Fv (.obj n) (.str x) d) t U:=
 ⟨(),_,by simp only[Fv,e,eB hl],h⟩
variable{Q:List D->T->Prop}
theorem Y6{a b c:Int}{t:T}(e:0<c/\c<1073741824/\small a=true/\small b=true/\E5 a b c<=LIM)(h:Q ((List.range (E5 a b c)).map λi:Nat=>D.int (a+i*c)) t):W (Ka [.int a,.int b,.int c]) t Q:=
 ⟨_,t,by show(if _ then _ else none)=_;rw[eB e],h⟩
theorem Tl{l:List (Str×M D)}{t:T}(h:W (C9 l) ⟨t.env,t.S++[.dct []]⟩ λps t1=>t1.S[t.S.length]?=some (.dct [])/\ps.length<=15/\P (.obj t.S.length) ⟨t1.env,t1.S.set t.S.length (.dct (Fh ps))⟩):W (Ij l) t P:=by
 clear 5 h ps t1 e1 e2 e3 p;refine⟨_,_,?_,p⟩;unfold Ij bnd;simp only[e1];unfold Ef;simp only[e2,eB e3]
theorem JV{t:T}{Q:List (Key×D)->T->Prop}(h:Q [] t):W (C9 []) t Q:=⟨_,_,rfl,h⟩
theorem C3{k:Str}{r:List (Str×M D)}{t:T}{Q:List (Key×D)->T->Prop}(h:W f t λd t1=>W (C9 r) t1 λps t2=>Q ((.inr k,d)::ps) t2):W (C9 ((k,f)::r)) t Q:=
 C7 (h.mono λd t1 h1=>C7 (h1.mono λps t2 h2=>⟨_,_,rfl,h2⟩))
structure St where
 rest:Int
 mixed:Bool
 turn:Int
noncomputable def St.ob(s:St):Ob:=.dct [(.inr (Str.ofString "rest"),.int s.rest),(.inr (Str.ofString "mixed"),.bl s.mixed),(.inr (Str.ofString "turn"),.int s.turn)]
noncomputable def take(s:St)(m:Int):Int×St:=
 if s.mixed=false then(s.rest%m,⟨s.rest/m,s.mixed,s.turn⟩)
 else
  let stir:=(s.rest%2147483579+70001*(s.turn+1))%2147483579
  let rest:=(stir*stir%2147483563*50021+7)%2147483579
  (rest/5%m,⟨rest,s.mixed,s.turn+1⟩)
inductive GS where
 |fin
 |st (side:Str) (ws:List (Str×Sh×Int))
def wdD(w:Str×Sh×Int):D:=.tup [.str w.1,w.2.1.d,.int w.2.2]
def GS.d:GS->D
 |.fin=>.tup [.str (Str.ofString "end")]
 |.st side ws=>.tup [.str side,.lst (ws.map wdD)]
noncomputable def GS.isFin:GS->Bool
 |.fin=>true
 |_=>false
theorem IV{x y:Ob}:(S++[x]).set S.length y=S++[y]:=by rw[ue1 _ _ (uq9 _),uq4];rfl
structure WOk(n:Int)(w:Str×Sh×Int):Prop where
 ok:wf w.2.1=true
 dep:w.2.1.depth<=3
 lo:0<=w.2.2
 hi:w.2.2<n
 nm:w.1.length<=90000
inductive GSOk(n:Int):GS->Prop
 |fin:GSOk n .fin
 |st {side:Str}{ws:List (Str×Sh×Int)}:(side=Str.ofString "left"\/side=Str.ofString "right")->0<ws.length->ws.length<=9->(ws.map (·.1)).Nodup->(∀w∈ws,WOk n w)->GSOk n (.st side ws)
structure GOk(g:List GS):Prop where
 ne:0<g.length
 le:g.length<=30
 all:∀x∈g,GSOk g.length x
def IP(f:Fn):Prop:=∀(n:Int) (x:GS),GSOk n x->Pure1 f [x.d] (.bl x.isFin)
theorem OR:IP (fnOf 1 1 HA):=by
 intro n x hx S;refine Ao rfl ?_;unfold HA
 cases hx with
 |fin=>
   rw[GS.d];right;exact⟨by simp[GS.isFin],rfl⟩
 |st hs _ _ _ _=>
   rw[GS.d];right;refine⟨?_,rfl⟩;rcases hs with rfl|rfl<;>simp[GS.isFin]
def GS.words:GS->D
 |.fin=>.tup []
 |.st _ ws=>.lst (ws.map wdD)
noncomputable def GS.ws:GS->List (Str×Sh×Int)
 |.fin=>[]
 |.st _ ws=>ws
def GR(f:Fn):Prop:=∀(n:Int) (x:GS),GSOk n x->Pure1 f [x.d] x.words
theorem Sm{ce:Fn}(he:IP ce):GR (fnOf 1 1 (FU ce)):=by
 intro n x hx S;refine Ao rfl ?_;unfold FU
 cases x with
 |fin=>
   right;rw[7,(he n .fin hx).use];exact⟨rfl,rfl⟩
 |st side ws=>
   right;refine(he n (.st side ws) hx).use ?_;rw[GS.d];right;exact⟨rfl,rfl⟩
theorem CZ:eqN n (.str x) (.str x)=some true:=by
 cases n<;>(show some (x==x)=some true;rw[ul8])
theorem Fd{x:Int}:eqN n (.int x) (.int x)=some true:=by
 cases n<;>(show some (x==x)=some true;rw[ul8])
theorem Ce(h:∀x∈xs,eqN n x x=some true):eqN (n+1) (.tup xs) (.tup xs)=some true:=by
 rw[eqN,Gh h];simp
theorem I9(h:∀x∈xs,eqN n x x=some true):eqN (n+1) (.lst xs) (.lst xs)=some true:=by
 rw[eqN,eB rfl,Gh h]
theorem Gi:∀(n:Nat) (s:Sh),s.depth<=n->∀m,2*n<=m->eqN m s.d s.d=some true
 |0,s,h,_,_=>absurd s.depth_pos ∅
 |n+1,s,h,m,hm=>by
   obtain⟨m,rfl⟩:∃k,m=k+2:=cu ∅
   cases s with
   |nothing=>rw[Sh.d];exact Ce (by simp[CZ])
   |number lo hi=>rw[Sh.d];exact Ce (by simp[CZ,Fd])
   |text q=>rw[Sh.d];exact Ce (by simp[CZ,Fd])
   |list s q=>
     rw[Sh.depth] at h;have:=Gi n s ∅ (m+1) ∅;rw[Sh.d];exact Ce (by simp[CZ,Fd,this])
   |pair s r=>
     rw[Sh.depth] at h;have h1:=Gi n s ∅ (m+1) ∅;have h2:=Gi n r ∅ (m+1) ∅;rw[Sh.d];exact Ce (by simp[CZ,h1,h2])
   |choice ss=>
     rw[Sh.depth] at h;have h1:eqN (m+1) (.tup (shD ss)) (.tup (shD ss))=some true:=Ce λx hx=>by
      clear 5(Lr hx)s hs rfl;exact Gi n s (up6 (BU hs) ∅) m ∅
     rw[Sh.d];exact Ce (by simp[CZ,h1])
theorem Wh{n:Int}{x:GS}(h:GSOk n x){m:Nat}(hm:9<=m):eqN m x.d x.d=some true:=by
 obtain⟨m,rfl⟩:∃k,m=k+3:=cu ∅
 cases h with
 |fin=>rw[GS.d];exact Ce (by simp[CZ])
 |@st side ws h1 h2 h3 h4 h5=>
   have hw:eqN (m+2) (.lst (ws.map wdD)) (.lst (ws.map wdD))=some true:=I9 λx hx=>by
    clear 5(uq6.mp hx)w hw rfl;unfold wdD;exact Ce (by simp[CZ,Fd,Gi 3 w.2.1 (h5 w hw).dep m ∅])
   rw[GS.d];exact Ce (by simp[CZ,hw])
noncomputable def GS.side:GS->Str
 |.fin=>Str.ofString "end"
 |.st s _=>s
noncomputable def Gs(g:List GS)(q:Nat):GS:=g.getD q .fin
def Jv(g:List GS)(q p:Nat):Str×Sh×Int:=(Gs g q).ws.getD p (Str.ofString "",.nothing,0)
def ID(g:List GS)(q p:Nat):Nat:=(Jv g q p).2.2.toNat
def ZJ(g:List GS)(q p:Nat)(v:D):D:=.tup [.str (Gs g q).side,.str (Jv g q p).1,v]
abbrev Mv:=Nat×D
def Iy(g:List GS):Nat->List Mv->Nat
 |q,[]=>q
 |q,(p,_)::r=>Iy g (ID g q p) r
def SU(g:List GS):Nat->List Mv->List D
 |_,[]=>[]
 |q,(p,v)::r=>ZJ g q p v::SU g (ID g q p) r
structure MvOk(g:List GS)(q:Nat)(p:Nat)(v:D):Prop where
 lt:q<g.length
 pl:p<(Gs g q).ws.length
 fit:C0 (Jv g q p).2.1 v=true
def okQ(g:List GS):Nat->List Mv->Prop
 |_,[]=>True
 |q,(p,v)::r=>MvOk g q p v/\okQ g (ID g q p) r
abbrev kR:Key:=.inr (Str.ofString "rest")
abbrev kM:Key:=.inr (Str.ofString "mixed")
abbrev kC:Key:=.inr (Str.ofString "count")
abbrev YC(a b c:D):List (Key×D):=[(kR,a),(kM,b),(kC,c)]
def Room(k r:Nat)(S:List Ob):Prop:=∃(a c:Int) (b:Bool),S[k]?=some (.dct (YC (.int a) (.bl b) (.int c)))/\0<=c/\c+r<=1000000000000000000000000000000
theorem NY{i j:Int}{t:T}(h1:i.natAbs<2 ^ 512)(h2:j.natAbs<2 ^ 512)(h:P (.int (i*j)) t):W (HD (.int i) (.int j)) t P:=
 ⟨_,_,by simp only[HD,i2C,KS,uo3 h1,uo3 h2];rfl,h⟩
theorem Tm{i j:Int}{t:T}(h1:0<j)(h2:j<18446744073709551616)(h:P (.int (i/j)) t):W (G1 (.int i) (.int j)) t P:=
 ⟨_,_,by simp only[G1,i2C,KB,uo3 h1,uo3 h2];rfl,h⟩
theorem IA{i:Int}(h0:0<=i)(h:i<10000000000000000000000000000000000000000000000000000000000000000000000000000000):i.natAbs<2 ^ 512:=by
 have:(10000000000000000000000000000000000000000000000000000000000000000000000000000000:Nat)<=2 ^ 512:=by decide
 lia
theorem Bx{k:Nat}{o':Ob}(h:S[k]?=some o):(S.set k o')[k]?=some o':=Ue h
theorem A4{x:Ob}:(S++[x])[S.length]?=some x:=by simp
noncomputable def cs:Nat->Nat
 |0=>10
 |d+1=>10+3*cs d
theorem Yg(d:Nat):10<=cs d:=by cases d<;>simp[cs]
theorem CB{m:Nat}(h:n<=m)(hm:autoParam (m<=1000) q1T):small (n:Int)=true:=HJ ∅ ∅
variable{ss:List Sh}
theorem Zw(h:∀x∈ss,x.depth<=n):(Sh.choice ss).depth<=n+1:=by
 rw[Sh.depth];refine Nat.succ_le_succ ?_
 induction ss with
 |nil=>rw[Ed];exact ur0 _
 |cons x r ih=>rw[Ed];exact Nat.max_le.mpr ⟨h x ug5,ih λy m=>h y (ue3 _ m)⟩
structure Drawn(k r:Nat)(dp:Nat)(v:D)(S':List Ob):Prop where
 ex:∃s:Sh,v=s.d/\s.depth<=dp/\wf s=true
 pool:Room k r S'
theorem Ke{k:Nat}(h:k<ss.length):atI (shD ss) (k:Int)=some (ss[k]).d:=by
 unfold atI;rw[BG ∅ (by rw[Ci];lia)];show(shD ss)[(k:Int).toNat]?=_;rw[uh8,MM,ub5 h];rfl
noncomputable def vB:Nat->Nat
 |0=>10
 |m+1=>10+vB m*3
structure Val(k r:Nat)(s:Sh)(c:Nat)(v:D)(S':List Ob):Prop where
 fit:C0 s v=true
 len:(Eo s v).length<=c
 pool:Room k r S'
def okB(g:List GS):Nat->List Mv->Prop
 |_,[]=>True
 |q,(p,v)::r=>(Eo (Jv g q p).2.1 v).length<=400/\okB g (ID g q p) r
structure TOk(g:List GS)(mv:List Mv):Prop where
 ok:okQ g 0 mv
 bd:okB g 0 mv
 len:mv.length<=60
theorem Tr{k:Nat}{h:List D->List D->Option (List D)}{g:M (List D)}{t:T}(w:W f t λo t1=>o=.obj k/\∃xs0,t1.S[k]?=some (.lst xs0)/\W g t1 λds t2=>∃xs ys,t2.S[k]?=some (.lst xs)/\h xs ds=some ys/\P .non ⟨t2.env,t2.S.set k (.lst ys)⟩):W (objM h f g) t P:=by
 unfold objM;refine W_bnd.mpr (w.mono λo t1 z9=>?_);clear 5 z9 e xs0 e1 w;subst e;clear 5 w ds t2 e2 xs ys e3 e4 p;refine⟨_,_,?_,p⟩;simp only[e1,bnd,e2,e3,e4];rfl
def F3(g:List GS)(sd:Str):Nat->List Mv->List D
 |_,[]=>[]
 |q,(p,v)::r=>(if (Gs g q).side=sd then .int p::Eo (Jv g q p).2.1 v else [])++F3 g sd (ID g q p) r
abbrev kL:Key:=.inr (Str.ofString "left")
abbrev kRt:Key:=.inr (Str.ofString "right")
abbrev sL:Str:=Str.ofString "left"
abbrev sR:Str:=Str.ofString "right"
structure Wr(K A B:Nat)(S:List Ob)(xs ys:List D):Prop where
 k:S[K]?=some (.dct [(kL,.obj A),(kRt,.obj B)])
 a:S[A]?=some (.lst xs)
 b:S[B]?=some (.lst ys)
 ab:A≠B
 ka:K≠A
 kb:K≠B
def FrO(F:List (Nat×Ob))(k:Nat)(S:List Ob):Prop:=∀p∈F,p.1≠k/\S[p.1]?=some p.2
def Ye(F:List (Nat×Ob))(k r:Nat)(S:List Ob):Prop:=Room k r S/\FrO F k S
structure ValF(F:List (Nat×Ob))(k r:Nat)(s:Sh)(c:Nat)(v:D)(S':List Ob):Prop where
 fit:C0 s v=true
 len:(Eo s v).length<=c
 pool:Ye F k r S'
noncomputable def GS.sd:GS->Str
 |.fin=>Str.ofString "end"
 |.st s _=>s
inductive Odd(x:GS):D->Prop
 |non:Odd x .non
 |lst {ds:List D}:Odd x (.lst ds)
 |two {a b:D}:Odd x (.tup [a,b])
 |four {a b c d:D}:Odd x (.tup [a,b,c,d])
 |sideN {b c:D}:Odd x (.tup [.non,b,c])
 |side {s:Str}{b c:D}:¬s=x.sd->Odd x (.tup [.str s,b,c])
 |nmN {s:Str}{c:D}:Odd x (.tup [.str s,.non,c])
 |nmI {s:Str}{i:Int}{c:D}:Odd x (.tup [.str s,.int i,c])
 |nm {s nm:Str}{c:D}:(x.ws.findIdx? λw=>w.1==nm)=none->Odd x (.tup [.str s,.str nm,c])
 |val {s nm:Str}{c:D}{p:Nat}{w:Str×Sh×Int}:(x.ws.findIdx? λw=>w.1==nm)=some p->x.ws[p]?=some w->okD c=true->C0 w.2.1 c=false->Odd x (.tup [.str s,.str nm,c])
def Rq(n:Nat)(d:D):Prop:=∀m,n<=m->eqN m d d=some true
def mB:Nat->Nat
 |0=>0
 |m+1=>10+vB m*2+mB m*2
structure Mis(n:Nat)(s:Sh)(v:D):Prop where
 ok:okD v=true
 no:C0 s v=false
 rq:Rq n v
structure Fit(n:Nat)(s:Sh)(v:D):Prop where
 ok:okD v=true
 fit:C0 s v=true
 rq:Rq n v
def Gr(S S':List Ob):Prop:=S.length<=S'.length/\∀i,i<S.length->S'[i]?=S[i]?
theorem Gr.trans{S S1 S2:List Ob}(a:Gr S S1)(b:Gr S1 S2):Gr S S2:=⟨up6 a.1 b.1,λi h=>(b.2 i (ug4 h a.1)).trans (a.2 i h)⟩
theorem Gr.get{S S':List Ob}{k:Nat}{o:Ob}(a:Gr S S')(h:S[k]?=some o):S'[k]?=some o:=by rw[a.2 k (ub0.mp h).1];exact h
abbrev lr(a b:D):List (Key×D):=[(kL,a),(kRt,b)]
abbrev dP(a b:Nat):List (Key×D):=lr (.int a) (.int b)
noncomputable def onS{α:Type}(s:Str)(a b:α):α:=if s=sL then a else b
set_option tactic.hygienic true in
inductive Sr where
 |stop
 |brk (k:Nat) (s:Str)
 |next (m:D) (h a b:Nat)
def WP(side:Str)(ws:List (Str×Sh×Int))(w:List Nat)(p:Nat):RR×Nat:=match w[p]? with
 |none=>(.short,0)
 |some c=>match ws[c]? with
   |none=>(.broken p,0)
   |some wd=>((pSh 3 wd.2.1).run w (p+1),c)
structure Pl(g:List GS)(wl wr:List Nat)(h a b:Nat):Prop where
 h:h<g.length
 a:a<=wl.length
 b:b<=wr.length
theorem X1{t:T}(e:t.S[n]?=some (.dct kvs))(h:P (.obj t.S.length) ⟨t.env,t.S++[.dct kvs]⟩):W (GV [.obj n]) t P:=
 ⟨_,_,by simp only[GV,e],h⟩
theorem Sd{g:Bool->Bool}{x y d:D}{t:T}(hx:DH t.S x=d)(hy:DH t.S y=d)(hp:Bg d=true)(he:eqN EQD d d=some true)(h:P (.bl (g true)) t):W (eqT g x y) t P:=
 ⟨_,_,by unfold eqT;rw[hx,hy,hp,he];rfl,h⟩
theorem Y2{k:Nat}{t:T}(e:t.S[k]?=some (.lst xs))(h:P (.bl true) t):W (Hy [.obj k,.ty "list"]) t P:=⟨_,_,by simp only[Hy,e];rfl,h⟩
variable{α:Type}{fr:List (Option Sl)}{elt:M D}
theorem CW{l:List α}{ι f:α->D}{z:Option Sl}(h:∀a∈l,W elt ⟨vw (ι a)::fr,S⟩ λx t'=>x=f a/\t'=⟨vw (ι a)::fr,S⟩) :
 W (AQ (Aj 0) BL elt (l.map ι)) ⟨z::fr,S⟩ λxs t'=>xs=l.map f/\t'.S=S:=by
 induction l generalizing z with
 |nil=>exact W_compL_nil.mpr ⟨rfl,rfl⟩
 |cons a r ih=>
   rw[uo6,BW];refine CH (Ju ?_);rw[eB rfl];refine(h a ug5).mono λx t' z9=>?_;clear 5 z9 e1 e2;subst e1 e2;refine(ih (z:=vw (ι a)) λb hb=>h b (ue3 _ hb)).mono λxs t' z9=>?_;clear 5 z9 e1 e2;subst e1;exact⟨rfl,e2⟩
structure Mvs(g:List GS)(wl wr:List Nat)(mv:List Mv)(h a b:Nat)(t:List D):Prop where
 t:t=SU g 0 mv
 ok:okQ g 0 mv
 h:Iy g 0 mv=h
 a:F3 g sL 0 mv=wD (wl.take a)
 b:F3 g sR 0 mv=wD (wr.take b)
inductive NR where
 |stop
 |brk (k:Nat)
 |msg (k:Nat) (m:D) (th e:Nat)
def nxR(gs:List (List GS))(w:List Nat)(side:Str)(p:Nat)(st:List Nat):NR:=match w[p]? with
 |none=>.stop
 |some k=>match gs[k]? with
   |none=>.brk p
   |some g=>match Gs g (st.getD k 0) with
     |.fin=>.brk p
     | .st s ws=>if s=side then match WP side ws w (p + 1) with
        |(.short,_)=>.stop
        |(.broken j,_)=>.brk j
        |(.told v e,c)=>.msg k (.tup [.str side,.str (ws.getD c (Str.ofString "",.nothing,0)).1,v]) (ws.getD c (Str.ofString "",.nothing,0)).2.2.toNat e
       else .stop
noncomputable def sd(s:Bool):Str:=if s=true then sL else sR
structure Ls where
 p:Bool->Nat
 st:List Nat
 hd:List (List D)
def Ls.nx(σ:Ls)(gs:List (List GS))(w:Bool->List Nat)(s:Bool):NR:=nxR gs (w s) (sd s) (σ.p s) σ.st
noncomputable def Ls.go(σ:Ls)(s:Bool)(k:Nat)(m:D)(th e:Nat):Ls:=⟨λx=>if x=s then e else σ.p x,σ.st.set k th,σ.hd.set k (σ.hd.getD k []++[m])⟩
def Stp(gs:List (List GS))(w:Bool->List Nat)(σ:Ls)(s:Bool)(τ:Ls):Prop:=∃k m th e,σ.nx gs w s=.msg k m th e/\τ=σ.go s k m th e
inductive Run(gs:List (List GS))(w:Bool->List Nat):Ls->Ls->Prop
 |refl (σ:Ls):Run gs w σ σ
 |step {σ τ ρ:Ls}{s:Bool}:Stp gs w σ s τ->Run gs w τ ρ->Run gs w σ ρ
section
variable{gs:List (List GS)}{w:Bool->List Nat}
end
def oth(s:Str):Str:=if s=sL then sR else sL
section
variable{gs:List (List GS)}{w:Bool->List Nat}
end
section
variable{gs:List (List GS)}{w:Bool->List Nat}
end
section
variable{f:Str}{t:T}{P:D->T->Prop}{O:Out->T->Prop}{k:Nat}{n:Str}{fs:List (Str×D)}{v:D}
theorem Fz(h:P (.obj t.S.length) ⟨t.env,t.S++[.dct []]⟩):W (C8 []) t P:=by
 refine⟨_,_,?_,h⟩;simp[C8,G0,bnd,L2.ret,Ef,Fh]
end
local macro_rules | `(tactic| walk_at"y1")=>`(tactic| first
 |walk_at"x1" |clear 31 Fz P6)
abbrev rdF(g:List GS)(h W P:Nat):List (Str×D):=[("grammar",.lst (g.map GS.d)),("standing",.int (h:Nat)),("wires",.obj W),("places",.obj P)]
structure Rdr(n0:Nat)(S:List Ob)(k:Nat)(g:List GS)(vl vr:List Nat)(h a b W P l r:Nat):Prop where
 k0:n0<=k
 l0:n0<=l
 r0:n0<=r
 ne:l≠r
 k:S[k]?=some (.ins "Reader" (rdF g h W P))
 w:S[W]?=some (.dct (lr (.obj l) (.obj r)))
 p:S[P]?=some (.dct (dP a b))
 l:S[l]?=some (.lst (wD vl))
 r:S[r]?=some (.lst (wD vr))
variable{j:Nat}{u:Ob}
theorem AH(h:S[i]?=some o)(h':S[j]?=some u)(n:o≠u):i≠j:=λe=>by subst e;rw[h] at h';exact n (ul9 h')
def Kp(k:Nat)(S S':List Ob):Prop:=S.length<=S'.length/\∀i,i<S.length->i≠k->S'[i]?=S[i]?
theorem Kp.refl{k:Nat}:Kp k S S:=⟨uq9 _,λ_ _ _=>rfl⟩
variable{S':List Ob}
theorem Kp.setk{k:Nat}(a:Kp k S S'):Kp k S (S'.set k o):=⟨by rw[um7];exact a.1,λi h n=>by rw[ue5 (Ne.symm n)];exact a.2 i h n⟩
theorem Kp.app{k:Nat}(a:Kp k S S'):Kp k S (S'++[o]):=⟨by rw[ug7];exact up6 a.1 (uk2 _ _),λi hi n=>by rw[ub1 (ug4 hi a.1)];exact a.2 i hi n⟩
theorem AF(h:S[i]?=some u):(S++[o])[i]?=some u:=by rw[ub1 (ub0.mp h).1];exact h
theorem AS(h:S[i]?=some u):i<S.length:=(ub0.mp h).1
def gsD(gs:List (List GS)):D:=.lst (gs.map λg=>.lst (g.map GS.d))
abbrev liF(gs:List (List GS))(W P N H:Nat):List (Str×D):=[("grammars",gsD gs),("wires",.obj W),("places",.obj P),("standings",.obj N),("heard",.obj H)]
def nD(l:List Nat):List D:=l.map λn=>.int (n:Nat)
def Zs(n0:Nat)(S:List Ob)(d:D)(w:List Nat):Prop:=d=.lst (wD w)\/∃k,d=.obj k/\k<n0/\S[k]?=some (.lst (wD w))
structure Lis(n0:Nat)(S:List Ob)(gs:List (List GS))(w:Bool->List Nat)(σ:Ls)(k W P N H:Nat)(hs:List Nat):Prop where
 ik:S[k]?=some (.ins "Listener" (liF gs W P N H))
 iw:∃x:Bool->D,S[W]?=some (.dct (lr (x true) (x false)))/\∀s,Zs n0 S (x s) (w s)
 ip:S[P]?=some (.dct (dP (σ.p true) (σ.p false)))
 it:S[N]?=some (.lst (nD σ.st))
 ih:S[H]?=some (.lst (hs.map .obj))
 hl:hs.length=gs.length
 hh:∀(i h:Nat),hs[i]?=some h->S[h]?=some (.lst (σ.hd.getD i []))
 nd:hs.Nodup
 nN:N∉hs
 nH:H∉hs
 ne:N≠H
 lP:n0<=P
 lN:n0<=N
 lh:∀h∈hs,n0<=h
 ls:σ.st.length=gs.length
 lo:∀(i:Nat) (g:List GS),gs[i]?=some g->σ.st.getD i 0<g.length
 ld:σ.hd.length=gs.length
 fw:∀i,2*(σ.hd.getD i []).length<=σ.p true+σ.p false
theorem Qf{d:D}(h:ds[i]?=some d):atI ds (i:Int)=some d:=by
 unfold atI;rw[BG ∅ (by have:=(ub0.mp h).1;lia)];show ds[(i:Int).toNat]?=_;rw[uh8];exact h
theorem LK{t:T}{k:Nat}{d:D}(e:t.S[k]?=some (.lst ds))(h:ds[i]?=some d)(p:P d t):L2.W (ixD (.obj k) (.int (i:Int))) t P:=W_ix_obj.mpr ⟨ds,e,d,Qf h,p⟩
section
variable{n0:Nat}{S:List Ob}{gs:List (List GS)}{w:Bool->List Nat}{σ:Ls}{k W P N H:Nat}{hs:List Nat}
end
structure HrdAt(S:List Ob)(H:Nat)(hs:List Nat)(hd:List (List D)):Prop where
 ih:S[H]?=some (.lst (hs.map .obj))
 hl:hs.length=hd.length
 hh:∀(i h:Nat),hs[i]?=some h->S[h]?=some (.lst (hd.getD i []))
def At(w:List Nat)(a:Nat)(xs:List D):Prop:=∃p q,wD w=p++(xs++q)/\p.length=a
mutual
inductive Ow(S:List Ob):D->D->List Nat->Prop
 |non:Ow S .non .non []
 |int (i:Int):Ow S (.int i) (.int i) []
 |str (x:Str):Ow S (.str x) (.str x) []
 |tup {ds vs:List D}{fp:List Nat}:Ows S ds vs fp->Ow S (.tup ds) (.tup vs) fp
 |obj {k:Nat}{ds vs:List D}{fp:List Nat}:S[k]?=some (.lst ds)->Ows S ds vs fp->k∉fp->Ow S (.obj k) (.lst vs) (k::fp)
inductive Ows(S:List Ob):List D->List D->List Nat->Prop
 |nil:Ows S [] [] []
 |cons {d v:D}{fp fp':List Nat}{ds vs:List D}:Ow S d v fp->Ows S ds vs fp'->(∀k∈fp,k∉fp')->Ows S (d::ds) (v::vs) (fp++fp')
end
def prt(g:List GS)(mv:List Mv)(i:Nat):List D:=match mv[i]? with
 |some (p,v)=>.int (p:Int)::Eo (Jv g (Iy g 0 (mv.take i)) p).2.1 v
 |none=>[]
structure Due(g:List GS)(mv:List Mv)(rl rr k:Nat):Prop where
 le:k<=mv.length
 a:(F3 g sL 0 (mv.take k)).length<=rl
 b:(F3 g sR 0 (mv.take k)).length<=rr
 z:k=mv.length\/(k<mv.length/\onS (Gs g (Iy g 0 (mv.take k))).side rl rr<onS (Gs g (Iy g 0 (mv.take k))).side (F3 g sL 0 (mv.take k)).length (F3 g sR 0 (mv.take k)).length+(prt g mv k).length)
section
variable{gs:List (List GS)}{w:Bool->List Nat}
end
structure Sx where
 rest:Int
 dig:Bool
 cnt:Int
noncomputable def sxL(a b c:D):List (Key×D):=[(.inr (Str.ofString "rest"),a),(.inr (Str.ofString "digits"),b),(.inr (Str.ofString "count"),c)]
def Sx.l(s:Sx):List (Key×D):=sxL (.int s.rest) (.bl s.dig) (.int s.cnt)
variable{a c:D}
theorem Jq{b:D}:AR (sxL a b c) (.inr (Str.ofString "rest"))=some a:=rfl
theorem PP{b:D}:AR (sxL a b c) (.inr (Str.ofString "digits"))=some b:=rfl
theorem PN{b:D}:AR (sxL a b c) (.inr (Str.ofString "count"))=some c:=rfl
theorem R4{b d:D}:CJ (sxL a b c) (.inr (Str.ofString "rest")) d=sxL d b c:=rfl
theorem VA{b d:D}:CJ (sxL a b c) (.inr (Str.ofString "count")) d=sxL a b d:=rfl
def SxB(r:Nat)(s:Sx):Prop:=0<=s.cnt/\s.cnt+r<=1000000000000000000000000000000
def Sw(f:Fn):Prop:=∀(s:Sx) (m:Int) (r:Nat),SxB (r+1) s->0<m->m<4611686018427387904->∃(x:Int) (s':Sx),0<=x/\x<m/\SxB r s'/\∀(S:List Ob) (K:Nat),S[K]?=some (.dct s.l)->Wf f [.obj K,.int m] S λq S'=>q=.int x/\S'=S.set K (.dct s'.l)
theorem Qr:Sw (fnOf 2 4 CK):=by
 intro s m r ⟨c0,c1⟩ hm0 hm1;clear 5 s a b c;dsimp only at c0 c1
 cases b with
 |true=>
   refine⟨a%m,⟨a/m,true,c⟩,un6 _ ∅,uh2 _ hm0,⟨c0,by dsimp only;lia⟩,λS K hS=>?_⟩;rw[9,CK];rw[6,F1 hS PP];rw[6,F1 hS Jq];rw[6,NX hm0];rw[6,F1 hS Jq];rw[6,Tm hm0 ∅];refine EJ hS (by show 3<100000;decide) ?_;rw[show CJ (Sx.l ⟨a,true,c⟩) (.inr (Str.ofString "rest")) (.int (a/m))=Sx.l ⟨a/m,true,c⟩ from R4];symm;exact⟨rfl,rfl⟩
 |false=>
   obtain⟨x1,hx1⟩:∃x1,x1=(a%999999999989+480007*(c+1))%999999999989:=⟨_,rfl⟩;obtain⟨x2,hx2⟩:∃x2,x2=x1*x1%1000000000039:=⟨_,rfl⟩;obtain⟨x3,hx3⟩:∃x3,x3=(x2+290027)*x2%999999999961:=⟨_,rfl⟩;have a1:0<=x1:=by rw[hx1];exact un6 _ (by decide)
   have b1:x1<999999999989:=by rw[hx1];exact uh2 _ (by decide)
   have a2:0<=x2:=by rw[hx2];exact un6 _ (by decide)
   have b2:x2<1000000000039:=by rw[hx2];exact uh2 _ (by decide)
   refine⟨x3/7%m,⟨a,false,c+1⟩,un6 _ ∅,uh2 _ hm0,⟨by dsimp only;lia,by dsimp only;lia⟩,λS K hS=>?_⟩;rw[9,CK];rw[6,F1 hS PP];rw[6,F1 hS PN];refine EJ hS (by show 3<100000;decide) ?_;rw[show CJ (Sx.l ⟨a,false,c⟩) (.inr (Str.ofString "count")) (.int (c+1))=Sx.l ⟨a,false,c+1⟩ from VA];have g1:(S.set K (.dct (Sx.l ⟨a,false,c+1⟩)))[K]?=some (.dct (Sx.l ⟨a,false,c+1⟩)):=Bx hS;symm;rw[6,F1 g1 Jq];rw[6,F1 g1 PN];rw[6,NY (by decide) (IA (show(0:Int)<=c+1 by lia) (show c+1<10000000000000000000000000000000000000000000000000000000000000000000000000000000 by lia))];rw[<-hx1];rw[6,NY (IA ∅ ∅) (IA ∅ ∅)];rw[<-hx2];rw[6,NY (IA ∅ ∅) (IA ∅ ∅)];rw[<-hx3];rw[6,Tm (by decide) (by decide)];rw[6,NX hm0];exact⟨rfl,rfl⟩
def DQ(f:Fn):Prop:=∀(ns:List Int) (k:Nat),ns.length<=63->k<=1000->∃s:Sx,SxB 900000000000000000000000000000 s/\∀S:List Ob,Wf f [.scr ns,.int (k:Nat)] S λq S'=>q=.obj S.length/\S'=S++[.dct s.l]
theorem PM:DQ (fnOf 2 3 Cs):=by
 intro ns k hl hk
 by_cases z:k<ns.length
 .refine⟨⟨ns[k],decide (1000000000000000000<=ns[k]),k⟩,⟨by dsimp only;lia,by dsimp only;lia⟩,λS=>?_⟩;rw[9,Cs];rw[6,B1 (uo3 ∅)];refine W_ix_scr.mpr ⟨ns[k],?_,?_⟩
  .unfold atI;rw[BG ∅ ∅];show ns[(k:Int).toNat]?=_;rw[uh8,ub5 z]
  .symm;refine Tl ?_;rw[6,C3];refine C3 ?_;rw[6,Sg];rw[6,BZ (un7 ∅)];rw[6,C3];refine JV ?_;refine⟨A4,by show 3<=15;decide,rfl,?_⟩;show(S++[Ob.dct []]).set S.length _=_;rw[ue1 _ _ (uq9 _),uq4];rfl
 .refine⟨⟨0,true,k⟩,⟨by dsimp only;lia,by dsimp only;lia⟩,λS=>?_⟩;rw[9,Cs];rw[6,BZ (un7 ∅)];refine Tl ?_;rw[6,C3];refine C3 ?_;rw[6,Sg];refine B1 (uo3 ∅) ?_;rw[6,C3];refine JV ?_;refine⟨A4,by show 3<=15;decide,rfl,?_⟩;show(S++[Ob.dct []]).set S.length _=_;rw[ue1 _ _ (uq9 _),uq4];rfl
theorem Ck:AK xs none (some (n:Int))=xs.take n:=by
 by_cases h:n<=xs.length
 .rw[Qp ∅ ∅,uh8]
 .have:HT.sIx xs.length xs.length (some (n:Int))=xs.length:=by simp only[HT.sIx];rw[eC ∅];lia
  unfold AK;rw[this];simp only[HT.sIx,uo0,Nat.sub_zero];rw[uk8,uc7 ∅]
theorem Kp.trans{k:Nat}{S S1 S2:List Ob}(a:Kp k S S1)(b:Kp k S1 S2):Kp k S S2:=⟨up6 a.1 b.1,λi h n=>(b.2 i (ug4 h a.1) n).trans (a.2 i h n)⟩
theorem Kp.get{k i:Nat}{S S1:List Ob}{o:Ob}(a:Kp k S S1)(h:S[i]?=some o)(n:i≠k):S1[i]?=some o:=by rw[a.2 i (AS h) n];exact h
variable{s:Sx}
theorem SxB.mono{r r':Nat}(h:SxB r s)(e:r'<=r):SxB r' s:=⟨h.1,by have:=h.2;lia⟩
def Dw(f:Fn)(as:List D)(s:Sx)(v:D)(s':Sx):Prop:=∀(S:List Ob) (K:Nat),K<S.length->Wf f (.obj K::as) (S.set K (.dct s.l)) λq S'=>q=v/\S'=S.set K (.dct s'.l)
theorem Dw.use{f:Fn}{as:List D}{s':Sx}{v:D}(h:Dw f as s v s'){S:List Ob}{K:Nat}(hK:K<S.length){P:D->List Ob->Prop}(p:P v (S.set K (.dct s'.l))):Wf f (.obj K::as) (S.set K (.dct s.l)) P:=(h S K hK).mono λq S' ⟨e1,e2⟩=>by subst e1 e2;exact p
def Bt(f:Fn):Prop:=∀(s:Sx) (m:Int) (r:Nat),SxB (r+1) s->0<m->m<4611686018427387904->∃(x:Int) (s':Sx),0<=x/\x<m/\SxB r s'/\Dw f [.int m] s (.int x) s'
theorem Qs{f:Fn}(h:Sw f):Bt f:=λs m r hs h0 h1=>by
 clear 5(h s m r hs h0 h1)x s' x0 x1 b d;refine⟨x,s',x0,x1,b,λS K hK=>?_⟩;refine(d _ K (uc3 hK)).mono λq S' ⟨e1,e2⟩=>⟨e1,?_⟩;rw[e2,uq8]
noncomputable def IZ:Sh->Sh
 |.list s q=>.list s (if 6<q then 6 else q)
 |.nothing=>.nothing
 |.number a b=>.number a b
 |.text m=>.text m
 |.pair a b=>.pair a b
 |.choice ss=>.choice ss
theorem Ng(s:Sh):(IZ s).depth=s.depth:=by cases s<;>rfl
mutual
def AG:Sh->Sh->Bool
 |.nothing,r=>match r with
   |.nothing=>true
   |_=>false
 |.number l h,r=>match r with
   |.number l' h'=>decide (l=l')&&((wid (h-l).toNat==wid (h'-l').toNat)&&decide (h<=h'))
   |_=>false
 |.text q,r=>match r with
   |.text q'=>decide (q<=q')
   |_=>false
 |.list s q,r=>match r with
   |.list s' q'=>decide (q<=q')&&(decide (q=0)||AG s s')
   |_=>false
 |.pair a b,r=>match r with
   |.pair a' b'=>AG a a'&&AG b b'
   |_=>false
 |.choice ss,r=>match r with
   |.choice rs=>decide (ss.length<=rs.length)&&Ek ss rs
   |_=>false
def Ek:List Sh->List Sh->Bool
 |[],_=>true
 |s::ss,rs=>match rs with
   |r::rs=>AG s r&&Ek ss rs
   |[]=>true
end
def Be:Sh->Nat
 |.nothing=>0
 |.number _ _=>1
 |.text _=>2
 |.list _ _=>3
 |.pair _ _=>4
 |.choice _=>5
def kinds:List Str:=["nothing", "number", "text", "list", "pair", "choice"]
def J9(s:Sh):Str:=kinds.getD (Be s) ""
theorem KK(s:Sh):Be s<6:=by cases s<;>simp[Be]
theorem QO:kinds.Nodup:=by decide +kernel
theorem JL{s r:Sh}(h:J9 s=J9 r):Be s=Be r:=by
 have h1:Be s<kinds.length:=KK s;have h2:Be r<kinds.length:=KK r;unfold J9 at h;rw[ua7,ub5 h1,ua7,ub5 h2] at h;exact(uj4 QO).mp h
theorem Ig(s:Sh):∃ds,s.d=.tup (.str (J9 s)::ds):=by cases s<;>exact⟨_,by rw[Sh.d];rfl⟩
theorem Hq{s r:Sh}(h:Be s≠Be r):AG s r=false:=by
 cases s<;>cases r<;>first|exact absurd rfl h|(unfold AG;rfl)
def M8(f:Fn):Prop:=∀lo hi:Int,lo<=hi->hi-lo<4000000000000000000->Pure1 f [.tup [.str "number",.int lo,.int hi]] (.int (wid (hi-lo).toNat:Nat))
variable{cw:Fn}
theorem LZ(hw:FH cw):M8 (fnOf 1 1 (FT cw)):=by
 intro lo hi h h2 S;refine Ao rfl ?_;unfold FT;right;have:=hw (hi-lo).toNat (by have:(256:Nat) ^ 9=4722366482869645213696:=(by decide);lia);rw[ug1 ∅] at this;exact this.use ⟨rfl,rfl⟩
def EK(f:Fn)(n:Nat):Prop:=∀s r:Sh,s.depth<=n->wf s=true->wf r=true->Pure1 f [s.d,r.d] (.bl (AG s r))
theorem XZ{bs:List Bool}{t:T}(e:FJ ds=some bs)(h:P (.bl (bs.all id)) t):W (Hs [.lst ds]) t P:=⟨_,_,by simp only[Hs,e],h⟩
theorem F9:∀bs:List Bool,FJ (bs.map D.bl)=some bs
 |[]=>rfl
 |b::r=>by rw[uo6,FJ,F9 r];rfl
theorem E8:∀{ss rs:List Sh},ss.length<=rs.length->((List.range ss.length).map λk=>AG (ss.getD k .nothing) (rs.getD k .nothing)).all id=Ek ss rs
 |[],_,_=>by rw[Ek];rfl
 |s::ss,[],h=>by simp at h
 |s::ss,r::rs,h=>by
   rw[Ek,uj8,cE,uo6,uq5,uo7,<-E8 (ss:=ss) (rs:=rs) (by simpa using h)];rfl
variable{ci:Fn}
set_option tactic.hygienic true in
theorem KJ(hw:M8 cw)(hi:n=0\/EK ci n):EK (fnOf 2 3 (E1 ci cw)) (n+1):=by
 intro s r hd hs hr S;have hL:LIM=100000:=rfl;refine Ao rfl ?_;unfold E1;have rec_:∀{a b:Sh},a.depth<=n->wf a=true->wf b=true->Pure1 ci [a.d,b.d] (.bl (AG a b)):=λ{a b} h1 h2 h3=>by
  rcases hi with rfl|hi
  .exact absurd a.depth_pos ∅
  .exact hi a b h1 h2 h3
 by_cases hk:Be s=Be r
 .cases s with
  |nothing=>
    cases r<;>first|(simp[Be] at hk;done)|skip
    rw[Sh.d];right;exact⟨by rw[AG],rfl⟩
  |number l h=>
    cases r<;>first|(simp[Be] at hk;done)|skip
    rename_i l' h';simp only[wf,uj7,uj2] at hs hr;rw[Sh.d,Sh.d];right;rw[AG];refine DY (λz=>?_) λz=>?_
    .have z':l=l':=by simpa using z
     right;rw[7,(hw l h hs.1.2 ∅).use];rw[7,(hw l' h' hr.1.2 ∅).use];refine DY (λy=>?_) λy=>?_
     .have y':wid (h-l).toNat=wid (h'-l').toNat:=by have:=eq_of_beq y;lia
      right;exact⟨by rw[uo3 z',y'];simp,rfl⟩
     .have y':¬wid (h-l).toNat=wid (h'-l').toNat:=λq=>(cL.mp y) (by rw[q]);exact⟨by rw[cL.mpr y'];simp,rfl⟩
    .have z':¬l=l':=by simpa using z
     exact⟨by rw[un7 z'];simp,rfl⟩
  |text q=>
    cases r<;>first|(simp[Be] at hk;done)|skip
    rw[Sh.d,Sh.d];right;exact⟨by rw[AG],rfl⟩
  |list s q=>
    cases r<;>first|(simp[Be] at hk;done)|skip
    rename_i s' q';rw[Sh.depth] at hd;simp only[wf,uj7,uj2] at hs hr;rw[Sh.d,Sh.d];right;rw[AG];refine DY (λz=>?_) λz=>?_
    .right;refine DY (λy=>?_) λy=>?_
     .have y':q=0:=by simpa using y
      exact⟨by rw[z,uo3 y'];rfl,rfl⟩
     .have y':¬q=0:=by simpa using y
      right;refine(rec_ ∅ hs.2 hr.2).use ?_;exact⟨by rw[z,un7 y'];rfl,rfl⟩
    .exact⟨by rw[z];rfl,rfl⟩
  |pair a b=>
    cases r<;>first|(simp[Be] at hk;done)|skip
    rename_i a' b';rw[Sh.depth] at hd;simp only[wf,uj7] at hs hr;rw[Sh.d,Sh.d];right;rw[AG];rw[7,(rec_ ∅ hs.1 hr.1).use];refine DY (λz=>?_) λz=>?_
    .right;refine(rec_ ∅ hs.2 hr.2).use ?_;exact⟨by rw[z];rfl,rfl⟩
    .exact⟨by rw[z];rfl,rfl⟩
  |choice ss=>
    cases r<;>first|(simp[Be] at hk;done)|skip
    rename_i rs;rw[Sh.depth] at hd;simp only[wf,uj7,uj2] at hs hr;rw[Sh.d,Sh.d];right;rw[Ci,Ci,AG];refine DY (λz=>?_) λz=>?_
    .have z':ss.length<=rs.length:=by have:=uj3 z;lia
     right;rw[Ci];refine DK (HJ ∅ ∅) ?_;rw[uh8];refine(CW (l:=List.range ss.length) (ι:=λi:Nat=>D.int (0+(i:Int))) (f:=λk=>.bl (AG (ss.getD k .nothing) (rs.getD k .nothing))) (fr:=[vw (.tup [.str "choice",.tup (shD ss)]),vw (.tup [.str "choice",.tup (shD rs)])]) ?_).mono ?_
     .intro k hk;rw[un8] at hk;have hk2:k<rs.length:=by lia
      rw[dG];right;rw[7,HS (Ke hk)];rw[7,HS (Ke hk2)];refine(rec_ (up6 (BU (uk6 hk)) ∅) (FA hs.2 _ (uk6 hk)) (FA hr.2 _ (uk6 hk2))).use ?_;refine⟨?_,rfl⟩;rw[ua7,ub5 hk,ua7,ub5 hk2];rfl
     .rintro xs t' ⟨rfl,hS⟩;refine AM (by rw[um6,ui5,hL];lia) ?_;right;refine XZ (bs:=(List.range ss.length).map λk=>AG (ss.getD k .nothing) (rs.getD k .nothing)) ?_ ⟨?_,hS⟩
      .rw[<-F9,uq5];rfl
      .rw[E8 z',uo3 z'];rfl
    .have z':¬ss.length<=rs.length:=by have:=cS z;lia
     exact⟨by rw[un7 z'];rfl,rfl⟩
 .clear 5(Ig s)ds e;clear 5(Ig r)es e';rw[e,e'];right;refine B1 (by rw[ui8,cL];exact λz=>hk (JL z)) ?_;right;exact⟨by rw[Hq hk],rfl⟩
def nmO(kv:List (Str×Str))(x:Str):Option Str:=(kv.find? λp=>decide (p.1=x)).map (·.2)
def isM(kv:List (Str×Str))(ws vs:List (Str×Sh×Int))(k l:Nat):Bool:=match ws[k]?,vs[l]? with
 |some w,some v=>decide (nmO kv w.1=some v.1)
 |_,_=>false
def Bk(kv:List (Str×Str))(ws vs:List (Str×Sh×Int)):List (Nat×Nat):=(List.range ws.length).flatMap λk=>((List.range vs.length).filter λl=>isM kv ws vs k l).map λl=>(k,l)
section
variable{kv:List (Str×Str)}{ws vs:List (Str×Sh×Int)}
theorem mem_kl{x:Nat×Nat}:x∈Bk kv ws vs↔x.1<ws.length/\x.2<vs.length/\isM kv ws vs x.1 x.2=true:=by
 unfold Bk;rw[ul2];constructor
 .rintro⟨k,hk,hx⟩;clear 5(uq6.mp hx)l hl rfl;rw[um0,un8] at hl;exact⟨un8.mp hk,hl.1,hl.2⟩
 .rintro⟨h1,h2,h3⟩;exact⟨x.1,un8.mpr h1,uq6.mpr ⟨x.2,um0.mpr ⟨un8.mpr h2,h3⟩,rfl⟩⟩
theorem Nx:(Bk kv ws vs).Nodup:=by
 unfold Bk;refine List.pairwise_flatMap.mpr ⟨λk _=>?_,?_⟩
 .exact ui9.mpr ((uf4 _ ul3).imp λn z=>n (dQ Prod.snd z))
 .refine List.Pairwise.imp ?_ (ul3 (n:=ws.length));intro a c n x hx y hy z;obtain⟨_,_,rfl⟩:=uq6.mp hx;obtain⟨_,_,e⟩:=uq6.mp hy;exact n ((dQ Prod.fst z).trans (dQ Prod.fst e).symm)
theorem Ul(nd:(vs.map (·.1)).Nodup){k l l':Nat}(h:isM kv ws vs k l=true)(h':isM kv ws vs k l'=true):l=l':=by
 unfold isM at h h'
 cases e:ws[k]? with
 |none=>rw[e] at h;cases h
 |some w=>
   rw[e] at h h'
   cases e1:vs[l]? with
   |none=>rw[e1] at h;cases h
   |some v=>
     cases e2:vs[l']? with
     |none=>rw[e2] at h';cases h'
     |some v'=>
       rw[e1] at h;rw[e2] at h';have q1:=uj3 h;have q2:=uj3 h';have q:v.1=v'.1:=ul9 (q1.symm.trans q2);clear 5(ub0.mp e1)b1 g1;clear 5(ub0.mp e2)b2 g2;refine(uj4 (h₀:=by rw[um6];exact b1) (h₁:=by rw[um6];exact b2) nd).mp ?_;rw[ul4,ul4,g1,g2];exact q
theorem OW(nd:(vs.map (·.1)).Nodup):(Bk kv ws vs).length<=ws.length:=by
 have e:((Bk kv ws vs).map (·.1)).Nodup:=by
  refine(ui9.mpr (Nx (kv:=kv) (ws:=ws) (vs:=vs) |>.imp_of_mem ?_));intro a b ha hb n z;have h1:=(mem_kl.mp ha).2.2;have h2:=(mem_kl.mp hb).2.2;rw[z] at h1;exact n (dS z (Ul nd h1 h2))
 have s:(Bk kv ws vs).map (·.1) ⊆ List.range ws.length:=λk hk=>by
  clear 5(uq6.mp hk)x hx rfl;exact un8.mpr (mem_kl.mp hx).1
 have:=e.length_le_of_subset s
 rwa [um6,ui5] at this
end
def prS(b:Bool)(x:Nat×Nat):Nat:=if b=true then x.1 else x.2
def mkS(b:Bool)(p q:Nat):Nat×Nat:=if b=true then(p,q) else(q,p)
def nS(b:Bool)(ws vs:List (Str×Sh×Int)):Nat:=if b=true then ws.length else vs.length
def fnd(b:Bool)(kv:List (Str×Str))(ws vs:List (Str×Sh×Int))(p:Nat):List Nat:=(List.range (nS (!b) ws vs)).filter λq=>isM kv ws vs (mkS b p q).1 (mkS b p q).2
def wiS(b:Bool)(ws vs:List (Str×Sh×Int))(x:Nat×Nat):Bool:=match ws[x.1]?,vs[x.2]? with
 |some w,some v=>if b=true then AG w.2.1 v.2.1 else AG v.2.1 w.2.1
 |_,_=>false
variable{q:Nat}
section
variable{b:Bool}{kv:List (Str×Str)}{ws vs:List (Str×Sh×Int)}
theorem GH{p:Nat}:prS b (mkS b p q)=p:=by cases b<;>rfl
theorem Ur{p q':Nat}(h:mkS b p q=mkS b p q'):q=q':=by
 cases b
 .exact dQ Prod.fst h
 .exact dQ Prod.snd h
theorem IC(x:Nat×Nat):x=mkS b (prS b x) (prS (!b) x):=by cases b<;>rfl
theorem Fj{x:Nat×Nat}:x∈Bk kv ws vs↔prS b x<nS b ws vs/\prS (!b) x∈fnd b kv ws vs (prS b x):=by
 rw[mem_kl];unfold fnd;rw[um0,un8,<-IC]
 cases b
 .exact⟨λ⟨h1,h2,h3⟩=>⟨h2,h1,h3⟩,λ⟨h1,h2,h3⟩=>⟨h2,h1,h3⟩⟩
 .exact⟨λ⟨h1,h2,h3⟩=>⟨h1,h2,h3⟩,λ⟨h1,h2,h3⟩=>⟨h1,h2,h3⟩⟩
theorem WR(p:Nat):(fnd b kv ws vs p).Nodup:=uf4 _ ul3
theorem Yw(p:Nat)(hp:p<nS b ws vs):((Bk kv ws vs).filter λx=>prS b x==p).Perm ((fnd b kv ws vs p).map (mkS b p)):=by
 rw[ua9 (uf4 _ Nx) (ui9.mpr ((WR p).imp λn z=>n (Ur z)))];intro x;rw[um0,uq6,Fj (b:=b),dO];constructor
 .rintro⟨⟨h1,h2⟩,h3⟩;exact⟨prS (!b) x,by rw[<-h3];exact h2,by rw[<-h3];exact(IC x).symm⟩
 .rintro⟨q,hq,rfl⟩;rw[GH];refine⟨⟨hp,?_⟩,rfl⟩;have:prS (!b) (mkS b p q)=q:=by cases b<;>rfl
  rw[this];exact hq
theorem On(p:Nat)(hp:p<nS b ws vs):((Bk kv ws vs).map (prS b)).count p=(fnd b kv ws vs p).length:=by
 rw[List.count_eq_countP,List.countP_map,List.countP_eq_length_filter];have:=(Yw (b:=b) (kv:=kv) (ws:=ws) (vs:=vs) p hp).length_eq;rw[um6] at this;exact this
theorem ND{xs:List Nat}(h:∀x∈xs,x<n):xs.Perm (List.range n)↔∀p,p<n->xs.count p=1:=by
 rw[List.perm_iff_count];constructor
 .intro z p hp;rw[z p,ul5,eB hp]
 .intro z p
  by_cases hp:p<n
  .rw[z p hp,ul5,eB hp]
  .rw[List.count_eq_zero_of_not_mem (λm=>hp (h p m)),ul5,eC hp]
def zN(xs:List Nat):List Int:=xs.map λk:Nat=>(k:Int)
theorem Sq(n:Nat):(zN (List.range n)).Pairwise (·<=·):=by
 unfold zN;rw[ui9];exact List.pairwise_lt_range.imp λh=>by lia
theorem VZ{xs ys:List Nat}:(zN xs).Perm (zN ys)↔xs.Perm ys:=by
 constructor
 .intro h;have:=h.map Int.toNat;unfold zN at this
  rwa [uq5,uq5,show(Int.toNat ∘ λk:Nat=>(k:Int))=id from funext λk=>uh8 k,ur2,ur2] at this
 .exact λh=>h.map _
theorem PK{xs:List Nat}:Du (zN xs)=zN (List.range n)↔xs.Perm (List.range n):=by
 rw[<-VZ];exact⟨λh=>(DT _).symm.trans (by rw[h]),λh=>Jp ((DT _).trans h) (HL _) (Sq n)⟩
def good(b:Bool)(kv:List (Str×Str))(ws vs:List (Str×Sh×Int))(p:Nat):Bool:=match fnd b kv ws vs p with
 |[q]=>wiS b ws vs (mkS b p q)
 |_=>false
def lnk(b:Bool)(kv:List (Str×Str))(ws vs:List (Str×Sh×Int)):Option (List (Nat×Nat)):=
 if (List.range (nS b ws vs)).all (good b kv ws vs)=true then some ((List.range (nS b ws vs)).map λp=>mkS b p ((fnd b kv ws vs p).headD 0)) else none
def rws(b:Bool)(kv:List (Str×Str))(ws vs:List (Str×Sh×Int)):Option (List (Nat×Nat)):=
 if Du (zN ((Bk kv ws vs).map (prS b)))=zN (List.range (nS b ws vs))/\(Bk kv ws vs).all (wiS b ws vs)=true then some (Bk kv ws vs) else none
theorem good_iff{p:Nat}:good b kv ws vs p=true↔∃q,fnd b kv ws vs p=[q]/\wiS b ws vs (mkS b p q)=true:=by
 unfold good;generalize fnd b kv ws vs p=l;constructor
 .intro h
  match l,h with
  |[q],h=>exact⟨q,rfl,h⟩
 .rintro⟨q,rfl,h⟩;exact h
theorem rows_iff:(Du (zN ((Bk kv ws vs).map (prS b)))=zN (List.range (nS b ws vs))/\(Bk kv ws vs).all (wiS b ws vs)=true)↔(List.range (nS b ws vs)).all (good b kv ws vs)=true:=by
 have hlt:∀x∈(Bk kv ws vs).map (prS b),x<nS b ws vs:=λx hx=>by
  clear 5(uq6.mp hx)y hy rfl;exact((Fj (b:=b)).mp hy).1
 rw[PK,ND hlt,uk3,uk3];constructor
 .rintro⟨h1,h2⟩ p hp;have hp:=un8.mp hp;have h:=h1 p hp;rw[On p hp] at h;clear 5(cH.mp h)q hq;refine good_iff.mpr ⟨q,hq,h2 _ ((Fj (b:=b)).mpr ?_)⟩;have:prS (!b) (mkS b p q)=q:=by cases b<;>rfl
  rw[GH,this,hq];exact⟨hp,ug9.mpr rfl⟩
 .intro h;refine⟨λp hp=>?_,λx hx=>?_⟩
  .obtain⟨q,hq,_⟩:=good_iff.mp (h p (un8.mpr hp));rw[On p hp,hq];rfl
  .clear 5((Fj (b:=b)).mp hx)h1 h2;clear 5(good_iff.mp (h _ (un8.mpr h1)))q hq hw;rw[hq,ug9] at h2;rw[IC (b:=b) x,h2];exact hw
theorem RB:rws b kv ws vs=none↔lnk b kv ws vs=none:=by
 unfold rws lnk
 by_cases h:(List.range (nS b ws vs)).all (good b kv ws vs)=true
 .rw[eB h,eB (rows_iff.mpr h)];simp
 .rw[eC h,eC λz=>h (rows_iff.mp z)]
set_option tactic.hygienic true in
theorem RC{x y:List (Nat×Nat)}(h1:rws b kv ws vs=some x)(h2:lnk b kv ws vs=some y):x.Perm y:=by
 unfold lnk at h2;unfold rws at h1
 split at h2
 .next h=>
  cases h2
  rw[eB (rows_iff.mpr h)] at h1
  cases h1
  rw[uk3] at h;rw[ua9 Nx]
  .intro z;rw[Fj (b:=b),uq6];constructor
   .rintro⟨h1,h2⟩;obtain⟨q,hq,_⟩:=good_iff.mp (h _ (un8.mpr h1));rw[hq,ug9] at h2;refine⟨_,un8.mpr h1,?_⟩;rw[hq];show mkS b _ q=z;rw[<-h2];exact(IC z).symm
   .rintro⟨p,hp,rfl⟩;obtain⟨q,hq,_⟩:=good_iff.mp (h p hp);have:prS (!b) (mkS b p q)=q:=by cases b<;>rfl
    rw[hq];refine(show prS b (mkS b p q)<_/\prS (!b) (mkS b p q)∈fnd b kv ws vs (prS b (mkS b p q)) from ?_);rw[GH,this,hq];exact⟨un8.mp hp,ug9.mpr rfl⟩
  .refine(ui9.mpr (ul3.imp ?_));intro p q n z;have:=dQ (prS b) z;rw[GH,GH] at this;exact n this
 .cases h2
end
def lft:Str:=Str.ofString "left"
def rwG(kv:List (Str×Str)):GS->GS->Option (List (Nat×Nat))
 |.fin,.fin=>some []
 |.st s ws,.st s' vs=>if s=s' then rws (decide (s=lft)) kv ws vs else none
 |_,_=>none
def lkG(kv:List (Str×Str)):GS->GS->Option (List (Nat×Nat))
 |.fin,.fin=>some []
 |.st s ws,.st s' vs=>if s=s' then lnk (decide (s=lft)) kv ws vs else none
 |_,_=>none
variable{kv:List (Str×Str)}
theorem U5:∀{x y:GS},rwG kv x y=none↔lkG kv x y=none
 |.fin,.fin=>by simp only[rwG,lkG]
 |.fin,.st _ _=>by simp only[rwG,lkG]
 |.st _ _,.fin=>by simp only[rwG,lkG]
 |.st s ws,.st s' vs=>by
   simp only[rwG,lkG]
   by_cases e:s=s'
   .rw[eB e,eB e];exact RB
   .rw[eC e,eC e]
theorem U6{a c:List (Nat×Nat)}:∀{x y:GS},rwG kv x y=some a->lkG kv x y=some c->a.Perm c
 |.fin,.fin,h1,h2=>by
   simp only[rwG,lkG] at h1 h2
   cases h1;cases h2;exact .refl _
 |.fin,.st _ _,h1,_=>by simp only[rwG] at h1;cases h1
 |.st _ _,.fin,h1,_=>by simp only[rwG] at h1;cases h1
 |.st s ws,.st s' vs,h1,h2=>by
   simp only[rwG,lkG] at h1 h2
   by_cases e:s=s'
   .rw[eB e] at h1 h2;exact RC h1 h2
   .rw[eC e] at h1;cases h1
section
variable(F:Nat×Nat->Option (List (Nat×Nat)))(nx:Nat×Nat->Nat×Nat->Nat×Nat)
inductive Rc72:Nat×Nat->Prop where
 |base:Rc72 (0,0)
 |step {p:Nat×Nat}{a:List (Nat×Nat)}{x:Nat×Nat}:Rc72 p->F p=some a->x∈a->Rc72 (nx p x)
def ZN(p x:Nat×Nat):List Int:=[(p.1:Int),(p.2:Int),(x.1:Int),(x.2:Int)]
def BE(P:List (Nat×Nat)):List (List Int):=P.flatMap λp=>((F p).getD []).map (ZN p)
def IS(o:Option (List (List Int))):Prop:=match o with
 |none=>∃p,Rc72 F nx p/\F p=none
 |some T=>∃P X,P.Nodup/\(∀p,p∈P↔Rc72 F nx p)/\(∀p∈P,F p≠none)/\X.Perm (BE F P)/\T=D3 X
end
section
variable{F G:Nat×Nat->Option (List (Nat×Nat))}{nx:Nat×Nat->Nat×Nat->Nat×Nat}
theorem Rc72.to(h0:∀p,F p=none↔G p=none)(h1:∀p a c,F p=some a->G p=some c->a.Perm c){p:Nat×Nat}(h:Rc72 F nx p):Rc72 G nx p:=by
 induction h with
 |base=>exact .base
 |@step p a x _ e m ih=>
   cases e2:G p with
   |none=>rw[(h0 p).mpr e2] at e;cases e
   |some c=>exact .step ih e2 ((h1 p a c e e2).mem_iff.mp m)
theorem PU(h0:∀p,F p=none↔G p=none)(h1:∀p a c,F p=some a->G p=some c->a.Perm c){o o':Option (List (List Int))}(h:IS F nx o)(h':IS G nx o'):o=o':=by
 have t1:∀p,Rc72 F nx p↔Rc72 G nx p:=λp=>⟨Rc72.to h0 h1,Rc72.to (λp=>(h0 p).symm) λp a c e1 e2=>(h1 p c a e2 e1).symm⟩;unfold IS at h h'
 cases o with
 |none=>
   clear 5 h p hp e
   cases o' with
   |none=>rfl
   |some T=>
     obtain⟨P,X,_,m,n,_,_⟩:=h';exact absurd ((h0 p).mp e) (n p ((m p).mpr ((t1 p).mp hp)))
 |some T=>
   clear 5 h P X d m n q rfl
   cases o' with
   |none=>
     clear 5 h' p hp e;exact absurd ((h0 p).mpr e) (n p ((m p).mpr ((t1 p).mpr hp)))
   |some T'=>
     clear 5 h' P' X' d' m' n' q' rfl;have hP:P.Perm P':=(ua9 d d').mpr λp=>by rw[m,m',t1]
     have e1:(BE F P).Perm (BE F P'):=hP.flatMap_right _;have e2:(BE F P').Perm (BE G P'):=by
      unfold BE;clear q q' hP e1 d d' m'
      induction P' with
      |nil=>exact .refl _
      |cons p r ih=>
        rw[uj1,uj1];refine List.Perm.append ?_ (ih λp hp=>n' p (ue3 _ hp))
        cases eg:G p with
        |none=>exact absurd eg (n' p ug5)
        |some c=>
          cases ef:F p with
          |none=>rw[(h0 p).mp ef] at eg;cases eg
          |some a=>exact(h1 p a c ef eg).map _
     rw[Vv (q.trans (e1.trans (e2.trans q'.symm)))]
end
variable{tst:M Bool}
theorem Jx{l:List α}{ι:α->D}{p:α->Bool}:∀{z:Option Sl},(∀a∈l,W tst ⟨vw (ι a)::fr,S⟩ λb t'=>b=p a/\t'=⟨vw (ι a)::fr,S⟩)->
 W (AQ (Aj 0) tst (Ab 0) (l.map ι)) ⟨z::fr,S⟩ λxs t'=>xs=(l.filter p).map ι/\t'.S=S:=by
 induction l with
 |nil=>exact λ_=>W_compL_nil.mpr ⟨rfl,rfl⟩
 |cons a r ih=>
   intro z h;rw[uo6,BW];refine CH ?_;refine(h a ug5).mono λb t' z9=>?_;clear 5 z9 e1 e2;subst e1 e2;have ih2:=ih (z:=vw (ι a)) λb hb=>h b (ue3 _ hb)
   cases e:p a with
   |true=>
     rw[eB rfl,cB e];refine Bp rfl ?_;exact ih2.mono λxs t' ⟨e1,e2⟩=>⟨by rw[e1];rfl,e2⟩
   |false=>
     rw[eC ug6,cC (by rw[e];exact ug6)];exact ih2
def LWi(f:Fn)(n:Nat):Prop:=EK f n
theorem L0{rs:List Sh}(h:ss.length<=rs.length):((List.range ss.length).filter λk=>!(AG (ss.getD k .nothing) (rs.getD k .nothing))).isEmpty=Ek ss rs:=by
 rw[<-E8 h,uq1,un3,List.isEmpty_iff,cI,uk3];constructor
 .intro z k hk;have:=z k hk;simpa using this
 .intro z k hk;have:=z k hk;simpa using this
set_option tactic.hygienic true in
theorem Nv{cm:Fn}(hm:FH cm)(hi:n=0\/LWi ci n):LWi (fnOf 2 2 (C6 ci cm)) (n+1):=by
 intro s r hd hs hr S;have hL:LIM=100000:=rfl;refine Ao rfl ?_;unfold C6;have rec_:∀{a b:Sh},a.depth<=n->wf a=true->wf b=true->Pure1 ci [a.d,b.d] (.bl (AG a b)):=λ{a b} h1 h2 h3=>by
  rcases hi with rfl|hi
  .exact absurd a.depth_pos ∅
  .exact hi a b h1 h2 h3
 have wid_:∀{lo hi:Int},lo<=hi->hi-lo<4000000000000000000->Pure1 cm [.int (hi-lo)] (.int (wid (hi-lo).toNat:Nat)):=λ{lo hi} h h2=>by
  have:=hm (hi-lo).toNat (by have:(256:Nat) ^ 9=4722366482869645213696:=(by decide);lia)
  rwa [ug1 ∅] at this
 by_cases hk:Be s=Be r
 .cases s with
  |nothing=>
    cases r<;>first|(simp[Be] at hk;done)|skip
    rw[Sh.d];right;exact⟨by rw[AG],rfl⟩
  |number l h=>
    cases r<;>first|(simp[Be] at hk;done)|skip
    rename_i l' h';simp only[wf,uj7,uj2] at hs hr;rw[Sh.d,Sh.d];right;rw[AG];refine DY (λz=>?_) λz=>?_
    .have z':l=l':=by simpa using z
     right;refine DY (λy=>?_) λy=>?_
     .have y':=uj3 y;right;rw[7,(wid_ hs.1.2 ∅).use];rw[7,(wid_ hr.1.2 ∅).use];refine⟨?_,rfl⟩;rw[uo3 z',y,dt,up2]
      congr 1
      rw[un3];simp only[id,dO];lia
     .exact⟨by rw[y];simp,rfl⟩
    .have z':¬l=l':=by simpa using z
     exact⟨by rw[un7 z'];simp,rfl⟩
  |text q=>
    cases r<;>first|(simp[Be] at hk;done)|skip
    rw[Sh.d,Sh.d];right;exact⟨by rw[AG],rfl⟩
  |list s q=>
    cases r<;>first|(simp[Be] at hk;done)|skip
    rename_i s' q';rw[Sh.depth] at hd;simp only[wf,uj7,uj2] at hs hr;rw[Sh.d,Sh.d];right;rw[AG];refine DY (λz=>?_) λz=>?_
    .right;refine DY (λy=>?_) λy=>?_
     .have y':q=0:=by simpa using y
      exact⟨by rw[z,uo3 y'];rfl,rfl⟩
     .have y':¬q=0:=by simpa using y
      right;refine(rec_ ∅ hs.2 hr.2).use ?_;exact⟨by rw[z,un7 y'];rfl,rfl⟩
    .exact⟨by rw[z];rfl,rfl⟩
  |pair a b=>
    cases r<;>first|(simp[Be] at hk;done)|skip
    rename_i a' b';rw[Sh.depth] at hd;simp only[wf,uj7] at hs hr;rw[Sh.d,Sh.d];right;rw[AG];rw[7,(rec_ ∅ hs.1 hr.1).use];refine DY (λz=>?_) λz=>?_
    .right;refine(rec_ ∅ hs.2 hr.2).use ?_;exact⟨by rw[z];rfl,rfl⟩
    .exact⟨by rw[z];rfl,rfl⟩
  |choice ss=>
    cases r<;>first|(simp[Be] at hk;done)|skip
    rename_i rs;rw[Sh.depth] at hd;simp only[wf,uj7,uj2] at hs hr;rw[Sh.d,Sh.d];right;rw[Ci,Ci,AG];refine DY (λz=>?_) λz=>?_
    .have z':¬ss.length<=rs.length:=by have:=uj3 z;lia
     right;exact⟨by rw[un7 z'];rfl,rfl⟩
    .have z':ss.length<=rs.length:=by have:=cS z;lia
     right;rw[Ci];refine DK (HJ ∅ ∅) ?_;rw[uh8];refine(Jx (l:=List.range ss.length) (ι:=λi:Nat=>D.int (0+(i:Int))) (p:=λk=>!(AG (ss.getD k .nothing) (rs.getD k .nothing))) (fr:=[vw (.tup [.str "choice",.tup (shD ss)]),vw (.tup [.str "choice",.tup (shD rs)])]) ?_).mono ?_
     .intro k hk;rw[un8] at hk;have hk2:k<rs.length:=by lia
      rw[dG];right;rw[7,HS (Ke hk)];rw[7,HS (Ke hk2)];rw[7,(rec_ (up6 (BU (uk6 hk)) ∅) (FA hs.2 _ (uk6 hk)) (FA hr.2 _ (uk6 hk2))).use];refine⟨?_,rfl⟩;rw[ua7,ub5 hk,ua7,ub5 hk2];rfl
     .rintro xs t' ⟨rfl,hS⟩;refine AM (by rw[um6,hL];exact up6 (ud5 _ _) (by rw[ui5];lia)) ?_;right;refine⟨?_,hS⟩;rw[uo3 z',up2,<-L0 z'];simp
 .clear 5(Ig s)ds e;clear 5(Ig r)es e';rw[e,e'];right;refine B1 (by rw[ui8,cL];exact λz=>hk (JL z)) ?_;right;exact⟨by rw[Hq hk],rfl⟩
local macro_rules | `(tactic| walk_at"y1")=>`(tactic| first
 |walk_at"w1" |clear 31 P6)
mutual
def wz:Sh->Bool
 |.nothing=>true
 |.number lo hi=>decide (-100000000000000000<lo)&&decide (lo<=hi)&&decide (hi<100000000000000000)
 |.text m=>decide (0<=m)&&decide (m<=250)
 |.list s m=>decide (0<=m)&&decide (m<=250)&&wz s
 |.pair s r=>wz s&&wz r
 |.choice ss=>decide (1<=ss.length)&&decide (ss.length<=3)&&wzs ss
def wzs:List Sh->Bool
 |[]=>true
 |s::r=>wz s&&wzs r
end
theorem P8:∀{ss:List Sh},(∀s∈ss,wz s=true)->wzs ss=true
 |[],_=>by rw[wzs]
 |s::r,h=>by rw[wzs,h s ug5,P8 λx m=>h x (ue3 _ m)];rfl
theorem He:∀{ss:List Sh},wzs ss=true->∀s∈ss,wz s=true
 |[],_,_,m=>by cases m
 |s::r,h,x,m=>by
   rw[wzs,uj7] at h;rcases uo5.mp m with rfl|m
   .exact h.1
   .exact He h.2 x m
theorem EV:∀(n:Nat){s:Sh},s.depth<=n->wz s=true->wf s=true
 |0,s,h,_=>absurd s.depth_pos ∅
 |n+1,s,hd,h=>by
   cases s with
   |nothing=>rfl
   |number l h'=>simp only[wz,wf,uj7,uj2] at h⊢;lia
   |text m=>exact h
   |list s m=>
     rw[Sh.depth] at hd;simp only[wz,wf,uj7] at h⊢;exact⟨h.1,EV n ∅ h.2⟩
   |pair a b=>
     rw[Sh.depth] at hd;simp only[wz,wf,uj7] at h⊢;exact⟨EV n ∅ h.1,EV n ∅ h.2⟩
   |choice ss=>
     rw[Sh.depth] at hd;simp only[wz,wf,uj7,uj2] at h⊢;exact⟨⟨h.1.1,by lia⟩,LM λx m=>EV n (up6 (BU m) ∅) (He h.2 x m)⟩
def BC(f:Fn)(n:Nat):Prop:=∀(d:Nat) (s:Sx) (r:Nat),d<n->SxB (r+cs d) s->∃(sh:Sh) (s':Sx),sh.depth<=d+1/\wz sh=true/\SxB r s'/\Dw f [.int (d:Nat)] s sh.d s'
theorem TC{s:Sh}(h:wz s=true):wz (IZ s)=true:=by
 cases s with
 |list s q=>
   rw[IZ];simp only[wz,uj7,uj2] at h⊢;refine⟨⟨?_,?_⟩,h.2⟩<;>(split<;>lia)
 |_=>exact h
theorem Ln{cr:Fn}{n e:Nat}(hr:BC cr n)(he:e<n):∀(m:Nat) (s:Sx) (r:Nat),SxB (r+m*cs e) s->∃(ss:List Sh) (s':Sx),ss.length=m/\(∀x∈ss,x.depth<=e+1/\wz x=true)/\SxB r s'/\∀(l:List D) (S:List Ob) (K:Nat) (z:Option Sl),l.length=m->K<S.length->L2.W (AQ (Aj 0) BL (Ag cr (Aa (Ab 1) (Aa (Ac (Ab 2) (bM 1) Cw) Ad))) l) ⟨[z,vw (.obj K),vw (.int ((e+1:Nat):Int))],S.set K (.dct s.l)⟩ λq t'=>q=ss.map Sh.d/\t'.S=S.set K (.dct s'.l)
 | 0,s,r,hs=>⟨[],s,rfl,(λ_ h=>nomatch h),hs.mono ∅,λl S K z hl hK=>by
   have:l=[]:=ua2 hl;subst this;exact W_compL_nil.mpr ⟨rfl,rfl⟩⟩
 |m+1,s,r,hs=>by
   clear 5(hr e s (r+m*cs e) he (hs.mono (by rw[Nat.succ_mul];lia)))sh s1 h1 h2 b1 d1;clear 5(Ln hr he m s1 r b1)ss s2 g1 g2 b2 d2;refine⟨sh::ss,s2,by rw[uj8,g1],λx hx=>?_,b2,λl S K z hl hK=>?_⟩
   .rcases uo5.mp hx with rfl|hx
    .exact⟨h1,h2⟩
    .exact g2 x hx
   cases l with
   |nil=>cases hl
   |cons d l=>
     rw[BW];refine CH (Ju ?_);rw[eB rfl];symm;rw[show((e+1:Nat):Int)-1=(e:Nat) by lia];rw[6,d1.use hK];refine(d2 l S K _ (Nat.succ.inj hl) hK).mono λq t' z9=>?_;clear 5 z9 e1 e2;subst e1;exact⟨rfl,e2⟩
variable{ct cr:Fn}
theorem PJ(ht:Bt ct)(hr:n=0\/BC cr n):BC (fnOf 2 5 (AT ct cr)) (n+1):=by
 intro d s r hd p0;have hcs:=Yg d;clear 5(ht s (if d=0 then 3 else 6) (r+(cs d-1)) (p0.mono ∅) (by split<;>decide) (by split<;>decide))i s1 i0 i1 b1 d1;have hm:(3:Int)+3*(if decide ((0:Int)<(d:Int))=true then 1 else 0)=if d=0 then 3 else 6:=by
  by_cases z:d=0
  .subst z;rfl
  .rw[eC z,eB (uo3 ∅)];rfl
 by_cases k0:i=0
 .subst k0;refine⟨.nothing,s1,by show 1<=_;lia,rfl,b1.mono ∅,λS K hK=>?_⟩;rw[9,AT];rw[6,DP (CF (by decide) (by decide))];rw[hm];rw[6,d1.use hK];exact⟨by rw[Sh.d],rfl⟩
 by_cases k1:i=1
 .subst k1;clear 5(ht s1 9 (r + 8) (b1.mono ∅) (by decide) (by decide))a s2 a0 a1 b2 d2;clear 5(ht s2 10000000000000000 (r + 7) b2 (by decide) (by decide))b s3 c0 c1 b3 d3;clear 5(ht s3 3 (r + 6) b3 (by decide) (by decide))g s4 z0 z1 b4 d4;clear 5(ht s4 10000000000000000 (r + 5) b4 (by decide) (by decide))x s5 x0 x1 b5 d5;clear 5(ht s5 7 (r + 4) b5 (by decide) (by decide))h s6 h0 h1 b6 d6;obtain ⟨dd,ed,lo,rfl,l0,l1⟩:=E4 (xs:=[D.int 0,D.int (a - 4),D.int (b - 1000000000000000)]) z0 (by simpa using z1) (p:=λd=>∃m:Int,d = .int m/\-1000000000000000<=m/\m<=10000000000000000) (by
   simp only[uf5];exact⟨⟨_,rfl,by decide,by decide⟩,⟨_,rfl,by lia,by lia⟩,⟨_,rfl,by lia,by lia⟩,λ_ z=>nomatch z⟩)
  obtain⟨dd,ed2,hi,rfl,m0,m1⟩:=E4 (xs:=[D.int 0,D.int 1,D.int 200,D.int 255,D.int 256,D.int 70000,D.int x]) h0 (by simpa using h1) (p:=λd=>∃m:Int,d=.int m/\0<=m/\m<=10000000000000000) (by
   simp only[uf5];exact⟨⟨_,rfl,by decide,by decide⟩,⟨_,rfl,by decide,by decide⟩,⟨_,rfl,by decide,by decide⟩,⟨_,rfl,by decide,by decide⟩,⟨_,rfl,by decide,by decide⟩,⟨_,rfl,by decide,by decide⟩,⟨_,rfl,by lia,by lia⟩,λ_ z=>nomatch z⟩)
  refine⟨.number lo (lo+hi),s6,by show 1<=_;lia,?_,b6.mono ∅,λS K hK=>?_⟩
  .simp only[wz,uj7,uj2];lia
  rw[9,AT];rw[6,DP (CF (by decide) (by decide))];rw[hm];rw[6,d1.use hK];rw[6,d2.use hK];rw[6,d3.use hK];refine d4.use hK ?_;have e15:(10:Int) ^ (15:Int).toNat=1000000000000000:=by decide
  rw[e15];rw[6,AC ed];rw[6,d5.use hK];refine d6.use hK ?_;rw[6,AC ed2];exact⟨by rw[Sh.d],rfl⟩
 by_cases k2:i=2
 .subst k2;clear 5(ht s1 4 (r + 8) (b1.mono ∅) (by decide) (by decide))g s2 z0 z1 b2 d2;obtain ⟨dd,ed,m,rfl,m0,m1⟩:=E4 (xs:=[D.int 0,D.int 1,D.int 5,D.int 250]) z0 (by simpa using z1) (p:=λd=>∃m:Int,d = .int m/\0<=m/\m<=250) (by
   simp only[uf5];exact⟨⟨_,rfl,by decide,by decide⟩,⟨_,rfl,by decide,by decide⟩,⟨_,rfl,by decide,by decide⟩,⟨_,rfl,by decide,by decide⟩,λ_ z=>nomatch z⟩)
  refine⟨.text m,s2,by show 1<=_;lia,?_,b2.mono ∅,λS K hK=>?_⟩
  .simp only[wz,uj7,uj2];exact⟨m0,m1⟩
  rw[9,AT];rw[6,DP (CF (by decide) (by decide))];rw[hm];rw[6,d1.use hK];refine d2.use hK ?_;rw[6,AC ed];exact⟨by rw[Sh.d],rfl⟩
 obtain⟨e,rfl⟩:∃e,d=e+1:=⟨d-1,by
  have:¬d=0:=λz=>by rw[eB z] at i1;lia
  lia⟩
 rw[eC (show ¬e+1=0 by lia)] at i1 d1 hm;have hrr:BC cr n:=hr.resolve_left ∅;have hen:e<n:=by lia
 have hce:cs (e+1)=10+3*cs e:=rfl;have he1:((e+1:Nat):Int)-1=(e:Nat):=by lia
 by_cases k3:i=3
 .subst k3;clear 5(hrr e s1 (r + 5) hen (b1.mono ∅))sh s2 hdp hwf b2 d2;clear 5(ht s2 4 (r + 4) b2 (by decide) (by decide))g s3 z0 z1 b3 d3;obtain ⟨dd,ed,m,rfl,m0,m1⟩:=E4 (xs:=[D.int 0,D.int 2,D.int 6,D.int 250]) z0 (by simpa using z1) (p:=λd=>∃m:Int,d = .int m/\0<=m/\m<=250) (by
   simp only[uf5];exact⟨⟨_,rfl,by decide,by decide⟩,⟨_,rfl,by decide,by decide⟩,⟨_,rfl,by decide,by decide⟩,⟨_,rfl,by decide,by decide⟩,λ_ z=>nomatch z⟩)
  refine⟨.list (IZ sh) m,s3,?_,?_,b3.mono ∅,λS K hK=>?_⟩
  .rw[Sh.depth,Ng];lia
  .simp only[wz,uj7,uj2];exact⟨⟨m0,m1⟩,TC hwf⟩
  rw[9,AT];rw[6,DP (CF (by decide) (by decide))];rw[hm];rw[6,d1.use hK];rw[he1];refine d2.use hK ?_
  cases sh with
  |list s0 q=>
    rw[Sh.d];symm;refine d3.use hK ?_;rw[6,AC ed];exact⟨by simp only[IZ,Sh.d],rfl⟩
  |_=>
    rw[Sh.d];symm;refine d3.use hK ?_;rw[6,AC ed];exact⟨by simp only[IZ,Sh.d],rfl⟩
 by_cases k4:i=4
 .subst k4;clear 5(hrr e s1 (r+cs e) hen (b1.mono ∅))sh s2 hdp hwf b2 d2;clear 5(hrr e s2 r hen b2)sh3 s3 hdp3 hwf3 b3 d3;refine⟨.pair sh sh3,s3,?_,?_,b3,λS K hK=>?_⟩
  .rw[Sh.depth];lia
  .simp only[wz,uj7];exact⟨hwf,hwf3⟩
  rw[9,AT];rw[6,DP (CF (by decide) (by decide))];rw[hm];rw[6,d1.use hK];rw[he1];rw[6,d2.use hK];rw[he1];rw[6,d3.use hK];exact⟨by rw[Sh.d],rfl⟩
 have k5:i=5:=by lia
 subst k5;clear 5(ht s1 3 (r+3*cs e) (b1.mono ∅) (by decide) (by decide))g s2 z0 z1 b2 d2;clear 5(uc2 z0)g rfl;clear 5(Ln hrr hen (1+g) s2 r (b2.mono (by have:(1+g)*cs e<=3*cs e:=Nat.mul_le_mul_right _ ∅;lia)))ss s3 hsl hs1 b3 d3;refine⟨.choice ss,s3,?_,?_,b3,λS K hK=>?_⟩
 .exact Zw λx hx=>(hs1 x hx).1
 .simp only[wz,uj7,uj2];exact⟨⟨by lia,by lia⟩,P8 λx hx=>(hs1 x hx).2⟩
 rw[9,AT];rw[6,DP (CF (by decide) (by decide))];rw[hm];rw[6,d1.use hK];rw[6,d2.use hK];refine DK (by simp[small];lia) ?_;refine(d3 (By 0 (1+(g:Int)).toNat) S K none (by unfold By;rw[um6,ui5];lia) hK).mono λq t' z9=>?_;clear 5 z9 e1 e2;subst e1;refine AM (by rw[um6,hsl];show _<=100000;lia) ?_;symm;refine⟨?_,e2⟩;rw[Sh.d,Lq]
noncomputable def nm14:List Str:=[Str.ofString "a",Str.ofString "ab",Str.ofString "b",Str.ofString "ba",Str.ofString "abc",Str.ofString "zz",Str.ofString "hello",Str.ofString "x",Str.ofString "quit",Str.ofString "go",Str.ofString "abcdefgh",Str.ofString "c",Str.ofString "no",Str.ofString "abcdefgi"]
def EC(o k:Nat):Str:=nm14.getD ((o+3*k)%14) (Str.ofString "a")
theorem QZ(o k:Nat):(EC o k).length<=90000:=by
 have h:∀i:Fin 14,(nm14.getD i.val (Str.ofString "a")).length<=90000:=by decide +kernel
 exact h ⟨(o+3*k)%14,ur3 _ (by decide)⟩
structure GZN(n:Int)(x:GS):Prop where
 ok:GSOk n x
 nm:∀w∈x.ws,w.1∈nm14
 wz:∀w∈x.ws,wz w.2.1=true
theorem Uy(o k:Nat):EC o k∈nm14:=by
 have h:∀i:Fin 14,nm14.getD i.val (Str.ofString "a")∈nm14:=by decide +kernel
 exact h ⟨(o+3*k)%14,ur3 _ (by decide)⟩
theorem Uz{o m:Nat}(ho:o<14)(hm:m<=9):((List.range m).map (EC o)).Nodup:=by
 have h:∀i:Fin 14,((List.range 9).map (EC i.val)).Nodup:=by decide +kernel
 have e:(List.range m).map (EC o)=((List.range 9).map (EC o)).take m:=by
  rw[<-uo9,List.take_range,un4 hm]
 rw[e];exact(h ⟨o,ho⟩).sublist (uh7 _ _)
theorem Ux(o k:Nat):atI (nm14.map D.str) (((o:Int)+3*(k:Int))%14)=some (.str (EC o k)):=by
 have e:(((o:Int)+3*(k:Int))%14)=(((o+3*k)%14:Nat):Int):=by lia
 have hl:(nm14.map D.str).length=14:=by decide
 have hk:(o+3*k)%14<14:=ur3 _ (by decide);rw[e];unfold atI;rw[BG ∅ (by rw[hl];lia)];show(nm14.map D.str)[(((o+3*k)%14:Nat):Int).toNat]?=_;rw[uh8,uh6];unfold EC;rw[ua7,ub5 (show(o+3*k)%14<nm14.length from hk)];rfl
variable{cd cs0:Fn}
theorem VY(hd:Bt cd)(hs:BC cs0 3){many h:Int}{o k:Nat}(m0:1<=many)(m1:many<=30)(h0:0<=h)(h1:h<many)(hk:k<=9)(s:Sx)(r:Nat)(b:SxB (r+200) s):∃(w:Str×Sh×Int) (s':Sx),w.1=EC o k/\(WOk many w/\LW.wz w.2.1=true)/\SxB r s'/\∀(a0 a1 a4 a7 e11:Option Sl) (acc:List D) (S:List Ob) (K:Nat),acc.length<=9->K<S.length->
 L2.W (wdZ cd cs0) ⟨[a0,a1,vw (.int many),vw (.lst (nm14.map D.str)),a4,vw (.int h),vw (.obj K),a7,vw (.int (o:Nat)),some (.own acc),vw (.int (k:Nat)),e11],S.set K (.dct s.l)⟩ λout t=>out=.next/\∃f11,t=⟨[a0,a1,vw (.int many),vw (.lst (nm14.map D.str)),a4,vw (.int h),vw (.obj K),a7,vw (.int (o:Nat)),some (.own (acc++[wdD w])),vw (.int (k:Nat)),f11],S.set K (.dct s'.l)⟩:=by
 have hL:LIM=100000:=rfl;clear 5(hd s many (r+199) b ∅ ∅)x s1 x0 x1 b1 d1;clear 5(hd s1 2 (r+198) b1 (by decide) (by decide))y s2 y0 y1 b2 d2;clear 5(hd s2 3 (r+197) b2 (by decide) (by decide))z s3 z0 z1 b3 d3;clear 5(uc2 z0)z rfl;have hz:z<3:=by lia
 have hcs:cs z<=130:=by
  have:z=0\/z=1\/z=2:=by lia
  rcases this with rfl|rfl|rfl<;>decide
 clear 5(hs z s3 r hz (b3.mono ∅))sh s4 g1 g2 b4 d4;obtain⟨dd,ed,th,rfl,t0,t1⟩:=E4 (xs:=[D.int (if h+1<many-1 then h+1 else many-1),D.int x]) y0 (by simpa using y1) (p:=λd=>∃m:Int,d=.int m/\0<=m/\m<many) (by
  simp only[uf5];exact⟨⟨_,rfl,by split<;>lia,by split<;>lia⟩,⟨_,rfl,x0,x1⟩,λ_ z=>nomatch z⟩)
 refine⟨(EC o k,sh,th),s4,rfl,⟨⟨EV 9 (by dsimp only;lia) g2,by dsimp only;lia,t0,t1,QZ o k⟩,g2⟩,b4,λa0 a1 a4 a7 e11 acc S K hacc hK=>?_⟩;unfold wdZ;symm;rw[6,d1.use hK];refine d2.use hK ?_;rw[6,AC ed];rw[6,DP (CF (by decide) (by decide))];rw[6,AC (Ux o k)];rw[6,d3.use hK];rw[6,d4.use hK];refine AM ∅ ?_;exact⟨rfl,_,rfl⟩
theorem MF{cd cs0:Fn}(hd:Bt cd)(hs:BC cs0 3){many h:Int}{o:Nat}(m0:1<=many)(m1:many<=30)(h0:0<=h)(h1:h<many):∀(l:List Nat) (s:Sx) (r:Nat),(∀k∈l,k<=9)->SxB (r+200*l.length) s->∃(ws:List (Str×Sh×Int)) (s':Sx),ws.map (·.1)=l.map (EC o)/\(∀w∈ws,WOk many w/\LW.wz w.2.1=true)/\SxB r s'/\∀(a0 a1 a4 a7 e10 e11:Option Sl) (acc:List D) (S:List Ob) (K:Nat),acc.length+l.length<=9->K<S.length->
 L2.W (A1 (Aj 10) (wdZ cd cs0) (l.map λk:Nat=>D.int (k:Int))) ⟨[a0,a1,vw (.int many),vw (.lst (nm14.map D.str)),a4,vw (.int h),vw (.obj K),a7,vw (.int (o:Nat)),some (.own acc),e10,e11],S.set K (.dct s.l)⟩ λout t=>out=.next/\∃f10 f11,t=⟨[a0,a1,vw (.int many),vw (.lst (nm14.map D.str)),a4,vw (.int h),vw (.obj K),a7,vw (.int (o:Nat)),some (.own (acc++ws.map wdD)),f10,f11],S.set K (.dct s'.l)⟩
 |[],s,r,hk,b=>⟨[],s,rfl,(λ_ h=>nomatch h),b,λa0 a1 a4 a7 e10 e11 acc S K _ _=>W_forL_nil.mpr ⟨rfl,_,_,by rw[up9,um3]⟩⟩
 |k::l,s,r,hk,b=>by
   rw[uj8] at b;clear 5(VY (o:=o) (k:=k) hd hs m0 m1 h0 h1 (hk k ug5) s (r+200*l.length) (b.mono ∅))w s1 w1 w2 b1 d1;clear 5(MF (o:=o) hd hs m0 m1 h0 h1 l s1 r (λj hj=>hk j (ue3 _ hj)) b1)ws s2 g1 g2 b2 d2;refine⟨w::ws,s2,by rw[uo6,uo6,w1,g1],λx hx=>?_,b2,λa0 a1 a4 a7 e10 e11 acc S K hl hK=>?_⟩
   .rcases uo5.mp hx with rfl|hx
    .exact w2
    .exact g2 x hx
   rw[uj8] at hl;rw[uo6,W_forL_cons];refine CH ?_;refine(d1 a0 a1 a4 a7 e11 acc S K ∅ hK).mono λout t z9=>?_;clear 5 z9 e1 f11 e2;subst e1 e2;refine(d2 a0 a1 a4 a7 _ _ (acc++[wdD w]) S K (by rw[ug7,ud3];lia) hK).mono λout t z9=>?_;clear 5 z9 e1 f10 f11 e2;refine⟨e1,f10,f11,?_⟩;rw[e2,ui0];rfl
def stZ(Ae Au:Fn):M Out:=
 (Ah (Am 7 (Ac (Al (Av (Aa (fC (.str "left")) (Aa (fC (.str "right")) Ad)))) (Ag Ae (Aa (Ab 6) (Aa (bM 2) Ad))) ixD))
 (Ah (Am 8 (Ag Ae (Aa (Ab 6) (Aa (bM 14) Ad))))
 (Ah (CG 9 (Av Ad))
 (Ah (Ba (B2 (Aa (Ac (Al (Av (Aa (bM 1) (Aa (bM 2) (Aa (bM 3) (Aa (bM 9) Ad)))))) (Ag Ae (Aa (Ab 6) (Aa (bM 4) Ad))) ixD) Ad)) (Aj 10) (wdZ Ae Au))
 (ownM 4 AZ (Aa (As (Aa (Ab 7) (Aa (Ab 9) Ad))) Ad))))))
theorem MO(hd:Bt cd)(hs:BC cs0 3){many h:Int}(m0:1<=many)(m1:many<=30)(h0:0<=h)(h1:h<many)(s:Sx)(b:SxB 3000 s):∃(x:GS) (s':Sx),GZN many x/\∀(a0 a1 e7 e8 e9 e10 e11:Option Sl) (acc:List D) (S:List Ob) (K:Nat),acc.length<=30->K<S.length->
 L2.W (stZ cd cs0) ⟨[a0,a1,vw (.int many),vw (.lst (nm14.map D.str)),some (.own acc),vw (.int h),vw (.obj K),e7,e8,e9,e10,e11],S.set K (.dct s.l)⟩ λout t=>out=.next/\XN5 λf7 f8 f9 f10 f11=>t=⟨[a0,a1,vw (.int many),vw (.lst (nm14.map D.str)),some (.own (acc++[x.d])),vw (.int h),vw (.obj K),f7,f8,f9,f10,f11],S.set K (.dct s'.l)⟩:=by
 have hL:LIM=100000:=rfl;clear 5(hd s 2 2999 b ∅ ∅)x s1 x0 x1 b1 d1;clear 5(hd s1 14 2998 b1 (by decide) (by decide))o s2 o0 o1 b2 d2;clear 5(hd s2 4 2997 b2 (by decide) (by decide))z s3 z0 z1 b3 d3;clear 5(uc2 o0)o rfl;obtain⟨dd,ed,side,rfl,hside⟩:=E4 (xs:=[D.str (Str.ofString "left"),D.str (Str.ofString "right")]) x0 (by simpa using x1) (p:=λd=>∃m:Str,d=.str m/\(m=Str.ofString "left"\/m=Str.ofString "right")) (by
  simp only[uf5];exact⟨⟨_,rfl,.inl rfl⟩,⟨_,rfl,.inr rfl⟩,λ_ z=>nomatch z⟩)
 obtain⟨dd,ed2,n,rfl,n0,n1⟩:=E4 (xs:=[D.int 1,D.int 2,D.int 3,D.int 9]) z0 (by simpa using z1) (p:=λd=>∃m:Nat,d=.int (m:Nat)/\1<=m/\m<=9) (by
  simp only[uf5];exact⟨⟨1,rfl,by decide,by decide⟩,⟨2,rfl,by decide,by decide⟩,⟨3,rfl,by decide,by decide⟩,⟨9,rfl,by decide,by decide⟩,λ_ z=>nomatch z⟩)
 clear 5(MF (o:=o) hd hs m0 m1 h0 h1 (List.range n) s3 0 (λk hk=>by have:=un8.mp hk;lia) (b3.mono (by rw[ui5];lia)))ws s4 w1 w2 b4 d4;have wl:ws.length=n:=by have:=dQ List.length w1;rwa [um6,um6,ui5] at this
 have hnm:∀w∈ws,w.1∈nm14:=λw hw=>by
  have:w.1∈ws.map (·.1):=ug3 hw;rw[w1] at this;obtain⟨k,_,ek⟩:=uq6.mp this;rw[<-ek];exact Uy o k
 refine⟨.st side ws,s4,⟨.st hside ∅ ∅ (by rw[w1];exact Uz ∅ n1) λw hw=>(w2 w hw).1,hnm,λw hw=>(w2 w hw).2⟩,λa0 a1 e7 e8 e9 e10 e11 acc S K hacc hK=>?_⟩;unfold stZ;symm;refine d1.use hK ?_;rw[6,AC ed];rw[6,d2.use hK];refine d3.use hK ?_;rw[6,AC ed2];refine DK (CB (m:=9) n1) ?_;rw[show By 0 ((n:Int)).toNat=(List.range n).map λi:Nat=>D.int (i:Int) by unfold By;simp];refine(d4 a0 a1 _ _ _ _ [] S K (by rw[ui5,un0];lia) hK).mono λout t z9=>?_;clear 5 z9 e1 f10 f11 e2;subst e1 e2;symm;refine AM ∅ ?_;exact⟨rfl,_,_,_,_,_,rfl⟩
theorem CV:S++[o]=(S++[Ob.dct []]).set S.length o:=by
 rw[ue1 _ _ (uq9 _),uq4];rfl
theorem Dk:S.length<(S++[o]).length:=by rw[ug7,ud3];lia
def gZ(Ae Au AV:Fn):M Out:=
 (Ah (Am 6 (Ag AV (Aa (Ab 0) (Aa (Ac (Ab 1) (Ab 5) Aw) Ad))))
 (ifS (DW (Ai (Ac (Ag Ae (Aa (Ab 6) (Aa (bM 6) Ad))) (bM 1) (eqS id))) (fOr (Ai (Ac (Ab 5) (bM 0) gtA)) (Ai (Ac (Ag Ae (Aa (Ab 6) (Aa (bM 4) Ad))) (bM 1) (eqS id)))))
   (ownM 4 AZ (Aa (As (Aa (fC (.str "end")) Ad)) Ad))
   (stZ Ae Au)))
theorem Ug(hd:Bt cd)(hs:BC cs0 3)(ht:DQ ct){ns:List Int}{start many h:Nat}(hn:ns.length<=63)(m0:1<=many)(m1:many<=30)(h1:h<many)(hst:start<=900):∃(x:GS) (s':Sx),GZN (many:Nat) x/\∀(e6 e7 e8 e9 e10 e11:Option Sl) (acc:List D) (S:List Ob),acc.length<=30->
 L2.W (gZ cd cs0 ct) ⟨[vw (.scr ns),vw (.int (start:Nat)),vw (.int (many:Nat)),vw (.lst (nm14.map D.str)),some (.own acc),vw (.int (h:Nat)),e6,e7,e8,e9,e10,e11],S⟩ λout t=>out=.next/\XN6 λf6 f7 f8 f9 f10 f11=>t=⟨[vw (.scr ns),vw (.int (start:Nat)),vw (.int (many:Nat)),vw (.lst (nm14.map D.str)),some (.own (acc++[x.d])),vw (.int (h:Nat)),f6,f7,f8,f9,f10,f11],S++[.dct s'.l]⟩:=by
 have hL:LIM=100000:=rfl;clear 5(ht ns (start+h) hn ∅)s b d;have e0:(start:Int)+(h:Int)=((start+h:Nat):Int):=by lia
 clear 5(hd s 6 3001 (b.mono ∅) (by decide) (by decide))x s1 x0 x1 b1 d1
 by_cases k1:x=1
 .subst k1
  by_cases k2:0<h
  .refine⟨.fin,s1,⟨.fin,(λ_ h=>nomatch h),(λ_ h=>nomatch h)⟩,λe6 e7 e8 e9 e10 e11 acc S hacc=>?_⟩;unfold gZ;symm;rw[e0];refine(d S).mono λq S' z9=>?_;clear 5 z9 q1 q2;subst q1 q2;rw[CV (o:=.dct s.l)];symm;rw[6,d1.use Dk];rw[6,B1 (uo3 ∅)];refine AM ∅ ?_;rw[<-CV (o:=.dct s1.l)];exact⟨rfl,_,_,_,_,_,_,rfl⟩
  .have k2:h=0:=by lia
   subst k2;clear 5(hd s1 4 3000 b1 (by decide) (by decide))y s2 y0 y1 b2 d2
   by_cases k3:y=1
   .subst k3;refine⟨.fin,s2,⟨.fin,(λ_ h=>nomatch h),(λ_ h=>nomatch h)⟩,λe6 e7 e8 e9 e10 e11 acc S hacc=>?_⟩;unfold gZ;symm;rw[e0];refine(d S).mono λq S' z9=>?_;clear 5 z9 q1 q2;subst q1 q2;rw[CV (o:=.dct s.l)];symm;rw[6,d1.use Dk];rw[6,d2.use Dk];refine AM ∅ ?_;rw[<-CV (o:=.dct s2.l)];exact⟨rfl,_,_,_,_,_,_,rfl⟩
   .clear 5(MO hd hs (many:=(many:Nat)) (h:=((0:Nat):Int)) ∅ ∅ ∅ ∅ s2 b2)g s3 g1 d3;refine⟨g,s3,g1,λe6 e7 e8 e9 e10 e11 acc S hacc=>?_⟩;unfold gZ;symm;rw[e0];refine(d S).mono λq S' z9=>?_;clear 5 z9 q1 q2;subst q1 q2;rw[CV (o:=.dct s.l)];symm;rw[6,d1.use Dk];rw[6,d2.use Dk];rw[6,BZ (cL.mpr k3)];refine(d3 _ _ _ _ _ _ _ acc _ S.length hacc Dk).mono λout t z9=>?_;clear 5 z9 q1 f7 f8 f9 f10 f11 q2;subst q1 q2;rw[<-CV (o:=.dct s3.l)];exact⟨rfl,_,_,_,_,_,_,rfl⟩
 .clear 5(MO hd hs (many:=(many:Nat)) (h:=(h:Nat)) ∅ ∅ ∅ ∅ s1 (b1.mono ∅))g s3 g1 d3;refine⟨g,s3,g1,λe6 e7 e8 e9 e10 e11 acc S hacc=>?_⟩;unfold gZ;symm;rw[e0];refine(d S).mono λq S' z9=>?_;clear 5 z9 q1 q2;subst q1 q2;rw[CV (o:=.dct s.l)];symm;rw[6,d1.use Dk];rw[6,BZ (cL.mpr k1)];refine(d3 _ _ _ _ _ _ _ acc _ S.length hacc Dk).mono λout t z9=>?_;clear 5 z9 q1 f7 f8 f9 f10 f11 q2;subst q1 q2;rw[<-CV (o:=.dct s3.l)];exact⟨rfl,_,_,_,_,_,_,rfl⟩
theorem ME{cd cs0 ct:Fn}(hd:Bt cd)(hs:BC cs0 3)(ht:DQ ct){ns:List Int}{start many:Nat}(hn:ns.length<=63)(m0:1<=many)(m1:many<=30)(hst:start<=900):∀(l:List Nat),(∀h∈l,h<many)->∃(g:List GS) (os:List Ob),g.length=l.length/\(∀x∈g,GZN (many:Nat) x)/\∀(e5 e6 e7 e8 e9 e10 e11:Option Sl) (acc:List D) (S:List Ob),acc.length+l.length<=30->
 L2.W (A1 (Aj 5) (gZ cd cs0 ct) (l.map λk:Nat=>D.int (k:Int))) ⟨[vw (.scr ns),vw (.int (start:Nat)),vw (.int (many:Nat)),vw (.lst (nm14.map D.str)),some (.own acc),e5,e6,e7,e8,e9,e10,e11],S⟩ λout t=>out=.next/\XN7 λf5 f6 f7 f8 f9 f10 f11=>t=⟨[vw (.scr ns),vw (.int (start:Nat)),vw (.int (many:Nat)),vw (.lst (nm14.map D.str)),some (.own (acc++g.map GS.d)),f5,f6,f7,f8,f9,f10,f11],S++os⟩
 |[],_=>⟨[],[],rfl,(λ_ h=>nomatch h),λe5 e6 e7 e8 e9 e10 e11 acc S _=>W_forL_nil.mpr ⟨rfl,_,_,_,_,_,_,_,by rw[up9,um3,um3]⟩⟩
 |h::l,hl=>by
   clear 5(Ug hd hs ht hn m0 m1 (hl h ug5) hst)x s1 x1 d1;obtain⟨g,os,g1,g2,d2⟩:=ME hd hs ht hn m0 m1 hst l λj hj=>hl j (ue3 _ hj);refine⟨x::g,.dct s1.l::os,by rw[uj8,uj8,g1],λy hy=>?_,λe5 e6 e7 e8 e9 e10 e11 acc S hacc=>?_⟩
   .rcases uo5.mp hy with rfl|hy
    .exact x1
    .exact g2 y hy
   rw[uj8] at hacc;rw[uo6,W_forL_cons];refine CH ?_;refine(d1 _ _ _ _ _ _ acc S ∅).mono λout t z9=>?_;clear 5 z9 q1 f6 f7 f8 f9 f10 f11 q2;subst q1 q2;refine(d2 _ _ _ _ _ _ _ (acc++[x.d]) (S++[.dct s1.l]) (by rw[ug7,ud3];lia)).mono λout t h2=>?_;clear 5 h2 q1 f5 f6 f7 f8 f9 f10 f11 q2;refine⟨q1,f5,f6,f7,f8,f9,f10,f11,?_⟩;rw[q2,ui0,ui0];rfl
structure GZ7(n:Nat)(g:List GS):Prop where
 len:g.length=n
 ok:∀x∈g,GZN (n:Nat) x
def Qa(f:Fn):Prop:=∀(ns:List Int) (start many:Nat),ns.length<=63->1<=many->many<=30->start<=900->∃(g:List GS) (os:List Ob),GZ7 many g/\∀S:List Ob,Wf f [.scr ns,.int (start:Nat),.int (many:Nat)] S λq S'=>q=.lst (g.map GS.d)/\S'=S++os
theorem Mn(hd:Bt cd)(hs:BC cs0 3)(ht:DQ ct):Qa (fnOf 3 12 (CQ cd cs0 ct)):=by
 intro ns start many hn m0 m1 hst;obtain⟨g,os,g1,g2,d⟩:=ME hd hs ht hn m0 m1 hst (List.range many) λh hh=>un8.mp hh;rw[ui5] at g1;refine⟨g,os,⟨g1,g2⟩,λS=>?_⟩;rw[9,CQ];refine DK (CB (m:=30) m1) ?_;rw[show By 0 ((many:Int)).toNat=(List.range many).map λi:Nat=>D.int (i:Int) by unfold By;simp];refine(d none none none none none none none [] S (by rw[ui5,un0];lia)).mono λout t z9=>?_;clear 5 z9 e1 f5 f6 f7 f8 f9 f10 f11 e2;subst e1 e2;symm;exact⟨rfl,rfl⟩
theorem Ky{n:Nat}:∀{ss:List Sh},(∀s∈ss,cnt s<=n)->Es ss<=ss.length*n
 |[],_=>by simp[Es]
 |s::r,h=>by
   have h1:=h s ug5;have h2:=Ky λx m=>h x (ue3 _ m);rw[Es,uj8,Nat.add_mul];lia
theorem Gb:∀(n:Nat){s:Sh},s.depth<=n->wz s=true->cnt s<=4 ^ n
 |0,s,h,_=>absurd s.depth_pos ∅
 |n+1,s,hd,h=>by
   have hp:0<4 ^ n:=Nat.pow_pos (by decide);rw[uq7]
   cases s with
   |nothing=>simp only[cnt];lia
   |number l h'=>simp only[cnt];lia
   |text m=>simp only[cnt];lia
   |list s m=>
     rw[Sh.depth] at hd;simp only[wz,uj7] at h;have:=Gb n (s:=s) ∅ h.2;rw[cnt];lia
   |pair a b=>
     rw[Sh.depth] at hd;simp only[wz,uj7] at h;have:=Gb n (s:=a) ∅ h.1;have:=Gb n (s:=b) ∅ h.2;rw[cnt];lia
   |choice ss=>
     rw[Sh.depth] at hd;simp only[wz,uj7,uj2] at h;have h1:=Ky (n:=4 ^ n) λx (m:x∈ss)=>Gb n (up6 (BU m) ∅) (He h.2 x m);have h2:ss.length*4 ^ n<=3*4 ^ n:=Nat.mul_le_mul_right _ h.1.2;rw[cnt];lia
def EL(f:Fn)(n:Nat):Prop:=∀(sh:Sh) (s:Sx) (r:Nat),sh.depth<=n->wz sh=true->SxB (r+cnt sh) s->∃(sh':Sh) (s':Sx),(∀m,sh.depth<=m->sh'.depth<=m)/\wf sh'=true/\SxB r s'/\Dw f [sh.d] s sh'.d s'
theorem JS{cr:Fn}{n:Nat}(hr:EL cr n):∀(ss:List Sh) (s:Sx) (r:Nat),(∀x∈ss,x.depth<=n/\wz x=true)->SxB (r+Es ss) s->∃(ts:List Sh) (s':Sx),ts.length=ss.length/\(∀x∈ts,wf x=true/\∃y∈ss,∀m,y.depth<=m->x.depth<=m)/\SxB r s'/\∀(S:List Ob) (K:Nat) (z:Option Sl),K<S.length->L2.W (AQ (Aj 0) BL (Ag cr (Aa (Ab 1) (Aa (Ab 0) Ad))) (shD ss)) ⟨[z,vw (.obj K)],S.set K (.dct s.l)⟩ λq t'=>q=shD ts/\t'.S=S.set K (.dct s'.l)
 |[],s,r,_,hs=>⟨[],s,rfl,(λ_ h=>nomatch h),hs.mono ∅,λS K z hK=>W_compL_nil.mpr ⟨rfl,rfl⟩⟩
 |x::ss,s,r,hx,hs=>by
   have hc:Es (x::ss)=cnt x+Es ss:=by rw[Es]
   clear 5(hr x s (r+Es ss) (hx x ug5).1 (hx x ug5).2 (hs.mono ∅))sh s1 h1 h2 b1 d1;clear 5(JS hr ss s1 r (λy m=>hx y (ue3 _ m)) b1)ts s2 g1 g2 b2 d2;refine⟨sh::ts,s2,by rw[uj8,uj8,g1],λy hy=>?_,b2,λS K z hK=>?_⟩
   .rcases uo5.mp hy with rfl|hy
    .exact⟨h2,x,ug5,h1⟩
    .clear 5(g2 y hy)q1 w q2 q3;exact⟨q1,w,ue3 _ q2,q3⟩
   rw[shD,BW];refine CH (Ju ?_);rw[eB rfl];symm;refine d1.use hK ?_;refine(d2 S K _ hK).mono λq t' z9=>?_;clear 5 z9 e1 e2;subst e1;exact⟨by rw[shD],e2⟩
theorem VS{cm:Fn}(ht:Bt ct)(hm:FH cm)(hr:n=0\/EL cr n):EL (fnOf 2 4 (Bf cr ct cm)) (n+1):=by
 intro sh s r hd hw hs;have hL:LIM=100000:=rfl;have rec_:∀{a:Sh}{s:Sx}{r:Nat},a.depth<=n->wz a=true->SxB (r+cnt a) s->∃(sh':Sh) (s':Sx),(∀m,a.depth<=m->sh'.depth<=m)/\wf sh'=true/\SxB r s'/\Dw cr [a.d] s sh'.d s':=λ{a s r} h1 h2 h3=>by
  rcases hr with rfl|hr
  .exact absurd a.depth_pos ∅
  .exact hr a s r h1 h2 h3
 have wid_:∀{x:Int},0<=x->x<4000000000000000000->Pure1 cm [.int x] (.int (wid x.toNat:Nat)):=λ{x} h h2=>by
  have:=hm x.toNat (by have:(256:Nat) ^ 9=4722366482869645213696:=(by decide);lia)
  rwa [ug1 ∅] at this
 cases sh with
 |nothing=>
   refine⟨.nothing,s,λ_ h=>h,rfl,hs.mono ∅,λS K hK=>?_⟩;refine Ao rfl ?_;unfold Bf;rw[Sh.d];symm;exact⟨rfl,rfl⟩
 |number l h=>
   clear 5(ht s 4 r (hs.mono (by simp only[cnt];lia)) (by decide) (by decide))x s1 x0 x1 b1 d1;obtain⟨dd,ed,m,rfl,m0,m1⟩:=E4 (xs:=[D.int 0,D.int 1,D.int 55,D.int 1000000000]) x0 (by simpa using x1) (p:=λd=>∃m:Int,d=.int m/\0<=m/\m<=1000000000) (by
    simp only[uf5];exact⟨⟨_,rfl,by decide,by decide⟩,⟨_,rfl,by decide,by decide⟩,⟨_,rfl,by decide,by decide⟩,⟨_,rfl,by decide,by decide⟩,λ_ z=>nomatch z⟩)
   simp only[wz,uj7,uj2] at hw;have p0:=wid_ (x:=h-l+m) ∅ ∅;have p1:=wid_ (x:=h-l) ∅ ∅
   by_cases e:wid (h-l+m).toNat=wid (h-l).toNat
   .refine⟨.number l (h+m),s1,λ_ z=>z,?_,b1,λS K hK=>?_⟩
    .simp only[wf,uj7,uj2];lia
    refine Ao rfl ?_;unfold Bf;rw[Sh.d];symm;rw[show(10:Int) ^ (9:Int).toNat=1000000000 by decide];refine d1.use hK ?_;rw[6,AC ed];rw[6,p0.use];rw[6,p1.use];refine BZ (by rw[e];simp) ?_;symm;exact⟨by rw[Sh.d],rfl⟩
   .refine⟨.number l (h+0),s1,λ_ z=>z,?_,b1,λS K hK=>?_⟩
    .simp only[wf,uj7,uj2];lia
    refine Ao rfl ?_;unfold Bf;rw[Sh.d];symm;rw[show(10:Int) ^ (9:Int).toNat=1000000000 by decide];refine d1.use hK ?_;rw[6,AC ed];rw[6,p0.use];rw[6,p1.use];refine B1 (by rw[ui8,cL];lia) ?_;symm;exact⟨by rw[Sh.d],rfl⟩
 |text q=>
   clear 5(ht s 3 r (hs.mono (by simp only[cnt];lia)) (by decide) (by decide))x s1 x0 x1 b1 d1;simp only[wz,uj7,uj2] at hw;obtain⟨dd,ed,m,rfl,m0,m1⟩:=E4 (xs:=[D.int q,D.int (if q+1<250 then q+1 else 250),D.int 250]) x0 (by simpa using x1) (p:=λd=>∃m:Int,d=.int m/\0<=m/\m<=250) (by
    simp only[uf5];exact⟨⟨_,rfl,hw.1,hw.2⟩,⟨_,rfl,by split<;>lia,by split<;>lia⟩,⟨_,rfl,by decide,by decide⟩,λ_ z=>nomatch z⟩)
   refine⟨.text m,s1,λ_ z=>z,?_,b1,λS K hK=>?_⟩
   .simp only[wf,uj7,uj2];exact⟨m0,m1⟩
   refine Ao rfl ?_;unfold Bf;rw[Sh.d];symm;refine d1.use hK ?_;rw[6,AC ed];exact⟨by rw[Sh.d],rfl⟩
 |list a q=>
   rw[Sh.depth] at hd;simp only[wz,uj7,uj2] at hw;rw[cnt] at hs;clear 5(rec_ (a:=a) (r:=r+1) ∅ hw.2 (hs.mono ∅))sh1 s1 h1 h2 b1 d1;clear 5(ht s1 3 r b1 (by decide) (by decide))x s2 x0 x1 b2 d2;obtain⟨dd,ed,m,rfl,m0,m1⟩:=E4 (xs:=[D.int q,D.int (if q+1<250 then q+1 else 250),D.int 250]) x0 (by simpa using x1) (p:=λd=>∃m:Int,d=.int m/\0<=m/\m<=250) (by
    simp only[uf5];exact⟨⟨_,rfl,hw.1.1,hw.1.2⟩,⟨_,rfl,by split<;>lia,by split<;>lia⟩,⟨_,rfl,by decide,by decide⟩,λ_ z=>nomatch z⟩)
   refine⟨.list sh1 m,s2,λk z=>?_,?_,b2,λS K hK=>?_⟩
   .rw[Sh.depth] at z⊢;have:=h1 (k-1) ∅;lia
   .simp only[wf,uj7,uj2];exact⟨⟨m0,m1⟩,h2⟩
   refine Ao rfl ?_;unfold Bf;rw[Sh.d];symm;rw[6,d1.use hK];refine d2.use hK ?_;rw[6,AC ed];exact⟨by rw[Sh.d],rfl⟩
 |pair a b=>
   rw[Sh.depth] at hd;simp only[wz,uj7] at hw;rw[cnt] at hs;clear 5(rec_ (a:=a) (r:=r+cnt b) ∅ hw.1 (hs.mono ∅))sh1 s1 h1 h2 b1 d1;clear 5(rec_ (a:=b) (r:=r) ∅ hw.2 b1)sh2 s2 g1 g2 b2 d2;refine⟨.pair sh1 sh2,s2,λk z=>?_,?_,b2,λS K hK=>?_⟩
   .rw[Sh.depth] at z⊢;have:=h1 (k-1) ∅;have:=g1 (k-1) ∅;lia
   .simp only[wf,uj7];exact⟨h2,g2⟩
   refine Ao rfl ?_;unfold Bf;rw[Sh.d];symm;rw[6,d1.use hK];rw[6,d2.use hK];exact⟨by rw[Sh.d],rfl⟩
 |choice ss=>
   rw[Sh.depth] at hd;simp only[wz,uj7,uj2] at hw;rw[cnt] at hs;clear 5(ht s 3 (r+Es ss) (hs.mono ∅) (by decide) (by decide))x s1 x0 x1 b1 d1;have hall:∀x∈ss,x.depth<=n/\wz x=true:=λx m=>⟨up6 (BU m) ∅,He hw.2 x m⟩;obtain⟨ts,s2,t1,t2,b2,d2⟩:∃(ts:List Sh) (s':Sx),ts.length=ss.length/\(∀x∈ts,wf x=true/\∃y∈ss,∀m,y.depth<=m->x.depth<=m)/\SxB r s'/\∀(S:List Ob) (K:Nat) (z:Option Sl),K<S.length->L2.W (AQ (Aj 0) BL (Ag cr (Aa (Ab 1) (Aa (Ab 0) Ad))) (shD ss)) ⟨[z,vw (.obj K)],S.set K (.dct s1.l)⟩ λq t'=>q=shD ts/\t'.S=S.set K (.dct s'.l):=by
    rcases hr with rfl|hr
    .cases ss with
     |nil=>simp at hw
     |cons y l=>exact absurd y.depth_pos (by have:=(hall y ug5).1;lia)
    .exact JS hr ss s1 r hall b1
   clear 5(uc2 x0)x rfl;obtain⟨ms,em,lm,hm2⟩:∃ms:List Sh,AK [D.tup [D.str "nothing"],D.tup [.str "text",.int 3]] none (some (x:Int))=shD ms/\ms.length<=2/\∀y∈ms,wf y=true/\y.depth<=1:=by
    have:x=0\/x=1\/x=2:=by lia
    rcases this with rfl|rfl|rfl
    .exact⟨[],by rw[shD];rfl,by decide,λ_ h=>nomatch h⟩
    .exact⟨[.nothing],by rw[shD,shD,Sh.d];rfl,by decide,λy h=>by rw[ug9] at h;subst h;exact⟨rfl,uq9 _⟩⟩
    .exact ⟨[.nothing,.text 3],by rw [shD,shD,shD,Sh.d,Sh.d];rfl,by decide,λy h=>by
      rcases uo5.mp h with rfl|h
      .exact⟨rfl,uq9 _⟩
      .rw[ug9] at h;subst h;exact⟨rfl,uq9 _⟩⟩
   have sd:∀a b:List Sh,shD (a++b)=shD a++shD b:=λa b=>by
    induction a with
    |nil=>rw[shD];rfl
    |cons y l ih=>rw[List.cons_append,shD,shD,ih];rfl
   refine⟨.choice (ts++ms),s2,λk z=>?_,?_,b2,λS K hK=>?_⟩
   .rw[Sh.depth] at z⊢;have hk:1<=k-1:=by
     cases ss with
     |nil=>simp at hw
     |cons y l=>have:=y.depth_pos;have:=BU (ss:=y::l) (ug5 (a:=y));lia
    have:Ed (ts++ms)<=k-1:=by
     refine Lu λy hy=>?_;rcases um1.mp hy with hy|hy
     .obtain⟨_,w,q1,q2⟩:=t2 y hy;exact q2 _ (up6 (BU q1) ∅)
     .exact up6 (hm2 y hy).2 hk
    lia
   .simp only[wf,uj7,uj2];refine⟨⟨by rw[ug7];lia,by rw[ug7];lia⟩,LM λy hy=>?_⟩;rcases um1.mp hy with hy|hy
    .exact(t2 y hy).1
    .exact(hm2 y hy).1
   refine Ao rfl ?_;unfold Bf;rw[Sh.d];symm;rw[6,d1.use hK];rw[em];refine(d2 S K none hK).mono λq t' z9=>?_;clear 5 z9 q1 q2;subst q1;refine AM (by rw[Ci];lia) ?_;symm
   cases ts with
   |nil=>rw[un0] at t1;lia
   |cons y l=>
     rw[shD];refine Tk (AM (by rw[Ci,Ci];rw[uj8] at t1;lia) ?_);symm;exact⟨by rw[Sh.d,sd,shD],q2⟩
def nmD(kv:List (Str×Str)):List (Key×D):=kv.map λp=>((Sum.inr p.1:Key),D.str p.2)
def puN(kv:List (Str×Str))(x y:Str):List (Str×Str):=if kv.any (λp=>decide (p.1=x))=true then kv.map (λp=>if p.1=x then(p.1,y) else p) else kv++[(x,y)]
def drN(kv:List (Str×Str))(x:Str):List (Str×Str):=kv.filter λp=>decide (p.1≠x)
theorem inr_iff{a b:Str}:((Sum.inr a:Key)=Sum.inr b)↔a=b:=⟨λh=>Sum.inr.inj h,λh=>by rw[h]⟩
theorem G7(kv:List (Str×Str))(x:Str):AR (nmD kv) (.inr x)=(nmO kv x).map D.str:=by
 unfold AR nmO nmD;rw[List.find?_map,Option.map_map,Option.map_map];rw[show((λq:Key×D=>decide (q.1=Sum.inr x)) ∘ λp:Str×Str=>((Sum.inr p.1:Key),D.str p.2))=λp:Str×Str=>decide (p.1=x) from funext λp=>c9.mpr inr_iff];rfl
theorem Jh(kv:List (Str×Str))(x y:Str):CJ (nmD kv) (.inr x) (.str y)=nmD (puN kv x y):=by
 unfold CJ puN nmD;rw[List.any_map,show((λq:Key×D=>decide (q.1=Sum.inr x)) ∘ λp:Str×Str=>((Sum.inr p.1:Key),D.str p.2))=λp:Str×Str=>decide (p.1=x) from funext λp=>c9.mpr inr_iff]
 split
 .rw[uq5,uq5];refine ug0 λp _=>?_;show(if (Sum.inr p.1:Key)=Sum.inr x then((Sum.inr p.1:Key),D.str y) else((Sum.inr p.1:Key),D.str p.2))=((Sum.inr (if p.1=x then(p.1,y) else p).1:Key),D.str (if p.1=x then(p.1,y) else p).2)
  by_cases e:p.1=x
  .rw[eB (inr_iff.mpr e),eB e]
  .rw[eC λz=>e (inr_iff.mp z),eC e]
 .rw[un5];rfl
theorem Q0(kv:List (Str×Str))(x:Str):Fg (nmD kv) (.inr x)=nmD (drN kv x):=by
 unfold Fg drN nmD;rw[List.filter_map]
 congr 1
 refine List.filter_congr λp _=>?_;exact c9.mpr (not_congr inr_iff)
theorem Jg(kv:List (Str×Str)):(nmD kv).length=kv.length:=um6 ..
abbrev kys(kv:List (Str×Str)):List Str:=kv.map (·.1)
theorem FY(kv:List (Str×Str))(x y:Str):kys (puN kv x y)=if x∈kys kv then kys kv else kys kv++[x]:=by
 unfold puN kys
 by_cases h:x∈kv.map (·.1)
 .have:kv.any (λp=>decide (p.1=x))=true:=by
   clear 5(uq6.mp h)p hp e;exact ul1.mpr ⟨p,hp,uo3 e⟩
  rw[eB this,eB h,uq5];refine ug0 λp _=>?_;show(if p.1=x then(p.1,y) else p).1=p.1
  split<;>rfl
 .have:¬kv.any (λp=>decide (p.1=x))=true:=λz=>h (by
   clear 5(ul1.mp z)p hp e;exact uq6.mpr ⟨p,hp,uj3 e⟩)
  rw[eC this,eC h,un5];rfl
variable{y:Str}
set_option tactic.hygienic true in
theorem U1{p:Str×Str}(h:p∈puN kv x y):(p∈kv)\/p=(x,y):=by
 unfold puN at h
 split at h
 .obtain⟨q,hq,rfl⟩:=uq6.mp h
  split
  .next e=>exact .inr (by rw[e])
  .exact .inl hq
 .rcases um1.mp h with h|h
  .exact .inl h
  .exact .inr (ug9.mp h)
structure KvOk(kv:List (Str×Str)):Prop where
 nd:(kys kv).Nodup
 ok:∀p∈kv,p.1∈nm14/\p.2∈nm14
theorem KvOk.len(h:KvOk kv):kv.length<=14:=by
 have:=h.nd.length_le_of_subset (l₂:=nm14) λk hk=>by
  clear 5(uq6.mp hk)p hp rfl;exact(h.ok p hp).1
 rwa [um6] at this
set_option tactic.hygienic true in
theorem Pq(h:(kys kv).Nodup):(kys (puN kv x y)).Nodup:=by
 rw[FY]
 split
 .exact h
 .next e=>exact ui4.mpr ⟨h,um4.mpr ⟨uk5,un9⟩,λa ha b hb z=>by rw[ug9] at hb;subst hb;subst z;exact e ha⟩
theorem KvOk.put(h:KvOk kv){x y:Str}(hx:x∈nm14)(hy:y∈nm14):KvOk (puN kv x y):=
 ⟨Pq h.nd,λp hp=>by
  rcases U1 hp with q|rfl
  .exact h.ok p q
  .exact⟨hx,hy⟩⟩
theorem KvOk.drop(h:KvOk kv)(x:Str):KvOk (drN kv x):=
 ⟨ue0 (List.Sublist.map _ List.filter_sublist) h.nd,λp hp=>h.ok p (um0.mp hp).1⟩
theorem KvOk.get{kv:List (Str×Str)}(h:KvOk kv){x y:Str}(e:nmO kv x=some y):y∈nm14:=by
 unfold nmO at e;clear 5(uc6.mp e)p hp rfl;exact(h.ok p (bZ hp)).2
variable{N:Nat}{e:M D}
theorem Z2{t:T}(e0:t.env[i]?=some (vw (.obj N)))(e1:t.S[N]?=some (.dct (nmD kv)))(h:L2.W e t λd t1=>∃x,d=.str x/\t1.S[N]?=some (.dct (nmD kv))/\P (((nmO kv x).map D.str).getD .non) t1):L2.W (D5 (Ab i) (Aa e Ad)) t P:=by
 refine C7 (Bp e0 ?_);dsimp only;clear 5 h d t1 ee x rfl h1 h2;refine⟨((nmO kv x).map D.str).getD .non,t1,?_,h2⟩;dsimp only;rw[e1];simp only[bnd,Aa,Ad,L2.ret,ee,h1,G7]
theorem NT{dd:D}{t:T}(e0:t.env[i]?=some (vw (.obj N)))(e1:t.S[N]?=some (.dct (nmD kv)))(h:L2.W e t λd t1=>∃x,d=.str x/\t1.S[N]?=some (.dct (nmD kv))/\P (((nmO kv x).map D.str).getD dd) t1):L2.W (D5 (Ab i) (Aa e (Aa (fC dd) Ad))) t P:=by
 refine C7 (Bp e0 ?_);dsimp only;clear 5 h d t1 ee x rfl h1 h2;refine⟨((nmO kv x).map D.str).getD dd,t1,?_,h2⟩;dsimp only;rw[e1];simp only[bnd,Aa,Ad,fC,L2.ret,ee,h1,G7]
theorem YY{t:T}(e0:t.env[i]?=some (vw (.obj N)))(e1:t.S[N]?=some (.dct (nmD kv)))(h:L2.W e t λd t1=>∃x,d=.str x/\t1.S[N]?=some (.dct (nmD kv))/\x∈kys kv/\∀d,P d ⟨t1.env,t1.S.set N (.dct (nmD (drN kv x)))⟩):L2.W (J6 (Ab i) (Aa e Ad)) t P:=by
 refine C7 (Bp e0 ?_);dsimp only;clear 5 h d t1 ee x rfl h1 hx h2;obtain⟨y,hy⟩:∃y,nmO kv x=some y:=by
  clear 5(uq6.mp hx)p hp e
  cases z:nmO kv x with
  |some y=>exact⟨y,rfl⟩
  |none=>
    unfold nmO at z;rw[Option.map_eq_none_iff,List.find?_eq_none] at z;exact absurd (uo3 e) (z p hp)
 refine⟨.str y,⟨t1.env,t1.S.set N (.dct (nmD (drN kv x)))⟩,?_,h2 _⟩;dsimp only;rw[e1];simp only[bnd,Aa,Ad,L2.ret,ee,h1,G7,hy,un2,Q0]
def nmX(i:Nat):Str:=nm14.getD i (Str.ofString "a")
theorem Fk(h:i<14):nmX i∈nm14:=by
 have h0:∀i:Fin 14,nmX i.val∈nm14:=by decide +kernel
 exact h0 ⟨i,h⟩
theorem GD(h:i<14):atI (nm14.map D.str) (i:Int)=some (.str (nmX i)):=by
 have hl:(nm14.map D.str).length=14:=by decide
 unfold atI;rw[BG ∅ (by rw[hl];lia)];show(nm14.map D.str)[((i:Nat):Int).toNat]?=_;rw[uh8,uh6];unfold nmX;rw[ua7,ub5 (show i<nm14.length from h)];rfl
theorem DI(h:S[N]?=some o):S.set N o=S:=by
 refine List.ext_getElem? λi=>?_
 by_cases e:N=i
 .subst e;rw[uc3 (AS h),h]
 .rw[ue5 e]
def kvF(by_:Nat):List Nat->List (Str×Str)->List (Str×Str)
 |[],kv=>kv
 |k::l,kv=>kvF by_ l (puN kv (nmX k) (nmX ((k+by_)%14)))
theorem OX{by_:Nat}:∀{l:List Nat}{kv:List (Str×Str)},(∀k∈l,k<14)->KvOk kv->KvOk (kvF by_ l kv)/\(∀j∈kys kv,j∈kys (kvF by_ l kv))/\∀k∈l,nmX k∈kys (kvF by_ l kv)
 |[],kv,_,hk=>⟨hk,λ_ h=>h,λ_ h=>nomatch h⟩
 |k::l,kv,hl,hk=>by
   have h14:=hl k ug5;clear 5(OX (by_:=by_) (λj m=>hl j (ue3 _ m)) (hk.put (Fk h14) (Fk (ur3 (k+by_) (show 0<14 by decide)))))q1 q2 q3;have hx:nmX k∈kys (puN kv (nmX k) (nmX ((k+by_)%14))):=by
    rw[FY]
    split
    .assumption
    .exact ud1 _ ug5
   refine⟨q1,λj hj=>q2 j ?_,λj hj=>?_⟩
   .rw[FY]
    split
    .exact hj
    .exact ue4 _ hj
   .rcases uo5.mp hj with rfl|hj
    .exact q2 _ hx
    .exact q3 j hj
theorem Gp{e0:Option Sl}{by_ N:Nat}:∀(l:List Nat) (kv:List (Str×Str)) (S:List Ob) (e4:Option Sl),(∀k∈l,k<14)->KvOk kv->S[N]?=some (.dct (nmD kv))->
 L2.W (A1 (Aj 4) (Cc (Ac (Ab 1) (Ac (Ac (Ab 4) (Ab 2) Aw) (bM 14) CS) ixD) (Dv (Ab 3) (Ac (Ab 1) (Ab 4) ixD))) (l.map λk:Nat=>D.int (k:Int))) ⟨[e0,vw (.lst (nm14.map D.str)),vw (.int (by_:Nat)),vw (.obj N),e4],S⟩ λo t=>o=.next/\∃f4,t=⟨[e0,vw (.lst (nm14.map D.str)),vw (.int (by_:Nat)),vw (.obj N),f4],S.set N (.dct (nmD (kvF by_ l kv)))⟩
 |[],kv,S,e4,_,hk,hN=>W_forL_nil.mpr ⟨rfl,_,by rw[kvF,DI hN]⟩
 |k::l,kv,S,e4,hl,hk,hN=>by
   have h14:=hl k ug5;rw[uo6,W_forL_cons];rw[6,CH];rw[show(((k:Int)+(by_:Int))%14)=(((k+by_)%14:Nat):Int) by lia];rw[6,AC (GD (ur3 _ (by decide)))];refine AC (GD h14) ?_;refine EJ hN (by rw[Jg];have:=hk.len;show _<100000;lia) ?_;rw[Jh];refine(Gp l _ _ _ (λj m=>hl j (ue3 _ m)) (hk.put (Fk h14) (Fk (ur3 (k+by_) (show 0<14 by decide)))) (Bx hN)).mono λo t z9=>?_;clear 5 z9 q1 f4 q5;subst q1 q5;exact⟨rfl,f4,by rw[kvF,uq8]⟩
def N4(f:Fn):Prop:=∀(s:Sx) (r:Nat),SxB (r+6) s->∃(kv:List (Str×Str)) (s':Sx),KvOk kv/\SxB r s'/\∀(S:List Ob) (K:Nat),K<S.length->Wf f [.obj K] (S.set K (.dct s.l)) λq S'=>q=.obj S.length/\S'=(S++[Ob.dct (nmD kv)]).set K (.dct s'.l)
variable{K:Nat}
theorem Hb{x:Ob}(h:K<S.length):(S++[x]).set K o=S.set K o++[x]:=by rw[List.set_append_left _ _ h]
theorem nst{a b:Ob}(h:K<S.length):((S++[a]).set K o).set S.length b=(S++[b]).set K o:=by
 rw[Hb h,Hb h,ue1 _ _ (by rw[um7];lia),um7,uq4];rfl
theorem Ej{a:Ob}(h:K<S.length):((S++[a]).set K o)[S.length]?=some a:=by
 rw[ue5 ∅];exact A4
theorem ED{a:Ob}(h:K<S.length):K<(S++[a]).length:=by rw[ug7,ud3];lia
theorem WS(ht:Bt ct)(kv:List (Str×Str))(s:Sx)(r:Nat)(hk:KvOk kv)(ha:∀i,i<14->nmX i∈kys kv)(b:SxB (r+2) s):∃(kv':List (Str×Str)) (s':Sx),KvOk kv'/\SxB r s'/\∀(S:List Ob) (K:Nat) (e2 e4:Option Sl),K<S.length->
 L2.W (Kb ct) ⟨[vw (.obj K),vw (.lst (nm14.map D.str)),e2,vw (.obj S.length),e4],(S++[Ob.dct (nmD kv)]).set K (.dct s.l)⟩ λo t=>o=.ret (.obj S.length)/\t.S=(S++[Ob.dct (nmD kv')]).set K (.dct s'.l):=by
 clear 5(ht s 6 (r+1) b (by decide) (by decide))x s1 x0 x1 b1 d1
 by_cases e:x=1
 .subst e;clear 5(ht s1 14 r b1 (by decide) (by decide))y s2 y0 y1 b2 d2;clear 5(uc2 y0)y rfl;refine⟨drN kv (nmX y),s2,hk.drop _,b2,λS K e2 e4 hK=>?_⟩;unfold Kb;symm;rw[6,d1.use (ED hK)];rw[6,YY rfl (Ej hK)];refine d2.use (ED hK) ?_;refine AC (GD ∅) ?_;refine⟨_,rfl,Ej hK,ha y ∅,λd=>?_⟩;rw[nst hK];symm;exact⟨rfl,rfl⟩
 .refine⟨kv,s1,hk,b1.mono ∅,λS K e2 e4 hK=>?_⟩;unfold Kb;symm;rw[6,d1.use (ED hK)];rw[6,BZ (cL.mpr e)];exact⟨rfl,rfl⟩
theorem O8(ht:Bt ct):N4 (fnOf 1 5 (Cr ct)):=by
 intro s r b;have hL:LIM=100000:=rfl;clear 5(ht s 14 (r+5) b (by decide) (by decide))x s1 x0 x1 b1 d1;clear 5(uc2 x0)x rfl;clear 5(ht s1 3 (r+4) b1 (by decide) (by decide))y s2 y0 y1 b2 d2;have h14:∀k∈List.range 14,k<14:=λk hk=>un8.mp hk;have k0:KvOk []:=⟨un9,λ_ h=>nomatch h⟩;obtain⟨k1,_,k2⟩:=OX (by_:=x) h14 k0;have k3:∀i,i<14->nmX i∈kys (kvF x (List.range 14) []):=λi hi=>k2 i (un8.mpr hi);have er:By 0 ((14:Int)).toNat=(List.range 14).map λk:Nat=>D.int (k:Int):=by unfold By;simp
 by_cases e:y=1
 .subst e;clear 5(ht s2 14 (r + 3) b2 (by decide) (by decide))z s3 z0 z1 b3 d3;clear 5(ht s3 14 (r + 2) b3 (by decide) (by decide))w s4 w0 w1 b4 d4;clear 5(uc2 z0)z rfl;clear 5(uc2 w0)w rfl;obtain ⟨kv,s5,k5,b5,d5⟩:=WS ht (puN (kvF x (List.range 14) []) (nmX w) (nmX z)) s4 r (k1.put (Fk ∅) (Fk ∅)) (λi hi=>by
   rw[FY]
   split
   .exact k3 i hi
   .exact ue4 _ (k3 i hi)) b4
  refine⟨kv,s5,k5,b5,λS K hK=>?_⟩;rw[9,Cr];rw[6,d1.use hK];rw[er,um7,<-Hb hK];refine(Gp (by_:=x) (N:=S.length) (List.range 14) [] _ none h14 k0 (Ej hK)).mono λo t z9=>?_;clear 5 z9 q1 f4 q2;subst q1 q2;rw[nst hK];symm;rw[6,d2.use (ED hK)];refine d3.use (ED hK) ?_;rw[6,AC (GD ∅)];refine d4.use (ED hK) ?_;refine AC (GD ∅) ?_;refine EJ (Ej hK) (by rw[Jg];have:=k1.len;show _<100000;lia) ?_;rw[Jh,nst hK];refine ER ?_;refine(d5 S K _ _ hK).mono λo t z9=>?_;clear 5 z9 q1 q2;subst q1;exact⟨rfl,q2⟩
 .clear 5(WS ht (kvF x (List.range 14) []) s2 r k1 k3 (b2.mono ∅))kv s5 k5 b5 d5;refine⟨kv,s5,k5,b5,λS K hK=>?_⟩;rw[9,Cr];rw[6,d1.use hK];rw[er,um7,<-Hb hK];refine(Gp (by_:=x) (N:=S.length) (List.range 14) [] _ none h14 k0 (Ej hK)).mono λo t z9=>?_;clear 5 z9 q1 f4 q2;subst q1 q2;rw[nst hK];symm;rw[6,d2.use (ED hK)];refine BZ (cL.mpr e) ?_;walk_at"w1";refine ER ?_;refine(d5 S K _ _ hK).mono λo t z9=>?_;clear 5 z9 q1 q2;subst q1;exact⟨rfl,q2⟩
structure GY(n:Int)(x:GS):Prop where
 ok:GSOk n x
 ne:∀w∈x.ws,w.1≠Str.ofString ""
def Dh(j:Nat):Str:=Str.ofString "other"++⟨#[97+j]⟩
def DV(j:Nat):Str:=Str.ofString "extra"++⟨#[97+j]⟩
def nmU:List Str:=nm14++[Str.ofString "none"]
theorem GB:(nmU++((List.range 9).map Dh++(List.range 3).map DV)).Nodup:=by decide +kernel
theorem GC:∀x∈nmU++((List.range 9).map Dh++(List.range 3).map DV),x≠Str.ofString ""/\x.length<=1000:=by decide +kernel
theorem W5(h:j<9):atI (Str.ofString "abcdefghi").cps.toList (j:Int)=some (97+j):=by
 have:∀i:Fin 9,atI (Str.ofString "abcdefghi").cps.toList (i.val:Int)=some (97+i.val):=by decide +kernel
 exact this ⟨j,h⟩
theorem Wi(h:j<3):atI (Str.ofString "abc").cps.toList (j:Int)=some (97+j):=by
 have:∀i:Fin 3,atI (Str.ofString "abc").cps.toList (i.val:Int)=some (97+i.val):=by decide +kernel
 exact this ⟨j,h⟩
theorem Q3(h:x∈nm14):x∈nmU:=ue4 _ h
theorem UJ(hj:j<9)(h:x∈nmU):Dh j≠x:=λe=>
 (ui4.mp GB).2.2 x h (Dh j) (ue4 _ (uq6.mpr ⟨j,un8.mpr hj,rfl⟩)) e.symm
theorem Q6(hi:i<9)(hj:j<9)(h:Dh i=Dh j):i=j:=by
 have nd:=(ui4.mp (ui4.mp GB).2.1).1;have:=(uj4 (h₀:=by rw[um6,ui5];exact hi) (h₁:=by rw[um6,ui5];exact hj) nd).mp (by rw[ul4,ul4,uh3,uh3];exact h);exact this
theorem TK(hj:j<3)(h:x∈nmU\/∃i,i<9/\x=Dh i):x≠DV j:=by
 have hm:DV j∈(List.range 3).map DV:=uq6.mpr ⟨j,un8.mpr hj,rfl⟩;rcases h with h|⟨i,hi,rfl⟩
 .exact(ui4.mp GB).2.2 x h _ (ud1 _ hm)
 .exact(ui4.mp (ui4.mp GB).2.1).2.2 _ (uq6.mpr ⟨i,un8.mpr hi,rfl⟩) _ hm
structure TN(T:List Str):Prop where
 nd:T.Nodup
 in_:∀x∈T,x∈nmU\/∃j,j<T.length/\x=Dh j
theorem TN.nil:TN []:=⟨un9,λ_ h=>nomatch h⟩
theorem TN.add{T:List Str}(h:TN T){x:Str}(hx:x∈nmU)(n:x∉T):TN (T++[x]):=
 ⟨ui4.mpr ⟨h.nd,um4.mpr ⟨uk5,un9⟩,λa ha b hb z=>n (by rw[ug9] at hb;subst hb;subst z;exact ha)⟩,λy hy=>by
  rcases um1.mp hy with hy|hy
  .rcases h.in_ y hy with q|⟨j,hj,q⟩
   .exact .inl q
   .exact .inr ⟨j,by rw[ug7];lia,q⟩
  .rw[ug9] at hy;subst hy;exact .inl hx⟩
theorem TN.oth{T:List Str}(h:TN T)(hl:T.length<9):TN (T++[Dh T.length]):=
 ⟨ui4.mpr ⟨h.nd,um4.mpr ⟨uk5,un9⟩,λa ha b hb z=>by
  rw[ug9] at hb;subst hb;subst z;rcases h.in_ _ ha with q|⟨j,hj,q⟩
  .exact UJ hl q rfl
  .have:=Q6 hl ∅ q;lia⟩,λy hy=>by
  rcases um1.mp hy with hy|hy
  .rcases h.in_ y hy with q|⟨j,hj,q⟩
   .exact .inl q
   .exact .inr ⟨j,by rw[ug7];lia,q⟩
  .rw[ug9] at hy;exact .inr ⟨T.length,by rw[ug7,ud3];lia,hy⟩⟩
theorem Ui{T:List Str}:inV (toV (.str x)) ((T.map D.str).map toV)=decide (x∈T):=by
 unfold inV;rw[uq5,List.any_map,un3,ul1,uj2];constructor
 .rintro⟨y,hy,e⟩;have e:(y==x)=true:=e;rw[<-eq_of_beq e];exact hy
 .exact λh=>⟨x,h,ul8 x⟩
def NC(Ae Au AW:Fn)(rest:M Out):M Out:=
 (Ah (Am 11 (Ab 9))
 (Ah (ifS (Ai (Ac (Ag Ae (Aa (Ab 0) (Aa (bM 2) Ad))) (bM 1) (eqS id)))
   (Am 11 (Ag AW (Aa (Ab 0) (Aa (Ab 9) Ad))))
   An)
 (Ah (ifS (Ai (Ac (Ag Ae (Aa (Ab 0) (Aa (bM 40) Ad))) (bM 1) (eqS id)))
   (Am 11 (Ag Au (Aa (Ab 0) (Aa (bM 1) Ad))))
   An)
 rest)))
theorem K6(hd:Bt cd)(hs:BC cs0 3)(v:Sh)(v1:wf v=true)(v2:v.depth<=3)(s:Sx)(r:Nat)(b:SxB (r+50) s):∃(v':Sh) (s':Sx),wf v'=true/\v'.depth<=3/\SxB r s'/\∀(rest:M Out) (P:Out->T->Prop) (a1 a2 a3 a4 a5 a6 a7 a8 a9 a10 a12 a13 a14 a15 a16:Option Sl) (S:List Ob) (K:Nat),K<S.length->
 L2.W rest ⟨[vw (.obj K),a1,a2,a3,a4,a5,a6,a7,a8,a9,a10,vw v'.d,a12,a13,a14,a15,a16],S.set K (.dct s'.l)⟩ P->
 L2.W (Ah (ifS (Ai (Ac (Ag cd (Aa (Ab 0) (Aa (bM 40) Ad))) (bM 1) (eqS id))) (Am 11 (Ag cs0 (Aa (Ab 0) (Aa (bM 1) Ad)))) An) rest) ⟨[vw (.obj K),a1,a2,a3,a4,a5,a6,a7,a8,a9,a10,vw v.d,a12,a13,a14,a15,a16],S.set K (.dct s.l)⟩ P:=by
 clear 5(hd s 40 (r+49) b (by decide) (by decide))x s1 x0 x1 b1 d1
 by_cases e:x=1
 .subst e;clear 5(hs 1 s1 r (by decide) (b1.mono (by show r+40<=_;lia)))sh s2 g1 g2 b2 d2;refine⟨sh,s2,EV 3 ∅ g2,by lia,b2,λrest P a1 a2 a3 a4 a5 a6 a7 a8 a9 a10 a12 a13 a14 a15 a16 S K hK h=>?_⟩;symm;rw[6,d1.use hK];refine d2.use hK ?_;exact h
 .refine⟨v,s1,v1,v2,b1.mono ∅,λrest P a1 a2 a3 a4 a5 a6 a7 a8 a9 a10 a12 a13 a14 a15 a16 S K hK h=>?_⟩;symm;rw[6,d1.use hK];refine BZ (cL.mpr e) ?_;walk_at"w1";exact h
theorem Q9(hd:Bt cd)(hs:BC cs0 3)(hw:EL cw 3)(v:Sh)(v1:wz v=true)(v2:v.depth<=3)(s:Sx)(r:Nat)(b:SxB (r+200) s):∃(v':Sh) (s':Sx),wf v'=true/\v'.depth<=3/\SxB r s'/\∀(rest:M Out) (P:Out->T->Prop) (a1 a2 a3 a4 a5 a6 a7 a8 a10 a11 a12 a13 a14 a15 a16:Option Sl) (S:List Ob) (K:Nat),K<S.length->
 L2.W rest ⟨[vw (.obj K),a1,a2,a3,a4,a5,a6,a7,a8,vw v.d,a10,vw v'.d,a12,a13,a14,a15,a16],S.set K (.dct s'.l)⟩ P->
 L2.W (NC cd cs0 cw rest) ⟨[vw (.obj K),a1,a2,a3,a4,a5,a6,a7,a8,vw v.d,a10,a11,a12,a13,a14,a15,a16],S.set K (.dct s.l)⟩ P:=by
 clear 5(hd s 2 (r+199) b (by decide) (by decide))x s1 x0 x1 b1 d1
 by_cases e:x=1
 .subst e;have hc:cnt v<=64:=Gb 3 v2 v1;clear 5(hw v s1 (r+50) v2 v1 (b1.mono ∅))sh s2 g1 g2 b2 d2;clear 5(K6 hd hs sh g2 (g1 3 v2) s2 r b2)v' s3 q1 q2 q3 q4;refine⟨v',s3,q1,q2,q3,λrest P a1 a2 a3 a4 a5 a6 a7 a8 a10 a11 a12 a13 a14 a15 a16 S K hK h=>?_⟩;unfold NC;walk_at"w1";walk_at"w1";walk_at"w1";walk_at"w1";walk_at"w1";walk_at"w1";walk_at"w1";walk_at"w1";walk_at"w1";refine d1.use hK ?_;walk_at"w1";walk_at"w1";walk_at"w1";walk_at"w1";walk_at"w1";walk_at"w1";refine d2.use hK ?_;walk_at"w1";exact q4 rest P _ _ _ _ _ _ _ _ _ _ _ _ _ _ _ S K hK h
 .clear 5(K6 hd hs v (EV 3 v2 v1) v2 s1 r (b1.mono ∅))v' s3 q1 q2 q3 q4;refine⟨v',s3,q1,q2,q3,λrest P a1 a2 a3 a4 a5 a6 a7 a8 a10 a11 a12 a13 a14 a15 a16 S K hK h=>?_⟩;unfold NC;walk_at"w1";walk_at"w1";walk_at"w1";walk_at"w1";walk_at"w1";walk_at"w1";walk_at"w1";walk_at"w1";walk_at"w1";rw[6,d1.use hK];refine BZ (cL.mpr e) ?_;walk_at"w1";walk_at"w1";exact q4 rest P _ _ _ _ _ _ _ _ _ _ _ _ _ _ _ S K hK h
theorem P4{t:T}(e:t.env[i]?=some (some (.own xs)))(h:P (.int xs.length) t):L2.W (Dz i) t P:=⟨_,_,by unfold Dz;rw[e],h⟩
theorem Sb{fr:List Nat}{st:D->M Unit}{t:T}{P:List D->T->Prop}(e:t.env[i]?=some (some (.own ds)))(h:W (AQ st tst elt ds) ⟨cenv n fr t.env,t.S⟩ λxs t'=>EX xs.length (P xs ⟨t.env,t'.S⟩)):W (Do n fr i st tst elt) t P:=by
 clear 5 h xs t' e1 hl p;refine⟨_,_,?_,p⟩;simp only[Do,e,e1];rw[eB hl]
theorem P3{i:Int}{t:T}(h:x.length<=LIM)(e:atI x.cps.toList i=some n)(p:P (.str ⟨#[n]⟩) t):L2.W (ixD (.str x) (.int i)) t P:=W_ix_str.mpr ⟨h,n,e,p⟩
structure Trn(many:Nat)(turn:List Int):Prop where
 len:turn.length=many
 ok:∀v∈turn,0<=v/\v<many
variable{many:Nat}
theorem Trn.at{turn:List Int}(h:Trn many turn){i:Int}(h0:0<=i)(h1:i<many):∃v:Int,atI (turn.map D.int) i=some (.int v)/\0<=v/\v<many:=by
 clear 5(uc2 h0)i rfl;have hl:i<turn.length:=by rw[h.len];lia
 refine⟨turn[i],?_,h.ok _ (uk6 hl)⟩;unfold atI;rw[BG ∅ (by rw[um6];lia)];show(turn.map D.int)[((i:Nat):Int).toNat]?=_;rw[uh8,uh6,ub5 hl];rfl
def K5:M Out:=
 (ifS (Ai (Ac (Ab 13) (Al (Do 1 [] 7 (Aj 0) BL (Ac (Ab 0) (bM 0) ixD))) (inD true)))
   (ownM 7 AZ (Aa (As (Aa (Ab 13) (Aa (Ac (Ab 12) (bM 1) ixD) (Aa (Ac (Ab 3) (Ab 10) ixD) Ad)))) Ad))
   (ifS (Ai (Ac (Ab 4) (fC (.str "left")) (eqS id)))
   (ownM 7 AZ (Aa (As (Aa (Ac (fC (.str "other")) (Ac (fC (.str "abcdefghi")) (Dz 7) ixD) Aw) (Aa (Ac (Ab 12) (bM 1) ixD) (Aa (Ac (Ab 3) (Ab 10) ixD) Ad)))) Ad))
   An))
def Q7:M Out:=
 (Ah (Am 12 (Al (Av (Aa (Ab 9) (Aa (Ab 11) Ad)))))
 (Ah (ifS (Ai (Ac (Ab 4) (fC (.str "right")) (eqS id)))
   (Am 12 (Al (Av (Aa (Ab 11) (Aa (Ab 9) Ad)))))
   An)
 (Ah (Am 13 (D5 (Ab 2) (Aa (Ab 8) (Aa (fC (.str "none")) Ad))))
 (Ah (ownM 6 AZ (Aa (As (Aa (Ab 8) (Aa (Ac (Ab 12) (bM 0) ixD) (Aa (Ab 10) Ad)))) Ad))
 K5))))
abbrev Wd7:=Str×Sh×Int
structure WsOk(many:Nat)(ws:List Wd7):Prop where
 ok:∀w∈ws,WOk (many:Nat) w
 tn:TN (ws.map (·.1))
theorem Mt{turn:List Int}(ht:Trn many turn){side:Str}(hside:side=Str.ofString "left"\/side=Str.ofString "right"){told:List Wd7}(hT:WsOk many told)(hl:told.length<9){o:Str}(ho:o∈nmU){p q:Sh}(q1:wf q=true)(q2:q.depth<=3){th:Int}(t0:0<=th)(t1:th<many):∃told':List Wd7,WsOk many told'/\told'.length<=told.length+1/\1<=told'.length/\∀(a0 a1 a2 a5 a6 a8 a9 a11 a14 a15 a16:Option Sl) (S:List Ob),
 L2.W K5 ⟨[a0,a1,a2,vw (.lst (turn.map D.int)),vw (.str side),a5,a6,some (.own (told.map wdD)),a8,a9,vw (.int th),a11,vw (.lst [p.d,q.d]),vw (.str o),a14,a15,a16],S⟩ λout t=>out=.next/\t=⟨[a0,a1,a2,vw (.lst (turn.map D.int)),vw (.str side),a5,a6,some (.own (told'.map wdD)),a8,a9,vw (.int th),a11,vw (.lst [p.d,q.d]),vw (.str o),a14,a15,a16],S⟩:=by
 have hL:LIM=100000:=rfl;clear 5(ht.at t0 t1)v ev v0 v1;have hno:=(GC o (ue4 _ ho)).2;have comp:∀{P:List D->T->Prop}{env:List (Option Sl)}{S:List Ob},P (told.map λw=>D.str w.1) ⟨env,S⟩->env[7]?=some (some (.own (told.map wdD)))->L2.W (Do 1 [] 7 (Aj 0) BL (Ac (Ab 0) (bM 0) ixD)) ⟨env,S⟩ P:=λ{P env S} h e=>by
  refine Sb e ?_;refine(CW (l:=told) (ι:=wdD) (f:=λw=>D.str w.1) (fr:=[]) λw _=>?_).mono ?_
  .unfold wdD;symm;exact⟨rfl,rfl⟩
  .rintro xs t' ⟨rfl,hS⟩;refine AM (by rw[um6];lia) ?_;rw[hS];exact h
 have inb:(if true=true then !inV (toV (.str o)) ((told.map λw=>D.str w.1).map toV) else inV (toV (.str o)) ((told.map λw=>D.str w.1).map toV)) = !decide (o∈told.map (·.1)):=by
  rw[eB rfl,show(told.map λw=>D.str w.1)=(told.map (·.1)).map D.str by rw[uq5];rfl,Ui]
 have flt:DM (.str o)=true/\(told.map λw=>D.str w.1).all DM=true:=⟨rfl,by rw[uq1];exact uk3.mpr λ_ _=>rfl⟩
 by_cases e:o∈told.map (·.1)
 .rcases hside with rfl|rfl
  .have hoth:=hT.tn.oth (by rw[um6];exact hl);rw[um6] at hoth;refine⟨told++[(Dh told.length,q,v)],⟨λw hw=>?_,by rw[un5];exact hoth⟩,by rw[ug7];exact uq9 _,by rw[ug7,ud3];lia,λa0 a1 a2 a5 a6 a8 a9 a11 a14 a15 a16 S=>?_⟩
   .rcases um1.mp hw with hw|hw
    .exact hT.ok w hw
    .rw[ug9] at hw;subst hw;refine⟨q1,q2,v0,v1,up6 (GC (Dh told.length) (ud1 _ (ue4 _ (uq6.mpr ⟨_,un8.mpr hl,rfl⟩)))).2 (by decide)⟩
   unfold K5;symm;refine comp ?_ rfl;refine Se flt ?_;rw[inb,uo3 e];symm;refine P4 rfl ?_;rw[um6];rw[6,P3 (by decide) (W5 hl)];rw[6,AC ev];refine AM (by rw[um6];lia) ?_;exact⟨rfl,by rw[un5];rfl⟩
  .refine⟨told,hT,by lia,?_,λa0 a1 a2 a5 a6 a8 a9 a11 a14 a15 a16 S=>?_⟩
   .cases told with
    |nil=>cases e
    |cons x l=>rw[uj8];lia
   unfold K5;symm;refine comp ?_ rfl;refine Se flt ?_;rw[inb,uo3 e];symm;exact⟨rfl,rfl⟩
 .refine⟨told++[(o,q,v)],⟨λw hw=>?_,by rw[un5];exact hT.tn.add ho e⟩,by rw[ug7];exact uq9 _,by rw[ug7,ud3];lia,λa0 a1 a2 a5 a6 a8 a9 a11 a14 a15 a16 S=>?_⟩
  .rcases um1.mp hw with hw|hw
   .exact hT.ok w hw
   .rw[ug9] at hw;subst hw;exact⟨q1,q2,v0,v1,up6 hno (by decide)⟩
  unfold K5;symm;refine comp ?_ rfl;refine Se flt ?_;rw[inb,un7 e];symm;rw[6,AC ev];refine AM (by rw[um6];lia) ?_;exact⟨rfl,by rw[un5];rfl⟩
def NB(Ae Au AW:Fn):M Out:=NC Ae Au AW Q7
theorem Q8(hd:Bt cd)(hs:BC cs0 3)(hw:EL cw 3){kv:List (Str×Str)}(hk:KvOk kv){many:Nat}{turn:List Int}(ht:Trn many turn){side:Str}(hside:side=Str.ofString "left"\/side=Str.ofString "right")(w:Wd7)(w1:WOk (many:Nat) w)(w2:wz w.2.1=true){told:List Wd7}(hT:WsOk many told)(hl:told.length<9)(s:Sx)(r:Nat)(b:SxB (r+200) s):∃(a:Wd7) (told':List Wd7) (s':Sx),a.1=w.1/\WOk (many:Nat) a/\WsOk many told'/\told'.length<=told.length+1/\1<=told'.length/\SxB r s'/\∀(a1 a5 a11 a12 a13 a14 a15 a16:Option Sl) (acc:List D) (S:List Ob) (K N:Nat),acc.length<=9->K<S.length->N≠K->S[N]?=some (.dct (nmD kv))->
 L2.W (NB cd cs0 cw) ⟨[vw (.obj K),a1,vw (.obj N),vw (.lst (turn.map D.int)),vw (.str side),a5,some (.own acc),some (.own (told.map wdD)),vw (.str w.1),vw w.2.1.d,vw (.int w.2.2),a11,a12,a13,a14,a15,a16],S.set K (.dct s.l)⟩ λout t=>out=.next/\∃f11 f12 f13,t=⟨[vw (.obj K),a1,vw (.obj N),vw (.lst (turn.map D.int)),vw (.str side),a5,some (.own (acc++[wdD a])),some (.own (told'.map wdD)),vw (.str w.1),vw w.2.1.d,vw (.int w.2.2),f11,f12,f13,a14,a15,a16],S.set K (.dct s'.l)⟩:=by
 have hL:LIM=100000:=rfl;clear 5(Q9 hd hs hw w.2.1 w2 w1.dep s r b)v s1 v1 v2 b1 d1;obtain⟨o,ho,eo⟩:∃o,o∈nmU/\((nmO kv w.1).map D.str).getD (.str (Str.ofString "none"))=.str o:=by
  cases z:nmO kv w.1 with
  |none=>exact⟨_,ud1 _ (ug9.mpr rfl),rfl⟩
  |some y=>exact⟨y,Q3 (hk.get z),rfl⟩
 rcases hside with rfl|rfl
 .clear 5(Mt ht (.inl rfl) hT hl ho (p:=w.2.1) (q:=v) v1 v2 w1.lo w1.hi)told' t1 t2 t3 t4;refine⟨(w.1,w.2.1,w.2.2),told',s1,rfl,w1,t1,t2,t3,b1,λa1 a5 a11 a12 a13 a14 a15 a16 acc S K N hacc hK hN hg=>?_⟩;unfold NB;refine d1 _ _ _ _ _ _ _ _ _ _ _ _ _ _ _ _ _ S K hK ?_;unfold Q7;symm;refine NT rfl (by rw[ue5 (Ne.symm hN)];exact hg) ?_;symm;refine⟨_,rfl,by rw[ue5 (Ne.symm hN)];exact hg,?_⟩;rw[show(D.str "none")=D.str (Str.ofString "none") from rfl,eo];symm;rw[6,AM ∅];refine(t4 _ _ _ _ _ _ _ _ _ _ _ _).mono λout t z9=>?_;clear 5 z9 q1 q2;subst q1 q2;exact⟨rfl,_,_,_,rfl⟩
 .clear 5(Mt ht (.inr rfl) hT hl ho (p:=v) (q:=w.2.1) w1.ok w1.dep w1.lo w1.hi)told' t1 t2 t3 t4;refine⟨(w.1,v,w.2.2),told',s1,rfl,⟨v1,v2,w1.lo,w1.hi,w1.nm⟩,t1,t2,t3,b1,λa1 a5 a11 a12 a13 a14 a15 a16 acc S K N hacc hK hN hg=>?_⟩;unfold NB;refine d1 _ _ _ _ _ _ _ _ _ _ _ _ _ _ _ _ _ S K hK ?_;unfold Q7;symm;refine NT rfl (by rw[ue5 (Ne.symm hN)];exact hg) ?_;symm;refine⟨_,rfl,by rw[ue5 (Ne.symm hN)];exact hg,?_⟩;rw[show(D.str "none")=D.str (Str.ofString "none") from rfl,eo];symm;rw[6,AM ∅];refine(t4 _ _ _ _ _ _ _ _ _ _ _ _).mono λout t z9=>?_;clear 5 z9 q1 q2;subst q1 q2;exact⟨rfl,_,_,_,rfl⟩
theorem D4:AK xs (some (n:Int)) none=xs.drop n:=by
 by_cases h:n<=xs.length
 .have:=Qm (xs:=xs) (k:=(n:Int)) ∅ ∅
  rwa [uh8] at this
 .have h1:xs.drop n=[]:=uc9 ∅;rw[h1];unfold AK HT.sIx;have:min (n:Int) xs.length=xs.length:=by lia
  simp only[un2,ul6];refine List.take_eq_nil_iff.mpr ?_
  first
   |exact .inr (uc9 (by split<;>lia))
   |exact .inr (uc9 ∅)
theorem Rx(A M:List α)(k:Nat):(A.drop k++M++A.take k).Perm (A++M):=by
 refine ud8.trans ?_;rw[<-ui0,ud9]
theorem Iq{side:Str}(hside:side=Str.ofString "left"\/side=Str.ofString "right"){A M:List Wd7}(k:Nat)(a1:1<=A.length)(a2:A.length+M.length<=9)(a3:∀w∈A,WOk (many:Nat) w)(a4:∀w∈M,WOk (many:Nat) w)(a5:(A.map (·.1)).Nodup)(a6:∀x∈A.map (·.1),x∈nmU\/∃i,i<9/\x=Dh i){l:List Nat}(a7:M.map (·.1)=l.map DV)(a8:l.Nodup)(a9:∀j∈l,j<3):GY (many:Nat) (.st side (A.drop k++M++A.take k)):=by
 have p:=Rx A M k;have hl:(A.drop k++M++A.take k).length=A.length+M.length:=by rw[p.length_eq,ug7]
 have hx:∀x∈M.map (·.1),∃j,j<3/\x=DV j:=λx hx=>by
  rw[a7] at hx;clear 5(uq6.mp hx)j hj rfl;exact⟨j,a9 j hj,rfl⟩
 refine⟨.st hside ∅ ∅ ?_ λw hw=>?_,λw hw=>?_⟩
 .rw[(p.map _).nodup_iff,un5];refine ui4.mpr ⟨a5,?_,λx hA y hM z=>?_⟩
  .rw[a7];refine ui9.mpr (a8.imp_of_mem λ{i j} hi hj n z=>n ?_);have nd:=(ui4.mp (ui4.mp GB).2.1).2.1;have:=(uj4 (h₀:=by rw[um6,ui5];exact a9 i hi) (h₁:=by rw[um6,ui5];exact a9 j hj) nd).mp (by rw[ul4,ul4,uh3,uh3];exact z);exact this
  .clear 5(hx y hM)j hj rfl;exact TK hj (a6 x hA) z
 .rcases um1.mp (p.mem_iff.mp hw) with h|h
  .exact a3 w h
  .exact a4 w h
 .have hw:w∈A.drop k++M++A.take k:=hw;have key:w.1∈nmU++((List.range 9).map Dh++(List.range 3).map DV):=by
   rcases um1.mp (p.mem_iff.mp hw) with h|h
   .rcases a6 w.1 (ug3 h) with q|⟨i,hi,q⟩
    .exact ue4 _ q
    .exact ud1 _ (ue4 _ (uq6.mpr ⟨i,un8.mpr hi,q.symm⟩))
   .clear 5(hx w.1 (ug3 h))j hj q;exact ud1 _ (ud1 _ (uq6.mpr ⟨j,un8.mpr hj,q.symm⟩))
  exact(GC _ key).1
theorem Lm{cd cs0 cw:Fn}(hd:Bt cd)(hs:BC cs0 3)(hw:EL cw 3){kv:List (Str×Str)}(hk:KvOk kv){many:Nat}{turn:List Int}(ht:Trn many turn){side:Str}(hside:side=Str.ofString "left"\/side=Str.ofString "right"):∀(l:List Wd7) (told:List Wd7) (s:Sx) (r:Nat),(∀w∈l,WOk (many:Nat) w/\wz w.2.1=true)->WsOk many told->told.length+l.length<=9->SxB (r+200*l.length) s->∃(own told':List Wd7) (s':Sx),own.map (·.1)=l.map (·.1)/\(∀w∈own,WOk (many:Nat) w)/\WsOk many told'/\told'.length<=told.length+l.length/\(told.length=0\/1<=told.length)/\(1<=told.length\/1<=l.length->1<=told'.length)/\SxB r s'/\∀(a1 a5 a8 a9 a10 a11 a12 a13 a14 a15 a16:Option Sl) (acc:List D) (S:List Ob) (K N:Nat),acc.length+l.length<=9->K<S.length->N≠K->S[N]?=some (.dct (nmD kv))->
 L2.W (A1 (unS 3 (Ak (Aj 8) (Ak (Aj 9) (Ak (Aj 10) AJ)))) (NB cd cs0 cw) (l.map wdD)) ⟨[vw (.obj K),a1,vw (.obj N),vw (.lst (turn.map D.int)),vw (.str side),a5,some (.own acc),some (.own (told.map wdD)),a8,a9,a10,a11,a12,a13,a14,a15,a16],S.set K (.dct s.l)⟩ λout t=>out=.next/\XN6 λf8 f9 f10 f11 f12 f13=>t=⟨[vw (.obj K),a1,vw (.obj N),vw (.lst (turn.map D.int)),vw (.str side),a5,some (.own (acc++own.map wdD)),some (.own (told'.map wdD)),f8,f9,f10,f11,f12,f13,a14,a15,a16],S.set K (.dct s'.l)⟩
 |[],told,s,r,_,hT,hl,b=>⟨[],told,s,rfl,(λ_ h=>nomatch h),hT,by rw[un0];lia,by lia,λh=>by rw[un0] at h;lia,b.mono ∅,λa1 a5 a8 a9 a10 a11 a12 a13 a14 a15 a16 acc S K N _ _ _ _=>W_forL_nil.mpr ⟨rfl,_,_,_,_,_,_,by rw[up9,um3]⟩⟩
 |w::l,told,s,r,hwl,hT,hl,b=>by
   rw[uj8] at hl b;clear 5(hwl w ug5)w1 w2;clear 5(Q8 hd hs hw hk ht hside w w1 w2 hT ∅ s (r+200*l.length) (b.mono ∅))a t1 s1 e1 e2 e3 e4 e5 b1 d1;clear 5(Lm hd hs hw hk ht hside l t1 s1 r (λx m=>hwl x (ue3 _ m)) e3 ∅ b1)own t2 s2 g1 g2 g3 g4 g5 g6 b2 d2;refine⟨a::own,t2,s2,by rw[uo6,uo6,e1,g1],λx hx=>?_,g3,by rw[uj8];lia,by lia,λ_=>g6 (.inl e5),b2,λa1 a5 a8 a9 a10 a11 a12 a13 a14 a15 a16 acc S K N hacc hK hN hg=>?_⟩
   .rcases uo5.mp hx with rfl|hx
    .exact e2
    .exact g2 x hx
   rw[uj8] at hacc;rw[uo6,W_forL_cons];unfold wdD;symm;refine(d1 _ _ _ _ _ _ _ _ acc S K N ∅ hK hN hg).mono λout t z9=>?_;clear 5 z9 q1 f11 f12 f13 q2;subst q1 q2;refine(d2 _ _ _ _ _ _ _ _ _ _ _ (acc++[wdD a]) S K N (by rw[ug7,ud3];lia) hK hN hg).mono λout t z9=>?_;clear 5 z9 q1 f8 f9 f10 f11 f12 f13 q2;refine⟨q1,f8,f9,f10,f11,f12,f13,?_⟩;rw[q2,ui0];rfl
theorem Hn{cs0:Fn}(hs:BC cs0 3){many:Nat}(m0:1<=many):∀(l:List Nat) (s:Sx) (r:Nat),(∀k∈l,k<3)->SxB (r+40*l.length) s->∃(ms:List Wd7) (s':Sx),ms.map (·.1)=l.map DV/\(∀w∈ms,WOk (many:Nat) w)/\SxB r s'/\∀(z:Option Sl) (S:List Ob) (K:Nat),K<S.length->
 L2.W (AQ (Aj 0) BL (As (Aa (Ac (fC (.str "extra")) (Ac (fC (.str "abc")) (Ab 0) ixD) Aw) (Aa (Ag cs0 (Aa (Ab 1) (Aa (bM 1) Ad))) (Aa (bM 0) Ad)))) (l.map λk:Nat=>D.int (k:Int))) ⟨[z,vw (.obj K)],S.set K (.dct s.l)⟩ λq t'=>q=ms.map wdD/\t'.S=S.set K (.dct s'.l)
 |[],s,r,_,b=>⟨[],s,rfl,(λ_ h=>nomatch h),b.mono ∅,λz S K _=>W_compL_nil.mpr ⟨rfl,rfl⟩⟩
 |k::l,s,r,hl,b=>by
   rw[uj8] at b;have hk:=hl k ug5;clear 5(hs 1 s (r+40*l.length) (by decide) (b.mono (by show r+40*l.length+40<=_;lia)))sh s1 g1 g2 b1 d1;clear 5(Hn hs m0 l s1 r (λj m=>hl j (ue3 _ m)) b1)ms s2 q1 q2 b2 d2;refine⟨(DV k,sh,0)::ms,s2,by rw[uo6,uo6,q1],λx hx=>?_,b2,λz S K hK=>?_⟩
   .rcases uo5.mp hx with rfl|hx
    .exact⟨EV 3 (by dsimp only;lia) g2,by dsimp only;lia,Int.le_refl _,by dsimp only;lia,up6 (GC (DV k) (ud1 _ (ud1 _ (uq6.mpr ⟨_,un8.mpr hk,rfl⟩)))).2 (by decide)⟩
    .exact q2 x hx
   rw[uo6,BW];refine CH (Ju ?_);rw[eB rfl];symm;rw[6,P3 (by decide) (Wi hk)];rw[6,d1.use hK];refine(d2 _ S K hK).mono λq t' z9=>?_;clear 5 z9 e1 e2;subst e1;exact⟨rfl,e2⟩
def M2(f:Fn):Prop:=∀(many:Nat) (x:GS) (kv:List (Str×Str)) (turn:List Int) (s:Sx) (r:Nat),1<=many->GZN (many:Nat) x->KvOk kv->Trn many turn->SxB (r+2000) s->∃(y z:GS) (s':Sx),GY (many:Nat) y/\GY (many:Nat) z/\SxB r s'/\∀(S:List Ob) (K N:Nat),K<S.length->N≠K->S[N]?=some (.dct (nmD kv))->Wf f [.obj K,x.d,.obj N,.lst (turn.map D.int)] (S.set K (.dct s.l)) λq S'=>q=.lst [y.d,z.d]/\S'=S.set K (.dct s'.l)
theorem UI(hd:Bt cd)(hs:BC cs0 3)(hw:EL cw 3):M2 (fnOf 4 17 (Bv cd cs0 cw)):=by
 intro many x kv turn s r m0 hx hk ht b;have hL:LIM=100000:=rfl;clear 5 hx ok nm wzs
 cases ok with
 |fin=>
   refine⟨.fin,.fin,s,⟨.fin,λ_ h=>nomatch h⟩,⟨.fin,λ_ h=>nomatch h⟩,b.mono ∅,λS K N hK hN hg=>?_⟩;refine Ao rfl ?_;unfold Bv;rw[GS.d];symm;exact⟨rfl,rfl⟩
 |@st side ws hside h0 h9 hnd hwo=>
   have wzs':∀w∈ws,wz w.2.1=true:=wzs;have nm':∀w∈ws,w.1∈nm14:=nm;obtain⟨own,told,s1,o1,o2,o3,o4,_,o6,b1,d1⟩:=Lm hd hs hw hk ht hside ws [] s (r+130) (λw m=>⟨hwo w m,wzs' w m⟩) ⟨(λ_ h=>nomatch h),TN.nil⟩ (by rw[un0];lia) (b.mono ∅);have t1:=o6 (.inr h0);rw[un0,uq2] at o4;have ol:own.length=ws.length:=by have:=dQ List.length o1;rwa [um6,um6] at this
   clear 5(hd s1 3 (r+129) b1 (by decide) (by decide))x3 s2 x0 x1 b2 d2;clear 5(uc2 x0)x3 rfl;clear 5(Hn hs m0 (List.range x3) s2 (r+2) (λk hk=>by have:=un8.mp hk;lia) (b2.mono (by rw[ui5];lia)))ms s3 q1 q2 b3 d3;have ml:ms.length=x3:=by have:=dQ List.length q1;rwa [um6,um6,ui5] at this
   clear 5(hd s3 (ws.length:Nat) (r+1) b3 ∅ ∅)at_ s4 y0 y1 b4 d4;clear 5(hd s4 (ws.length:Nat) r b4 ∅ ∅)to s5 z0 z1 b5 d5;clear 5(uc2 y0)at_ rfl;clear 5(uc2 z0)to rfl;have hM:(ms.take (9-ws.length)).map (·.1)=((List.range x3).take (9-ws.length)).map DV:=by rw[uo9,q1,uo9]
   have hMo:∀w∈ms.take (9-ws.length),WOk (many:Nat) w:=λw h=>q2 w (uf3 h);have hMl:(ms.take (9-ws.length)).length<=9-ws.length:=by rw[uj5];lia
   have hRn:((List.range x3).take (9-ws.length)).Nodup:=ul3.sublist (uh7 _ _);have hR3:∀j∈(List.range x3).take (9-ws.length),j<3:=λj hj=>by have:=un8.mp (uf3 hj);lia
   have hOn:(own.map (·.1)).Nodup:=by rw[o1];exact hnd
   have hOi:∀x∈own.map (·.1),x∈nmU\/∃i,i<9/\x=Dh i:=λx hx=>by
    rw[o1] at hx;clear 5(uq6.mp hx)w hw rfl;exact .inl (Q3 (nm' w hw))
   have hTi:∀x∈told.map (·.1),x∈nmU\/∃i,i<9/\x=Dh i:=λx hx=>by
    rcases o3.tn.in_ x hx with h|⟨j,hj,h⟩
    .exact .inl h
    .rw[um6] at hj;exact .inr ⟨j,by lia,h⟩
   have er:By 0 ((x3:Int)).toNat=(List.range x3).map λk:Nat=>D.int (k:Int):=by unfold By;simp
   have e9:(9:Int)-((ws.map wdD).length:Nat)=((9-ws.length:Nat):Int):=by rw[um6];lia
   have mA:∀(A M:List Wd7) (k:Nat),(A.map wdD).drop k++(M.map wdD)++(A.map wdD).take k=(A.drop k++M++A.take k).map wdD:=λA M k=>by rw[un5,un5,up0,uo9]
   have mB:∀(A:List Wd7) (k:Nat),(A.map wdD).drop k++(A.map wdD).take k=(A.drop k++[]++A.take k).map wdD:=λA k=>by rw[um3,un5,up0,uo9]
   have eM:(ms.map wdD).take (9-ws.length)=(ms.take (9-ws.length)).map wdD:=by rw[uo9]
   rcases hside with rfl|rfl
   .refine⟨.st (Str.ofString "left") (own.drop to++[]++own.take to),.st (Str.ofString "left") (told.drop at_++ms.take (9-ws.length)++told.take at_),s5,Iq (l:=[]) (.inl rfl) to ∅ (by rw[un0];lia) o2 (λ_ h=>nomatch h) hOn hOi rfl un9 (λ_ h=>nomatch h),Iq (.inl rfl) at_ t1 ∅ o3.ok hMo o3.tn.nd hTi hM hRn hR3,b5,λS K N hK hN hg=>?_⟩;refine Ao rfl ?_;unfold Bv;rw[GS.d];symm;refine(d1 _ _ _ _ _ _ _ _ _ _ _ [] S K N (by rw[un0];lia) hK hN hg).mono λout t z9=>?_;clear 5 z9 u1 f8 f9 f10 f11 f12 f13 u2;subst u1 u2;rw[um8];symm;rw[6,d2.use hK];refine DK (CB (m:=3) ∅) ?_;rw[er];refine(d3 _ S K hK).mono λq t' z9=>?_;clear 5 z9 u1 u2;subst u1;refine AM (by rw[um6];lia) ?_;rw[u2];symm;rw[um6];rw[6,d4.use hK];rw[um6];rw[6,d5.use hK];rw[e9,Ck (xs:=ms.map wdD),eM,D4,Ck];refine AM (by rw[uj6,uj5,um6];lia) ?_;symm;rw[D4];refine AM (by rw[uj6,um6,um6];lia) ?_;symm;rw[Ck];refine AM (by rw[ug7,uj6,uj5,um6,um6];lia) ?_;symm;rw[mA,mB];exact⟨rfl,rfl⟩
   .refine⟨.st (Str.ofString "right") (own.drop at_++ms.take (9-ws.length)++own.take at_),.st (Str.ofString "right") (told.drop to++[]++told.take to),s5,Iq (.inr rfl) at_ ∅ ∅ o2 hMo hOn hOi hM hRn hR3,Iq (l:=[]) (.inr rfl) to t1 (by rw[un0];lia) o3.ok (λ_ h=>nomatch h) o3.tn.nd hTi rfl un9 (λ_ h=>nomatch h),b5,λS K N hK hN hg=>?_⟩;refine Ao rfl ?_;unfold Bv;rw[GS.d];symm;refine(d1 _ _ _ _ _ _ _ _ _ _ _ [] S K N (by rw[un0];lia) hK hN hg).mono λout t z9=>?_;clear 5 z9 u1 f8 f9 f10 f11 f12 f13 u2;subst u1 u2;rw[um8];symm;rw[6,d2.use hK];refine DK (CB (m:=3) ∅) ?_;rw[er];refine(d3 _ S K hK).mono λq t' z9=>?_;clear 5 z9 u1 u2;subst u1;refine AM (by rw[um6];lia) ?_;rw[u2];symm;rw[um6];rw[6,d4.use hK];rw[um6];rw[6,d5.use hK];rw[e9,Ck (xs:=ms.map wdD),eM,D4];refine AM (by rw[uj6,um6,um6];lia) ?_;symm;rw[Ck];refine AM (by rw[ug7,uj6,uj5,um6,um6];lia) ?_;symm;rw[D4,Ck];refine AM (by rw[uj6,uj5,um6];lia) ?_;symm;rw[mA,mB];exact⟨rfl,rfl⟩
set_option tactic.hygienic true in
theorem En{g:Gd}{st:D->M Unit}{b:M Out}{t:T}{P:Out->T->Prop}(h:Gon g t.S)(q:P .next t):W (forG g st b []) t P:=by
 unfold forG;exact W_bnd.mpr ⟨_,_,Ic h,W_ret.mpr q⟩
theorem Dd{g:Gd}{st:D->M Unit}{b:M Out}{d:D}{t:T}{P:Out->T->Prop}(h:Gon g t.S)(q:W (st d) t λ_ t1=>W b t1 λo t2=>o=.next/\W (forG g st b r) t2 P):W (forG g st b (d::r)) t P:=by
 rw[forG];refine W_bnd.mpr ⟨_,_,Ic h,W_bnd.mpr (q.mono λ_ t1 q=>W_bnd.mpr (q.mono λo t2 q=>?_))⟩;clear 5 q rfl q;exact q
theorem HR{f:M (Gd×List D)}{st:D->M Unit}{b:M Out}{t:T}{P:Out->T->Prop}(h:W f t λp t1=>W (forG p.1 st b p.2) t1 P):W (FQ f st b) t P:=W_bnd.mpr h
theorem JX{g:Gd}{st:D->M Unit}{t:T}{P:List D->T->Prop}(h:Gon g t.S)(q:P [] t):W (compG g st tst elt []) t P:=by
 unfold compG;exact W_bnd.mpr ⟨_,_,Ic h,W_ret.mpr q⟩
set_option tactic.hygienic true in
theorem IT{g:Gd}{st:D->M Unit}{d:D}{t:T}{P:List D->T->Prop}(h:Gon g t.S)(q:W (st d) t λ_ t1=>W tst t1 λk t2=>
 if k=true then W elt t2 λx t3=>W (compG g st tst elt r) t3 λxs t4=>P (x::xs) t4 else W (compG g st tst elt r) t2 P):W (compG g st tst elt (d::r)) t P:=by
 rw[compG];refine W_bnd.mpr ⟨_,_,Ic h,W_bnd.mpr (q.mono λ_ t1 q=>W_bnd.mpr (q.mono λk t2 q=>?_))⟩
 split
 .next hk=>
  rw[eB hk] at q;exact W_bnd.mpr (q.mono λx t3 q=>W_bnd.mpr (q.mono λxs t4 q=>W_ret.mpr q))
 .next hk=>
  rw[eC hk] at q;exact q
theorem Sa{fr:List Nat}{f:M (Gd×List D)}{st:D->M Unit}{t:T}{P:List D->T->Prop}(h:W f t λp t1=>W (compG p.1 st tst elt p.2) ⟨cenv n fr t1.env,t1.S⟩ λxs t2=>EX xs.length (P xs {t1 with S:=t2.S})):W (Gk n fr f st tst elt) t P:=by
 refine W_bnd.mpr (h.mono λp t1 h=>?_);clear 5 h xs t2 e l q;refine⟨xs,_,?_,q⟩;simp only[e,eB l]
theorem IL{t:T}{P:Gd×List D->T->Prop}(h:W f t λd t1=>W (Ff d) t1 P):W (Hv f) t P:=W_bnd.mpr h
theorem Hd{k:Nat}{t:T}{P:Gd×List D->T->Prop}(e:t.S[k]?=some (.lst ds))(h:P (some (k,ds),ds) t):W (Ff (.obj k)) t P:=⟨_,_,by simp only[Ff,e],h⟩
theorem VL{t:T}{P:Gd×List D->T->Prop}(h:P (none,ds) t):W (Ff (.lst ds)) t P:=⟨_,_,rfl,h⟩
theorem Nr:Gon none S:=λ_ _ z=>nomatch z
theorem P5{t:T}{P:Out->T->Prop}(e:t.env[i]?=some (some (.own xs)))(h:P (.ret (.lst xs)) ⟨t.env.set i none,t.S⟩):W (Fp i) t P:=⟨_,_,by simp only[Fp,e],h⟩
theorem MD{cd:Fn}(hd:Bt cd){many:Nat}(m1:many<=30):∀(l:List Wd7) (s:Sx) (r:Nat),(∀w∈l,WOk (many:Nat) w)->SxB (r+l.length) s->∃(l':List Wd7) (s':Sx),l'.map (·.1)=l.map (·.1)/\(∀w∈l',WOk ((2*many:Nat):Int) w)/\SxB r s'/\∀(z0 z1 z2:Option Sl) (S:List Ob) (K:Nat),K<S.length->
 L2.W (AQ (unS 3 (Ak (Aj 0) (Ak (Aj 1) (Ak (Aj 2) AJ)))) BL (As (Aa (Ab 0) (Aa (Ab 1) (Aa (Ac (Ab 2) (Ac (Ab 3) (Ag cd (Aa (Ab 4) (Aa (bM 2) Ad))) Ct) Aw) Ad)))) (l.map wdD)) ⟨[z0,z1,z2,vw (.int (many:Nat)),vw (.obj K)],S.set K (.dct s.l)⟩ λq t'=>q=l'.map wdD/\t'.S=S.set K (.dct s'.l)
 |[],s,r,_,b=>⟨[],s,rfl,(λ_ h=>nomatch h),b.mono ∅,λz0 z1 z2 S K _=>W_compL_nil.mpr ⟨rfl,rfl⟩⟩
 |w::l,s,r,hw,b=>by
   rw[uj8] at b;have w1:=hw w ug5;clear 5(hd s 2 (r+l.length) (b.mono ∅) (by decide) (by decide))x s1 x0 x1 b1 d1;clear 5(MD hd m1 l s1 r (λy m=>hw y (ue3 _ m)) b1)l' s2 g1 g2 b2 d2;have hp:0<=(many:Int)*x/\(many:Int)*x<=many:=by
    have:x=0\/x=1:=by lia
    rcases this with rfl|rfl<;>lia
   refine⟨(w.1,w.2.1,w.2.2+(many:Int)*x)::l',s2,by rw[uo6,uo6,g1],λy hy=>?_,b2,λz0 z1 z2 S K hK=>?_⟩
   .rcases uo5.mp hy with rfl|hy
    .have a:=w1.lo;have b:=w1.hi;refine⟨w1.ok,w1.dep,?_,?_,w1.nm⟩
     .show 0<=w.2.2+(many:Int)*x;lia
     .show w.2.2+(many:Int)*x<_;lia
    .exact g2 y hy
   rw[uo6,BW];unfold wdD;symm;rw[eB rfl];symm;refine d1.use hK ?_;rw[6,DP (CF ∅ ∅)];refine(d2 _ _ _ S K hK).mono λq t' z9=>?_;clear 5 z9 e1 e2;subst e1;exact⟨rfl,e2⟩
theorem HH{cd:Fn}(hd:Bt cd){many:Nat}(m1:many<=30):∀(l:List GS) (s:Sx) (r:Nat),(∀x∈l,GY (many:Nat) x)->SxB (r+9*l.length) s->∃(l':List GS) (s':Sx),l'.length=l.length/\(∀x∈l',GY ((2*many:Nat):Int) x)/\SxB r s'/\∀(e4:Option Sl) (acc ds0:List D) (S:List Ob) (K H:Nat),acc.length+l.length<=50->K<S.length->H≠K->S[H]?=some (.lst ds0)->
 L2.W (forG (some (H,ds0)) (Aj 4) (Nq cd) (l.map GS.d)) ⟨[vw (.obj K),vw (.obj H),vw (.int (many:Nat)),some (.own acc),e4],S.set K (.dct s.l)⟩ λo t=>o=.next/\∃f4,t=⟨[vw (.obj K),vw (.obj H),vw (.int (many:Nat)),some (.own (acc++l'.map GS.d)),f4],S.set K (.dct s'.l)⟩
 |[],s,r,_,b=>⟨[],s,rfl,(λ_ h=>nomatch h),b.mono ∅,λe4 acc ds0 S K H _ _ hH hg=>En (λk ds e=>by cases e;rw[ue5 (Ne.symm hH)];exact hg) ⟨rfl,_,by rw[up9,um3]⟩⟩
 |x::l,s,r,hx,b=>by
   rw[uj8] at b;have hL:LIM=100000:=rfl;have x1:=hx x ug5;have gon:∀{S:List Ob}{K H:Nat}{ds0:List D}{o:Ob},H≠K->S[H]?=some (.lst ds0)->Gon (some (H,ds0)) (S.set K o):=λhH hg k ds e=>by cases e;rw[ue5 (Ne.symm hH)];exact hg
   cases x with
   |fin=>
     clear 5(HH hd m1 l s r (λy m=>hx y (ue3 _ m)) (b.mono ∅))l' s2 g1 g2 b2 d2;refine⟨.fin::l',s2,by rw[uj8,uj8,g1],λy hy=>?_,b2,λe4 acc ds0 S K H hacc hK hH hg=>?_⟩
     .rcases uo5.mp hy with rfl|hy
      .exact⟨.fin,λ_ h=>nomatch h⟩
      .exact g2 y hy
     rw[uj8] at hacc;rw[uo6];refine Dd (gon hH hg) ?_;rw[GS.d];unfold Nq;symm;refine AM ∅ ?_;refine⟨rfl,?_⟩;refine(d2 _ (acc++[GS.fin.d]) ds0 S K H (by rw[ug7,ud3];lia) hK hH hg).mono λo t z9=>?_;clear 5 z9 q1 f4 q2;refine⟨q1,f4,?_⟩;rw[q2,ui0];rfl
   |st side ws=>
     clear 5 x1 ok ne
     cases ok with
     |st hside h0 h9 hnd hwo=>
     clear 5(MD hd m1 ws s (r+9*l.length) hwo (b.mono ∅))ws' s1 q1 q2 b1 d1;clear 5(HH hd m1 l s1 r (λy m=>hx y (ue3 _ m)) b1)l' s2 g1 g2 b2 d2;have wl:ws'.length=ws.length:=by have:=dQ List.length q1;rwa [um6,um6] at this
     refine⟨.st side ws'::l',s2,by rw[uj8,uj8,g1],λy hy=>?_,b2,λe4 acc ds0 S K H hacc hK hH hg=>?_⟩
     .rcases uo5.mp hy with rfl|hy
      .refine⟨.st hside ∅ ∅ (by rw[q1];exact hnd) q2,λw hw=>?_⟩;have:w.1∈ws'.map (·.1):=ug3 hw;rw[q1] at this;clear 5(uq6.mp this)v hv e;rw[<-e];exact ne v hv
      .exact g2 y hy
     rw[uj8] at hacc;rw[uo6];refine Dd (gon hH hg) ?_;rw[GS.d];unfold Nq;symm;refine(d1 _ _ _ S K hK).mono λq t' z9=>?_;clear 5 z9 e1 e2;subst e1;refine AM (by rw[um6];lia) ?_;rw[e2];symm;refine AM ∅ ?_;refine⟨rfl,?_⟩;refine(d2 _ (acc++[(GS.st side ws').d]) ds0 S K H (by rw[ug7,ud3];lia) hK hH hg).mono λo t z9=>?_;clear 5 z9 q1 f4 q2;refine⟨q1,f4,?_⟩;rw[q2,ui0];rfl
def P9(f:Fn):Prop:=∀(many:Nat) (g:List GS) (s:Sx) (r:Nat),many<=30->(∀x∈g,GY (many:Nat) x)->g.length<=50->SxB (r+9*g.length) s->∃(g':List GS) (s':Sx),g'.length=g.length/\(∀x∈g',GY ((2*many:Nat):Int) x)/\SxB r s'/\∀(S:List Ob) (K H:Nat),K<S.length->H≠K->S[H]?=some (.lst (g.map GS.d))->Wf f [.obj K,.obj H,.int (many:Nat)] (S.set K (.dct s.l)) λq S'=>q=.lst (g'.map GS.d)/\S'=S.set K (.dct s'.l)
theorem Uc(hd:Bt cd):P9 (fnOf 3 5 (Dr cd)):=by
 intro many g s r m1 hg hl b;clear 5(HH hd m1 g s r hg b)g' s1 g1 g2 b1 d1;refine⟨g',s1,g1,g2,b1,λS K H hK hH hgt=>?_⟩;rw[9,Dr];refine HR (IL (Bp rfl (Hd (ds:=g.map GS.d) (by rw[ue5 (Ne.symm hH)];exact hgt) ?_)));refine(d1 _ [] (g.map GS.d) S K H (by rw[un0];lia) hK hH hgt).mono λo t z9=>?_;clear 5 z9 q1 f4 q2;subst q1 q2;rw[um8];refine ER ?_;refine P5 rfl ?_;exact⟨rfl,rfl⟩
theorem Dw.on{f:Fn}{as:List D}{s':Sx}{v:D}(d:Dw f as s v s'){S:List Ob}{K:Nat}(hK:S[K]?=some (.dct s.l)){P:D->List Ob->Prop}(p:P v (S.set K (.dct s'.l))):Wf f (.obj K::as) S P:=by
 rw[<-DI hK];exact d.use (AS hK) p
def FD(n:Nat)(xs:List D)(P:List Nat):Prop:=∀i∈P,∃x:GS,GY (n:Nat) x/\xs[i]?=some x.d
theorem FD.set{n:Nat}{xs:List D}{P:List Nat}(h:FD n xs P){i:Nat}(hi:i<xs.length){y:GS}(hy:GY (n:Nat) y):FD n (xs.set i y.d) (i::P):=λj hj=>by
 by_cases e:i=j
 .subst e;exact⟨y,hy,uc3 hi⟩
 .rcases uo5.mp hj with q|q
  .exact absurd q.symm e
  .clear 5(h j q)x h1 h2;exact⟨x,h1,by rw[ue5 e];exact h2⟩
theorem Mh{n:Nat}:∀{xs:List D},(∀d∈xs,∃x:GS,GY (n:Nat) x/\d=x.d)->∃G:List GS,xs=G.map GS.d/\∀x∈G,GY (n:Nat) x
 |[],_=>⟨[],rfl,λ_ h=>nomatch h⟩
 |d::r,h=>by
   clear 5(h d ug5)x h1 h2;obtain⟨G,g1,g2⟩:=Mh (n:=n) (xs:=r) λy m=>h y (ue3 _ m);exact⟨x::G,by rw[uo6,h2,g1],λy hy=>by
    rcases uo5.mp hy with rfl|hy
    .exact h1
    .exact g2 y hy⟩
theorem FD.all{P:List Nat}(h:FD n xs P)(hp:∀i,i<xs.length->i∈P):∃G:List GS,xs=G.map GS.d/\∀x∈G,GY (n:Nat) x:=Mh λd hd=>by
 clear 5(ue7.mp hd)i hi e;clear 5(h i (hp i hi))x h1 h2;rw[ub5 hi,e] at h2;exact⟨x,h1,ul9 h2⟩
structure PF(S0:List Ob)(many K N A B:Nat)(s:Sx)(kv:List (Str×Str))(xs ys:List D)(S:List Ob):Prop where
 gr:Gr S0 S
 k:S[K]?=some (.dct s.l)
 n:S[N]?=some (.dct (nmD kv))
 a:S[A]?=some (.lst xs)
 b:S[B]?=some (.lst ys)
 xl:xs.length=2*many
 yl:ys.length=2*many
 ab:A≠B
 kn:K≠N
 lo:S0.length<=K/\S0.length<=N/\S0.length<=A/\S0.length<=B
theorem Gr.set72{S0:List Ob}(h:Gr S0 S)(hi:S0.length<=i):Gr S0 (S.set i o):=⟨by rw[um7];exact h.1,λj hj=>by rw[ue5 ∅];exact h.2 j hj⟩
theorem Gr.app72{S0:List Ob}{x:List Ob}(h:Gr S0 S):Gr S0 (S++x):=⟨by rw[ug7];have:=h.1;lia,λj hj=>by rw[ub1 (by have:=h.1;lia)];exact h.2 j hj⟩
section
variable{S0:List Ob}{many K N A B:Nat}{s:Sx}{kv:List (Str×Str)}{xs ys:List D}{S:List Ob}
theorem PF.app(h:PF S0 many K N A B s kv xs ys S){x:List Ob}:PF S0 many K N A B s kv xs ys (S++x):=
 ⟨h.gr.app72,by rw[ub1 (AS h.k)];exact h.k,by rw[ub1 (AS h.n)];exact h.n,by rw[ub1 (AS h.a)];exact h.a,by rw[ub1 (AS h.b)];exact h.b,h.xl,h.yl,h.ab,h.kn,h.lo⟩
theorem PF.setO(h:PF S0 many K N A B s kv xs ys S){O:Nat}(o1:O≠K)(o2:O≠N)(o3:O≠A)(o4:O≠B)(o5:S0.length<=O){o:Ob}:PF S0 many K N A B s kv xs ys (S.set O o):=
 ⟨h.gr.set72 o5,by rw[ue5 o1];exact h.k,by rw[ue5 o2];exact h.n,by rw[ue5 o3];exact h.a,by rw[ue5 o4];exact h.b,h.xl,h.yl,h.ab,h.kn,h.lo⟩
theorem PF.setA(h:PF S0 many K N A B s kv xs ys S){i:Nat}{d:D}:PF S0 many K N A B s kv (xs.set i d) ys (S.set A (.lst (xs.set i d))):=
 ⟨h.gr.set72 h.lo.2.2.1,by rw[ue5 (AH h.a h.k (by simp))];exact h.k,by rw[ue5 (AH h.a h.n (by simp))];exact h.n,Bx h.a,by rw[ue5 h.ab];exact h.b,by rw[um7];exact h.xl,h.yl,h.ab,h.kn,h.lo⟩
theorem PF.setB(h:PF S0 many K N A B s kv xs ys S){i:Nat}{d:D}:PF S0 many K N A B s kv xs (ys.set i d) (S.set B (.lst (ys.set i d))):=
 ⟨h.gr.set72 h.lo.2.2.2,by rw[ue5 (AH h.b h.k (by simp))];exact h.k,by rw[ue5 (AH h.b h.n (by simp))];exact h.n,by rw[ue5 (Ne.symm h.ab)];exact h.a,Bx h.b,h.xl,by rw[um7];exact h.yl,h.ab,h.kn,h.lo⟩
theorem PF.setK(h:PF S0 many K N A B s kv xs ys S){s':Sx}:PF S0 many K N A B s' kv xs ys (S.set K (.dct s'.l)):=
 ⟨h.gr.set72 h.lo.1,Bx h.k,by rw[ue5 h.kn];exact h.n,by rw[ue5 (AH h.k h.a (by simp))];exact h.a,by rw[ue5 (AH h.k h.b (by simp))];exact h.b,h.xl,h.yl,h.ab,h.kn,h.lo⟩
end
def Rh(Bu:Fn):M Out:=
 (Cc (Ag Bu (Aa (Ab 10) (Aa (Ac (Ab 3) (Ab 9) ixD) (Aa (Ab 4) (Aa (Ab 6) Ad))))) (unS 2 (Ak (stD (Ab 7) (Ac (Ab 9) (Ab 11) Aw)) (Ak (stD (Ab 8) (Ac (Ac (Ab 6) (Ab 9) ixD) (Ab 11) Aw)) AJ))))
theorem Lc{co:Fn}(ho:M2 co){S0:List Ob}{many K N A B:Nat}{s:Sx}{kv:List (Str×Str)}(m0:1<=many)(hk:KvOk kv){turn:List Int}(ht:Trn many turn){base:List GS}(hb:GZ7 many base){k a tv:Nat}(hk0:k<many)(ha:a=0\/a=many)(etv:atI (turn.map D.int) (k:Int)=some (.int (tv:Nat)))(htv:tv<many){P Q:List Nat}{xs ys:List D}{S:List Ob}{O r:Nat}{so:Sx}{a0 a1 a2 a5:Option Sl}(h:PF S0 many K N A B s kv xs ys S)(hO:S[O]?=some (.dct so.l))(oK:O≠K)(oN:O≠N)(o0:S0.length<=O)(hx:FD many xs P)(hy:FD many ys Q)(b:SxB (r+2000) so) :
 L2.W (Rh co) ⟨[a0,a1,a2,vw (.lst (base.map GS.d)),vw (.obj N),a5,vw (.lst (turn.map D.int)),vw (.obj A),vw (.obj B),vw (.int (k:Nat)),vw (.obj O),vw (.int (a:Nat))],S⟩ λo t=>o=.next/\∃xs' ys' S' so',t=⟨[a0,a1,a2,vw (.lst (base.map GS.d)),vw (.obj N),a5,vw (.lst (turn.map D.int)),vw (.obj A),vw (.obj B),vw (.int (k:Nat)),vw (.obj O),vw (.int (a:Nat))],S'⟩/\PF S0 many K N A B s kv xs' ys' S'/\S'[O]?=some (.dct so'.l)/\SxB r so'/\FD many xs' ((k+a)::P)/\FD many ys' ((tv+a)::Q):=by
 have bl:=hb.len;have hkb:k<base.length:=by lia
 clear 5(ho many base[k] kv turn so r m0 (hb.ok _ (uk6 hkb)) hk ht b)y z s1 y1 z1 b1 d1;have eb:atI (base.map GS.d) (k:Int)=some (base[k]).d:=by
  unfold atI;rw[BG ∅ (by rw[um6];lia)];show(base.map GS.d)[((k:Nat):Int).toNat]?=_;rw[uh8,uh6,ub5 hkb];rfl
 have oA:O≠A:=AH hO h.a (by simp);have oB:O≠B:=AH hO h.b (by simp);have ha2:a<=many:=by lia
 unfold Rh;symm;rw[6,AC eb];rw[<-DI hO];refine(d1 S O N (AS hO) (Ne.symm oN) h.n).mono λq S1 z9=>?_;clear 5 z9 q1 q2;subst q1 q2;have h1:PF S0 many K N A B s kv xs ys (S.set O (.dct s1.l)):=h.setO oK oN oA oB o0;have hO1:(S.set O (.dct s1.l))[O]?=some (.dct s1.l):=Bx hO;generalize S.set O (.dct s1.l)=S1 at h1 hO1⊢;symm;rw[show(k:Int)+(a:Int)=((k+a:Nat):Int) by lia];refine NZ h1.a (BG ∅ (by rw[h1.xl];lia)) ?_;rw[show(((k+a:Nat):Int)).toNat=k+a from uh8 _];have h2:=h1.setA (i:=k+a) (d:=y.d);symm;rw[6,AC etv];rw[show(tv:Int)+(a:Int)=((tv+a:Nat):Int) by lia];refine NZ h2.b (BG ∅ (by rw[h2.yl];lia)) ?_;rw[show(((tv+a:Nat):Int)).toNat=tv+a from uh8 _];have h3:=h2.setB (i:=tv+a) (d:=z.d);symm;refine⟨rfl,_,_,_,s1,rfl,h3,?_,b1,hx.set (by rw[h1.xl];lia) y1,hy.set (by rw[h1.yl];lia) z1⟩;rw[ue5 (Ne.symm oB),ue5 (Ne.symm oA)];exact hO1
def Xm(Bu AV:Fn):M Out:=
 (Ah (Am 10 (Ag AV (Aa (Ab 0) (Aa (Ac (bM 8) (Ab 9) Aw) Ad))))
 (Ba (BH (Al (Av (Aa (bM 0) (Aa (Ab 2) Ad))))) (Aj 11) (Rh Bu)))
theorem Ld{co cst:Fn}(ho:M2 co)(hst:DQ cst){ns:List Int}(hn:ns.length<=63){S0:List Ob}{many K N A B:Nat}{s:Sx}{kv:List (Str×Str)}(m0:1<=many)(m1:many<=30)(hk:KvOk kv){turn:List Int}(ht:Trn many turn){base:List GS}(hb:GZ7 many base){tf:Nat->Nat}(etf:∀k,k<many->atI (turn.map D.int) (k:Int)=some (.int (tf k:Nat))/\tf k<many){a1 a5:Option Sl}:∀(l:List Nat) (P Q:List Nat) (xs ys:List D) (S:List Ob) (e9 e10 e11:Option Sl),(∀k∈l,k<many)->PF S0 many K N A B s kv xs ys S->FD many xs P->FD many ys Q->
 L2.W (A1 (Aj 9) (Xm co cst) (l.map λk:Nat=>D.int (k:Int))) ⟨[vw (.scr ns),a1,vw (.int (many:Nat)),vw (.lst (base.map GS.d)),vw (.obj N),a5,vw (.lst (turn.map D.int)),vw (.obj A),vw (.obj B),e9,e10,e11],S⟩ λo t=>o=.next/\XN8 λxs' ys' S' f9 f10 f11 P' Q'=>AN7 (t=⟨[vw (.scr ns),a1,vw (.int (many:Nat)),vw (.lst (base.map GS.d)),vw (.obj N),a5,vw (.lst (turn.map D.int)),vw (.obj A),vw (.obj B),f9,f10,f11],S'⟩) (PF S0 many K N A B s kv xs' ys' S') (FD many xs' P') (FD many ys' Q') ((∀i∈P,i∈P')) ((∀i∈Q,i∈Q')) (∀k∈l,k∈P'/\k+many∈P'/\tf k∈Q'/\tf k+many∈Q')
 |[],P,Q,xs,ys,S,e9,e10,e11,_,h,hx,hy=>W_forL_nil.mpr ⟨rfl,xs,ys,S,_,_,_,P,Q,rfl,h,hx,hy,λ_ m=>m,λ_ m=>m,λ_ m=>nomatch m⟩
 |k::l,P,Q,xs,ys,S,e9,e10,e11,hl,h,hx,hy=>by
   have hk0:=hl k ug5;clear 5(etf k hk0)et1 et2;clear 5(hst ns (8+k) hn ∅)so bo d0;rw[uo6,W_forL_cons];unfold Xm;symm;rw[show(8:Int)+(k:Int)=((8+k:Nat):Int) by lia];refine(d0 S).mono λq S1 z9=>?_;clear 5 z9 q1 q2;subst q1 q2;have h1:PF S0 many K N A B s kv xs ys (S++[.dct so.l]):=h.app;have hO1:(S++[Ob.dct so.l])[S.length]?=some (.dct so.l):=A4;symm;rw[W_forL_cons];refine CH ?_;refine(Lc (a:=0) (P:=P) (Q:=Q) (r:=2000) ho m0 hk ht hb hk0 (.inl rfl) et1 et2 h1 hO1 (up8 (AS h.k)) (up8 (AS h.n)) h.gr.1 hx hy ⟨bo.1,by have:=bo.2;lia⟩).mono λo t z9=>?_;clear 5 z9 q1 xs1 ys1 S1 s1 q2 h2 hO2 b2 x2 y2;subst q1 q2;dsimp only;rw[W_forL_cons];refine CH ?_;refine(Lc (a:=many) (P:=(k+0)::P) (Q:=(tf k+0)::Q) (r:=0) ho m0 hk ht hb hk0 (.inr rfl) et1 et2 h2 hO2 (up8 (AS h.k)) (up8 (AS h.n)) h.gr.1 x2 y2 b2).mono λo t z9=>?_;clear 5 z9 q1 xs2 ys2 S2 s2 q2 h3 hO3 b3 x3 y3;subst q1 q2;dsimp only;rw[W_forL_nil];dsimp only;refine(Ld ho hst hn m0 m1 hk ht hb etf l _ _ xs2 ys2 S2 _ _ _ (λj m=>hl j (ue3 _ m)) h3 x3 y3).mono λo t z9=>?_;clear 5 z9 q1 xs' ys' S' f9 f10 f11 P' Q' q2 h4 x4 y4 pp qq all;refine⟨q1,xs',ys',S',f9,f10,f11,P',Q',q2,h4,x4,y4,λi hi=>pp i (ue3 _ (ue3 _ hi)),λi hi=>qq i (ue3 _ (ue3 _ hi)),λj hj=>?_⟩;rcases uo5.mp hj with rfl|hj
   .exact⟨pp _ (ue3 _ ug5),pp _ ug5,qq _ (ue3 _ ug5),qq _ ug5⟩
   .exact all j hj
theorem X8{l u:M (Option Int)}{t:T}(h:L2.W f t λd t1=>L2.W l t1 λa t2=>L2.W u t2 λb t3=>L2.W (slF d a b) t3 Q):L2.W (Ja f l u) t Q:=C7 (h.mono λ_ _ h=>C7 (h.mono λ_ _ h=>C7 h))
theorem VO{k:Nat}{lo hi:Option Int}{t:T}(e:t.S[k]?=some (.lst ds))(h:Q (AK ds lo hi) t):L2.W (slF (.obj k) lo hi) t Q:=⟨_,_,by simp only[slF,e],h⟩
theorem R8{g:Fn}{f:M (List D)}{t:T}{P:List D->T->Prop}(h:L2.W f t λds t1=>Wf g ds t1.S λr S'=>∃rs,r=.lst rs/\P rs ⟨t1.env,S'⟩):L2.W (Et g f) t P:=by
 refine C7 (h.mono λds t1 h=>?_);clear 5 h r S' e rs rfl p;exact⟨rs,_,by simp only[e],p⟩
theorem MT{k:Int}{t:T}(h1:small k=true/\xs.length*k.toNat<=LIM)(h:Q (List.replicate k.toNat xs).flatten t):L2.W (Li (.lst xs) (.int k)) t Q:=⟨_,_,by show(if _ then _ else _)=_;rw[eB h1],h⟩
structure GG(g:List GS):Prop where
 l1:1<=g.length
 l2:g.length<=10
 ok:∀x∈g,GY (g.length:Nat) x
def Xc(cf:Fn)(i:Nat)(idx:M D):M D:=Ac (Al (Av (Aa (C5 (Ja (Ab i) fNo (Bc (Ab 2)))) (Aa (C5 (Et cf (Aa (Ab 1) (Aa (Ab i) (Aa (Ab 2) Ad))))) Ad)))) idx ixD
theorem pck{cf:Fn}(hf:P9 cf){many K A i r:Nat}{s:Sx}{g:List GS}(m0:1<=many)(m1:many<=5)(gl:g.length=2*many)(hg:∀x∈g,GY (many:Nat) x){S:List Ob}{env:List (Option Sl)}(hK:S[K]?=some (.dct s.l))(hA:S[A]?=some (.lst (g.map GS.d)))(b:SxB (r+90) s)(e1:env[1]?=some (vw (.obj K)))(e2:env[2]?=some (vw (.int (many:Nat))))(e3:env[i]?=some (vw (.obj A))){idx:M D}{j:Int}(j0:0<=j)(j1:j<2)(hi:∀(S':List Ob) (P:D->T->Prop),P (.int j) ⟨env,S'⟩->L2.W idx ⟨env,S'⟩ P) :
 L2.W (Xc cf i idx) ⟨env,S⟩ λq t=>∃(A':Nat) (S':List Ob) (g':List GS) (s':Sx),q=.obj A'/\t=⟨env,S'⟩/\Kp K S S'/\S'[K]?=some (.dct s'.l)/\SxB r s'/\S'[A']?=some (.lst (g'.map GS.d))/\GG g'/\S.length<=A':=by
 clear 5(hf many g s r ∅ hg ∅ (b.mono ∅))g2 s1 q1 q2 b1 d1;have hlt:=AS hK;have hKA:A≠K:=AH hA hK (by simp);have et:AK (g.map GS.d) none (some ((many:Nat):Int))=(g.take many).map GS.d:=by rw[Ck,uo9]
 have tl:(g.take many).length=many:=by rw[uj5];lia
 have g1:GG (g.take many):=⟨by lia,by lia,λx hx=>by rw[tl];exact hg x (uf3 hx)⟩;have g2':GG g2:=⟨by lia,by lia,λx hx=>by rw[q1,gl];exact q2 x hx⟩;unfold Xc;refine HQ (Tt (X7 (Cy (Sf (X8 (Bp e3 (wNo (Ts (Bp e2 (X0 (VO hA ?_)))))))))));rw[et];refine Cy (Sf (R8 (Cy (Bp e1 (Cy (Bp e3 (Cy (Bp e2 (GN ?_)))))))));dsimp only;have hK1:(S++[Ob.lst ((g.take many).map GS.d)])[K]?=some (.dct s.l):=AF hK;rw[<-DI hK1];refine(d1 (S++[Ob.lst ((g.take many).map GS.d)]) K A (AS hK1) hKA (AF hA)).mono λq S' ⟨u1,u2⟩=>⟨_,u1,?_⟩;subst u2;refine GN (AM (ud6 rfl) ?_);refine hi _ _ ?_;have h1:((S++[Ob.lst ((g.take many).map GS.d)]).set K (.dct s1.l)++[Ob.lst (g2.map GS.d)])[K]?=some (.dct s1.l):=AF (Bx hK1);have kp:Kp K S ((S++[Ob.lst ((g.take many).map GS.d)]).set K (.dct s1.l)++[Ob.lst (g2.map GS.d)]):=((Kp.refl.app).setk).app;have hl:S.length<((S++[Ob.lst ((g.take many).map GS.d)]).set K (.dct s1.l)).length:=by rw[um7,ug7,ud3];lia
 have:j=0\/j=1:=by lia
 rcases this with rfl|rfl
 .refine AC FI ?_;refine⟨_,_,g.take many,s1,rfl,rfl,kp,h1,b1,?_,g1,uq9 _⟩;rw[ub1 hl,ue5 ∅];exact A4
 .refine AC GU ?_;refine⟨_,_,g2,s1,rfl,rfl,kp,h1,b1,A4,g2',by lia⟩
def tnF(way many k:Nat):Nat:=if way=0 then k else(many-k)%many
theorem PY{way k:Nat}(h:k<many):tnF way many k<many:=by
 unfold tnF
 split
 .exact h
 .exact ur3 _ ∅
theorem LC{way:Nat}(h:j<many):∃k,k<many/\tnF way many k=j:=by
 by_cases w:way=0
 .exact⟨j,h,by unfold tnF;rw[eB w]⟩
 .by_cases z:j=0
  .subst z;exact⟨0,h,by unfold tnF;rw[eC w,Nat.sub_zero,Nat.mod_self]⟩
  .exact⟨many-j,by lia,by unfold tnF;rw[eC w,show many-(many-j)=j by lia,Nat.mod_eq_of_lt h]⟩
theorem Pv:(List.replicate (2*many) D.non).length=2*many:=ud2
theorem MB:(List.replicate (2:Int).toNat (List.replicate ((many:Nat):Int).toNat [D.non]).flatten).flatten=List.replicate (2*many) D.non:=by
 rw[uh8];have h:∀n:Nat,(List.replicate n [D.non]).flatten=List.replicate n D.non:=λn=>by
  induction n with
  |zero=>rfl
  |succ n ih=>rw[uf9,uh9,ih,uf9];rfl
 rw[h,show(2:Int).toNat=2 from rfl,uf9,uf9,List.replicate_zero,uh9,uh9,List.flatten_nil,um3,List.replicate_append_replicate,Nat.two_mul]
def KvR(kv:List (Str×Str)):Prop:=(kys kv).Nodup/\kv.length<=1000
def Sy(f:Fn):Prop:=∀(ns:List Int) (S:List Ob),ns.length<=63->Wf f [.scr ns] S λq S'=>XN6 λ(g h:List GS) (kv:List (Str×Str)) (A B N:Nat)=>AN8 (q=.tup [.obj A,.obj B,.obj N]) (GG g) (GG h) (KvR kv) (S'[A]?=some (.lst (g.map GS.d))) (S'[B]?=some (.lst (h.map GS.d))) (S'[N]?=some (.dct (nmD kv))) (Gr S S')
theorem Rb{cf co cst cn cg:Fn}(hd:Bt cd)(hf:P9 cf)(ho:M2 co)(hst:DQ cst)(hn:N4 cn)(hg:Qa cg):Sy (fnOf 1 12 (Ex cd cf co cst cn cg)):=by
 intro ns S hns;have hL:LIM=100000:=rfl;clear 5(hst ns 0 hns ∅)s b d0;obtain⟨x,s1,x0,x1,b1,d1⟩:=hd s 5 1000 ⟨b.1,by have:=b.2;lia⟩ (by decide) (by decide);clear 5(uc2 x0)x rfl;clear 5(hg ns 2 (1+x) hns ∅ ∅ ∅)base os hbase dg;clear 5(hn s1 994 b1)kv s2 hkv b2 dn;clear 5(hd s2 2 993 b2 (by decide) (by decide))w s3 w0 w1 b3 d3;clear 5(uc2 w0)w rfl;obtain⟨many,em⟩:∃many,many=1+x:=⟨_,rfl⟩;have m0:1<=many:=by lia
 have m1:many<=5:=by lia
 rw[<-em] at hbase dg;rw[9,Ex];refine(d0 S).mono λq S1 z9=>?_;clear 5 z9 q1 q2;subst q1 q2;symm;rw[6,d1.on A4];rw[show(S++[Ob.dct s.l]).set S.length (.dct s1.l)=S++[Ob.dct s1.l] from IV];rw[show(1:Int)+(x:Int)=((many:Nat):Int) by lia];symm;refine(dg _).mono λq S1 z9=>?_;clear 5 z9 q1 q2;subst q1 q2;have hK1:(S++[Ob.dct s1.l]++os)[S.length]?=some (.dct s1.l):=by rw[ub1 (by rw[ug7,ud3];lia)];exact A4
 have gr1:Gr S (S++[Ob.dct s1.l]++os):=⟨by rw[ug7,ug7];lia,λi hi=>by rw[ui0,ub1 hi]⟩;generalize S++[Ob.dct s1.l]++os=S2 at hK1 gr1⊢;symm;rw[<-DI hK1];refine(dn S2 S.length (AS hK1)).mono λq S1 z9=>?_;clear 5 z9 q1 q2;subst q1 q2;have hK2:((S2++[Ob.dct (nmD kv)]).set S.length (.dct s2.l))[S.length]?=some (.dct s2.l):=Bx (AF hK1);have hN2:((S2++[Ob.dct (nmD kv)]).set S.length (.dct s2.l))[S2.length]?=some (.dct (nmD kv)):=Ej (AS hK1);have gr2:Gr S ((S2++[Ob.dct (nmD kv)]).set S.length (.dct s2.l)):=gr1.app72.set72 (uq9 _);have kn:S.length≠S2.length:=up5 (AS hK1);have n0:S.length<=S2.length:=gr1.1;generalize (S2++[Ob.dct (nmD kv)]).set S.length (.dct s2.l)=S3 at hK2 hN2 gr2⊢;symm;refine d3.on hK2 ?_;have hK3:(S3.set S.length (.dct s3.l))[S.length]?=some (.dct s3.l):=Bx hK2;have hN3:(S3.set S.length (.dct s3.l))[S2.length]?=some (.dct (nmD kv)):=by rw[ue5 kn];exact hN2
 have gr3:Gr S (S3.set S.length (.dct s3.l)):=gr2.set72 (uq9 _);generalize S3.set S.length (.dct s3.l)=S4 at hK3 hN3 gr3⊢;symm;refine DK (CB (m:=5) m1) ?_;rw[show By 0 ((many:Int)).toNat=(List.range many).map λk:Nat=>D.int (k:Int) by unfold By;simp];refine(CW (l:=List.range many) (ι:=λk:Nat=>D.int (k:Int)) (f:=λk:Nat=>D.int (tnF w many k:Nat)) (fr:=[vw (.int (w:Nat)),vw (.int (many:Nat))]) ?_).mono ?_
 .intro k hk;rw[un8] at hk;symm;rw[6,NX ∅];rw[show((many:Int)-(k:Int))%(many:Int)=(((many-k)%many:Nat):Int) by rw[Int.natCast_emod];congr 1;lia];have:w=0\/w=1:=by lia
  rcases this with rfl|rfl
  .refine AC FI ⟨by unfold tnF;rw[eB rfl],rfl⟩
  .refine AC GU ⟨by unfold tnF;rw[eC (by decide)],rfl⟩
 rintro turnD t' ⟨rfl,hS⟩;refine AM (by rw[um6,ui5];lia) ?_;rw[hS];obtain⟨turn,etn⟩:∃turn:List Int,turn=(List.range many).map λk:Nat=>(tnF w many k:Int):=⟨_,rfl⟩;have ht:Trn many turn:=⟨by rw[etn,um6,ui5],λv hv=>by
  rw[etn] at hv;clear 5(uq6.mp hv)k hk rfl;have:=PY (way:=w) (un8.mp hk);lia⟩
 have etf:∀k,k<many->atI (turn.map D.int) (k:Int)=some (.int (tnF w many k:Nat))/\tnF w many k<many:=λk hk=>by
  refine⟨?_,PY hk⟩;unfold atI;rw[BG ∅ (by rw[um6,ht.len];lia)];show(turn.map D.int)[((k:Nat):Int).toNat]?=_;rw[uh8,uh6,etn,uh6,List.getElem?_range hk];rfl
 rw[show(List.range many).map (λk:Nat=>D.int (tnF w many k:Nat))=turn.map D.int by rw[etn,uq5];rfl];symm;refine Tp ⟨CB (m:=5) m1,by rw[uh8];show 1*many<=_;lia⟩ ?_;symm;refine MT ⟨by decide,by rw[uh8];have:((List.replicate many [D.non]).flatten).length=many:=(by rw[List.length_flatten,List.map_replicate,ud0];show many*1=many;lia);rw[this];show many*2<=_;lia⟩ ?_;rw[MB];symm;refine Tp ⟨CB (m:=5) m1,by rw[uh8];show 1*many<=_;lia⟩ ?_;symm;refine MT ⟨by decide,by rw[uh8];have:((List.replicate many [D.non]).flatten).length=many:=(by rw[List.length_flatten,List.map_replicate,ud0];show many*1=many;lia);rw[this];show many*2<=_;lia⟩ ?_;rw[MB];symm;have gr5:Gr S (S4++[Ob.lst (List.replicate (2*many) D.non)]++[Ob.lst (List.replicate (2*many) D.non)]):=gr3.app72.app72;have hl4:=AS hK3;have hPF:PF S many S.length S2.length S4.length (S4++[Ob.lst (List.replicate (2*many) D.non)]).length s3 kv (List.replicate (2*many) D.non) (List.replicate (2*many) D.non) (S4++[Ob.lst (List.replicate (2*many) D.non)]++[Ob.lst (List.replicate (2*many) D.non)]):=
  ⟨gr5,AF (AF hK3),AF (AF hN3),AF A4,A4,Pv,Pv,by rw[ug7,ud3];lia,kn,uq9 _,n0,gr3.1,by rw[ug7];have:=gr3.1;lia⟩
 refine DK (CB (m:=5) m1) ?_;rw[show By 0 ((many:Int)).toNat=(List.range many).map λk:Nat=>D.int (k:Int) by unfold By;simp];refine(Ld ho hst hns m0 ∅ hkv ht hbase etf (List.range many) [] [] _ _ _ none none none (λk hk=>un8.mp hk) hPF (λ_ h=>nomatch h) λ_ h=>nomatch h).mono λo t z9=>?_;obtain⟨u1,xs,ys,S5,f9,f10,f11,P,Q,u2,h5,x5,y5,_,_,all⟩:=z9;subst u1 u2;clear hPF gr5;obtain⟨G,eG,hG⟩:=x5.all λi hi=>by
  rw[h5.xl] at hi
  by_cases z:i<many
  .exact(all i (un8.mpr z)).1
  .have:=(all (i-many) (un8.mpr ∅)).2.1
   rwa [show i-many+many=i by lia] at this
 obtain⟨H,eH,hH⟩:=y5.all λi hi=>by
  rw[h5.yl] at hi
  by_cases z:i<many
  .clear 5(LC (way:=w) z)k k1 k2;rw[<-k2];exact(all k (un8.mpr k1)).2.2.1
  .clear 5(LC (way:=w) (show i-many<many by lia))k k1 k2;have:=(all k (un8.mpr k1)).2.2.2
   rwa [k2,show i-many+many=i by lia] at this
 subst eG eH;have gl:G.length=2*many:=by have:=h5.xl;rwa [um6] at this
 have hlH:H.length=2*many:=by have:=h5.yl;rwa [um6] at this
 clear 5(hd s3 4 992 b3 (by decide) (by decide))v s4 v0 v1 b4 d4;clear 5(uc2 v0)v rfl;symm;refine d4.on h5.k ?_;have h6:=h5.setK (s':=s4);generalize S5.set S.length (.dct s4.l)=S6 at h6⊢;walk_at"w1";walk_at"w1";walk_at"w1";refine(pck hf (i:=7) (r:=900) m0 m1 gl hG h6.k h6.a (b4.mono ∅) rfl rfl rfl (idx:=Ac (Ab 5) (bM 2) D8) (j:=(v:Int)/2) ∅ ∅ (λS' P p=>by symm;exact p)).mono λq t z9=>?_;clear 5 z9 A' S7 g s7 u1 u2 kp7 k7 b7 a7 gg la7;subst u1 u2;walk_at"w1";walk_at"w1";walk_at"w1";have B7:=kp7.get h6.b (AH h6.b h6.k (by simp));have N7:=kp7.get h6.n (Ne.symm kn);refine(pck hf (i:=8) (r:=800) m0 m1 hlH hH k7 B7 (b7.mono ∅) rfl rfl rfl (idx:=Ac (Ab 5) (bM 2) CS) (j:=(v:Int)%2) ∅ ∅ (λS' P p=>by symm;exact p)).mono λq t z9=>?_;clear 5 z9 B' S8 h s8 u1 u2 kp8 k8 b8 a8 gh la8;subst u1 u2;have A8:=kp8.get a7 (AH a7 k7 (by simp));have N8:=kp8.get N7 (Ne.symm kn);have kp:=kp7.trans kp8;have gr8:Gr S S8:=⟨up6 h6.gr.1 kp.1,λi hi=>by rw[kp.2 i (ug4 hi h6.gr.1) ∅];exact h6.gr.2 i hi⟩;have hhl:=gh.l2;have hh1:=gh.l1;clear 5(hd s8 ((8*h.length:Nat):Int) 700 (b8.mono ∅) ∅ ∅)at_ s9 y0 y1 b9 d9;clear 5(uc2 y0)at_ rfl;symm;refine Kh a8 ?_;rw[um6];rw[6,DP (CF ∅ ∅)];rw[show(8:Int)*((h.length:Nat):Int)=((8*h.length:Nat):Int) by lia];refine d9.on k8 ?_;have nA:S.length≠A':=Ne.symm (AH A8 k8 (by simp));have nB:S.length≠B':=Ne.symm (AH a8 k8 (by simp));have A9:(S8.set S.length (.dct s9.l))[A']?=some (.lst (g.map GS.d)):=by rw[ue5 nA];exact A8
 have B9:(S8.set S.length (.dct s9.l))[B']?=some (.lst (h.map GS.d)):=by rw[ue5 nB];exact a8
 have N9:(S8.set S.length (.dct s9.l))[S2.length]?=some (.dct (nmD kv)):=by rw[ue5 kn];exact N8
 have gr9:Gr S (S8.set S.length (.dct s9.l)):=gr8.set72 (uq9 _);have kvr:KvR kv:=⟨hkv.nd,by have:=hkv.len;lia⟩;have AB:A'≠B':=by have:=AS a7;lia
 have B0:S.length<=B':=by have:=kp7.1;have:=h6.gr.1;lia
 generalize S8.set S.length (.dct s9.l)=S9 at A9 B9 N9 gr9⊢;symm;refine Kh B9 ?_;rw[um6];symm
 by_cases z1:at_<h.length
 .rw[6,B1 (uo3 ∅)];have ex:(h.map GS.d)[at_]?=some (h[at_]).d:=by rw[uh6,ub5 z1];rfl
  refine LK B9 ex ?_;have hy:=gh.ok _ (uk6 z1)
  cases eh:h[at_] with
  |fin=>
    rw[GS.d];symm;exact⟨g,h,kv,A',B',S2.length,rfl,gg,gh,kvr,A9,B9,N9,gr9⟩
  |st side ws=>
    rw[eh] at hy ex;rw[GS.d];symm
    by_cases z2:0<at_
    .rw[6,B1 (uo3 ∅)];refine LK B9 ex ?_;rw[GS.d];symm;obtain⟨ok,ne⟩:=hy
     cases ok with
     |st hside h0 h9 hnd hwo=>
     obtain⟨fl,efl,hfl⟩:∃fl:Str,atI [D.str "left",D.str "right"] (if id (side==Str.ofString "left")=true then 1 else 0)=some (.str fl)/\(fl=Str.ofString "left"\/fl=Str.ofString "right"):=by
      rcases hside with rfl|rfl
      .exact⟨_,GU,.inr rfl⟩
      .exact⟨_,FI,.inl rfl⟩
     rw[6,AC efl];refine LK B9 ex ?_;rw[GS.d];symm;refine NZ B9 (BG ∅ (by rw[um6];lia)) ?_;rw[show(((at_:Nat):Int)).toNat=at_ from uh8 _];have em:(h.map GS.d).set at_ (.tup [.str fl,.lst (ws.map wdD)])=(h.set at_ (.st fl ws)).map GS.d:=by rw[List.map_set];rfl
     rw[em];symm;refine⟨g,h.set at_ (.st fl ws),kv,A',B',S2.length,rfl,gg,⟨by rw[um7];exact hh1,by rw[um7];exact hhl,λx hx=>?_⟩,kvr,?_,Bx B9,?_,gr9.set72 B0⟩
     .rw[um7];rcases List.mem_or_eq_of_mem_set hx with q|q
      .exact gh.ok x q
      .subst q;exact⟨.st hfl h0 h9 hnd hwo,ne⟩
     .dsimp only;rw[ue5 (Ne.symm AB)];exact A9
     .dsimp only;rw[ue5 (AH B9 N9 (by simp))];exact N9
    .rw[6,BZ (un7 ∅)];exact⟨g,h,kv,A',B',S2.length,rfl,gg,gh,kvr,A9,B9,N9,gr9⟩
 .rw[6,BZ (un7 ∅)];exact⟨g,h,kv,A',B',S2.length,rfl,gg,gh,kvr,A9,B9,N9,gr9⟩
theorem Jt{f:M (List D)}{t:T}(h:L2.W f t λds t1=>∃xs,ds=[.lst xs]/\Q (CI 0 xs) t1):L2.W (GZ f) t Q:=C7 (h.mono λds t1 ⟨xs,e,q⟩=>by subst e;exact⟨_,_,rfl,q⟩)
def sA(b:Bool)(ws vs:List Wd7):List Wd7:=if b=true then ws else vs
def isS(b:Bool)(kv:List (Str×Str))(sw hw:Wd7):Bool:=if b=true then decide (nmO kv sw.1=some hw.1) else decide (nmO kv hw.1=some sw.1)
def fz(b:Bool)(kv:List (Str×Str))(sw:Wd7):Nat->List Wd7->List Nat
 |_,[]=>[]
 |k,hw::r=>if isS b kv sw hw=true then k::fz b kv sw (k+1) r else fz b kv sw (k+1) r
variable{b:Bool}{vs:List Wd7}
theorem O7{ws:List Wd7}:nS b ws vs=(sA b ws vs).length:=by unfold nS sA;split<;>rfl
variable{sw:Wd7}
theorem Yv{ws:List Wd7}{p:Nat}{hw:Wd7}(e1:(sA b ws vs)[p]?=some sw)(e2:(sA (!b) ws vs)[q]?=some hw):isM kv ws vs (mkS b p q).1 (mkS b p q).2=isS b kv sw hw:=by
 cases b
 .have e1:vs[p]?=some sw:=e1;have e2:ws[q]?=some hw:=e2;show isM kv ws vs q p=_;unfold isM;rw[e1,e2];rfl
 .have e1:ws[p]?=some sw:=e1;have e2:vs[q]?=some hw:=e2;show isM kv ws vs p q=_;unfold isM;rw[e1,e2];rfl
theorem SO{b:Bool}{kv:List (Str×Str)}{ws vs:List Wd7}{p:Nat}{sw:Wd7}(e1:(sA b ws vs)[p]?=some sw):∀(l:List Wd7) (k:Nat),(sA (!b) ws vs).drop k=l->fz b kv sw k l=(List.range' k l.length).filter λq=>isM kv ws vs (mkS b p q).1 (mkS b p q).2
 |[],k,_=>rfl
 |hw::r,k,e=>by
   have e2:(sA (!b) ws vs)[k]?=some hw:=by
    have:=dQ (λl=>l[0]?) e;simpa using this
   have e3:(sA (!b) ws vs).drop (k+1)=r:=by
    have:=dQ List.tail e
    rwa [List.tail_drop] at this
   rw[uj8,uk4,uj9,Yv e1 e2,fz,SO e1 r (k+1) e3]
theorem WE{ws:List Wd7}{p:Nat}(e1:(sA b ws vs)[p]?=some sw):fz b kv sw 0 (sA (!b) ws vs)=fnd b kv ws vs p:=by
 rw[SO e1 (sA (!b) ws vs) 0 uo0];unfold fnd;rw[ue8,O7]
def lz(b:Bool)(kv:List (Str×Str))(ws vs:List Wd7):Nat->List Wd7->Option (List (Nat×Nat))
 |_,[]=>some []
 |k,_::r=>if good b kv ws vs k=true then(lz b kv ws vs (k+1) r).map (mkS b k ((fnd b kv ws vs k).headD 0) :: ·) else none
theorem ST{b:Bool}{kv:List (Str×Str)}{ws vs:List Wd7}:∀(l:List Wd7) (k:Nat),lz b kv ws vs k l=if (List.range' k l.length).all (good b kv ws vs)=true then some ((List.range' k l.length).map λp=>mkS b p ((fnd b kv ws vs p).headD 0)) else none
 |[],k=>rfl
 |_::r,k=>by
   rw[lz,ST r (k+1),uj8,uk4,uo7,uo6]
   cases good b kv ws vs k with
   |false=>rfl
   |true=>
     rw[eB rfl,up2]
     split<;>rfl
theorem O4{ws:List Wd7}:lz b kv ws vs 0 (sA b ws vs)=lnk b kv ws vs:=by
 rw[ST];unfold lnk;rw[ue8,O7]
abbrev sdS(b:Bool):Str:=if b=true then Str.ofString "left" else Str.ofString "right"
theorem OM(h:y≠Str.ofString ""):∃o,((nmO kv x).map D.str).getD (.str (Str.ofString ""))=.str o/\(o==y)=decide (nmO kv x=some y):=by
 cases nmO kv x with
 |none=>exact⟨Str.ofString "",rfl,by rw[cL.mpr (Ne.symm h)];simp⟩
 |some z=>exact⟨z,rfl,by rw[un3];simp⟩
set_option tactic.hygienic true in
theorem KN{b:Bool}{kv:List (Str×Str)}{N:Nat}{S:List Ob}(hN:S[N]?=some (.dct (nmD kv))){sw:Wd7}(hs:sw.1≠Str.ofString ""){wsD:D}{a1 a3 a4 a5 a6:Option Sl}:∀(l:List Wd7) (k:Nat) (acc:List Nat) (e9 e10:Option Sl),(∀w∈l,w.1≠Str.ofString "")->acc.length+l.length<=50->
 L2.W (A1 (unS 2 (Ak (Aj 9) (Ak (Aj 10) AJ))) lkI (CI k (l.map wdD))) ⟨[vw (.tup [.str (sdS b),wsD]),a1,vw (.obj N),a3,a4,a5,a6,vw (wdD sw),some (.own (acc.map λi:Nat=>D.int (i:Int))),e9,e10],S⟩ λo t=>o=.next/\∃f9 f10,t=⟨[vw (.tup [.str (sdS b),wsD]),a1,vw (.obj N),a3,a4,a5,a6,vw (wdD sw),some (.own ((acc++fz b kv sw k l).map λi:Nat=>D.int (i:Int))),f9,f10],S⟩
 |[],k,acc,e9,e10,_,_=>W_forL_nil.mpr ⟨rfl,_,_,by rw[fz,um3]⟩
 |hw::r,k,acc,e9,e10,hl,hlen=>by
   have hL:LIM=100000:=rfl;rw[uj8] at hlen;have hh:=hl hw ug5;have next:∀(bb:Bool),isS b kv sw hw=bb->L2.W (A1 (unS 2 (Ak (Aj 9) (Ak (Aj 10) AJ))) lkI (CI (k+1) (r.map wdD))) ⟨[vw (.tup [.str (sdS b),wsD]),a1,vw (.obj N),a3,a4,a5,a6,vw (wdD sw),some (.own ((if bb=true then acc++[k] else acc).map λi:Nat=>D.int (i:Int))),vw (.int (k:Nat)),vw (wdD hw)],S⟩ λo t=>o=.next/\∃f9 f10,t=⟨[vw (.tup [.str (sdS b),wsD]),a1,vw (.obj N),a3,a4,a5,a6,vw (wdD sw),some (.own ((acc++fz b kv sw k (hw::r)).map λi:Nat=>D.int (i:Int))),f9,f10],S⟩:=λbb eb=>by
    refine(KN hN hs r (k+1) _ _ _ (λw m=>hl w (ue3 _ m)) (by split<;>first|(rw[ug7,ud3];lia)|lia)).mono λo t z9=>?_;clear 5 z9 q1 f9 f10 q2;refine⟨q1,f9,f10,?_⟩;rw[q2,fz,eb]
    cases bb with
    |true=>rw[eB rfl,eB rfl,ui0];rfl
    |false=>rfl
   rw[uo6,CI,W_forL_cons]
   cases b with
   |true=>
     clear 5(OM (kv:=kv) (x:=sw.1) hh)o eo ed;have eS:isS true kv sw hw=decide (nmO kv sw.1=some hw.1):=rfl;unfold lkI;symm;refine NT rfl hN ?_;unfold wdD;symm;refine⟨_,rfl,hN,?_⟩;rw[show(D.str "")=D.str (Str.ofString "") from rfl,eo];symm
     cases e:decide (nmO kv sw.1=some hw.1) with
     |true=>
       rw[6,B1 (by rw[show id (o==hw.1)=(o==hw.1) from rfl,ed,e])];refine AM (by rw[um6];lia) ?_;symm;have:=next true (by rw[eS,e]);rw[eB rfl,un5] at this;exact this
     |false=>
       rw[6,BZ (by rw[show id (o==hw.1)=(o==hw.1) from rfl,ed,e])];exact next false (by rw[eS,e])
   |false=>
     clear 5(OM (kv:=kv) (x:=hw.1) hs)o eo ed;have eS:isS false kv sw hw=decide (nmO kv hw.1=some sw.1):=rfl;unfold lkI;symm;refine NT rfl hN ?_;unfold wdD;symm;refine⟨_,rfl,hN,?_⟩;rw[show(D.str "")=D.str (Str.ofString "") from rfl,eo];symm
     cases e:decide (nmO kv hw.1=some sw.1) with
     |true=>
       rw[6,B1 (by rw[show id (o==sw.1)=(o==sw.1) from rfl,ed,e])];refine AM (by rw[um6];lia) ?_;have:=next true (by rw[eS,e]);rw[eB rfl,un5] at this;exact this
     |false=>
       rw[6,BZ (by rw[show id (o==sw.1)=(o==sw.1) from rfl,ed,e])];exact next false (by rw[eS,e])
def pD(x:Nat×Nat):D:=.tup [.int (x.1:Nat),.int (x.2:Nat)]
def lkD:Option (List (Nat×Nat))->D
 |none=>.non
 |some l=>.lst (l.map pD)
def lkO(cw:Fn):M Out:=
 (Ah (CG 8 (Av Ad))
 (Ah (Ba (GZ (Aa (Ab 5) Ad)) (unS 2 (Ak (Aj 9) (Ak (Aj 10) AJ))) lkI)
 (Ah (ifS (fOr (Ai (Ac (fB (Aa (Ab 8) Ad) AD) (bM 1) (eqS λb=>!b))) (Cn (Ai (Ag cw (Aa (Ac (Ab 7) (bM 1) ixD) (Aa (Ac (Ac (Ab 5) (Ac (Ab 8) (bM 0) ixD) ixD) (bM 1) ixD) Ad))))))
   (Aq (fC .non))
   An)
 (ownM 3 AZ (Aa (Ac (Al (Av (Aa (As (Aa (Ab 6) (Aa (Ac (Ab 8) (bM 0) ixD) Ad))) (Aa (As (Aa (Ac (Ab 8) (bM 0) ixD) (Aa (Ab 6) Ad))) Ad)))) (fB (Aa (Ac (Ac (Ab 0) (bM 0) ixD) (fC (.str "right")) (eqS id)) Ad) DX) ixD) Ad)))))
structure WdsOk(n:Int)(ws:List Wd7):Prop where
 l:ws.length<=9
 ok:∀w∈ws,WOk n w
 ne:∀w∈ws,w.1≠Str.ofString ""
theorem OL{b:Bool}{kv:List (Str×Str)}{sw:Wd7}:∀(l:List Wd7) (k:Nat),(fz b kv sw k l).length<=l.length/\∀q∈fz b kv sw k l,q<k+l.length
 |[],k=>⟨uq9 _,λ_ h=>nomatch h⟩
 |hw::r,k=>by
   clear 5(OL (b:=b) (kv:=kv) (sw:=sw) r (k+1))h1 h2;rw[fz]
   split
   .refine⟨by rw[uj8,uj8];lia,λq hq=>?_⟩;rw[uj8];rcases uo5.mp hq with rfl|hq
    .lia
    .have:=h2 q hq;lia
   .refine⟨by rw[uj8];lia,λq hq=>?_⟩;rw[uj8];have:=h2 q hq;lia
theorem Yd{ws:List Wd7}{p:Nat}{hw:Wd7}(e1:(sA b ws vs)[p]?=some sw)(e2:(sA (!b) ws vs)[q]?=some hw):wiS b ws vs (mkS b p q)=AG sw.2.1 hw.2.1:=by
 cases b
 .have e1:vs[p]?=some sw:=e1;have e2:ws[q]?=some hw:=e2;show wiS false ws vs (q,p)=_;unfold wiS;rw[e1,e2];rfl
 .have e1:ws[p]?=some sw:=e1;have e2:vs[q]?=some hw:=e2;show wiS true ws vs (p,q)=_;unfold wiS;rw[e1,e2];rfl
theorem UR{p:Nat}:atI [D.tup [.int (p:Nat),.int (q:Nat)],D.tup [.int (q:Nat),.int (p:Nat)]] (if id (sdS b==Str.ofString "right")=true then 1 else 0)=some (pD (mkS b p q)):=by
 cases b<;>rfl
theorem Hz{cw:Fn}(hw:EK cw 3){b:Bool}{kv:List (Str×Str)}{ws vs:List Wd7}{n m:Int}(h1:WdsOk n (sA b ws vs))(h2:WdsOk m (sA (!b) ws vs)){N:Nat}{S:List Ob}(hN:S[N]?=some (.dct (nmD kv))){wsD:D}{a1 a4:Option Sl}:∀(l:List Wd7) (k:Nat) (acc:List (Nat×Nat)) (e6 e7 e8 e9 e10:Option Sl),(sA b ws vs).drop k=l->acc.length+l.length<=50->
 L2.W (A1 (unS 2 (Ak (Aj 6) (Ak (Aj 7) AJ))) (lkO cw) (CI k (l.map wdD))) ⟨[vw (.tup [.str (sdS b),wsD]),a1,vw (.obj N),some (.own (acc.map pD)),a4,vw (.lst ((sA (!b) ws vs).map wdD)),e6,e7,e8,e9,e10],S⟩ λo t=>match lz b kv ws vs k l with
  |none=>o=.ret .non/\t.S=S
  |some ls=>o=.next/\XN5 λf6 f7 f8 f9 f10=>t=⟨[vw (.tup [.str (sdS b),wsD]),a1,vw (.obj N),some (.own ((acc++ls).map pD)),a4,vw (.lst ((sA (!b) ws vs).map wdD)),f6,f7,f8,f9,f10],S⟩
 |[],k,acc,e6,e7,e8,e9,e10,_,_=>W_forL_nil.mpr (by rw[lz];exact⟨rfl,_,_,_,_,_,by rw[um3]⟩)
 |sw::r,k,acc,e6,e7,e8,e9,e10,e,hlen=>by
   have hL:LIM=100000:=rfl;rw[uj8] at hlen;have e1:(sA b ws vs)[k]?=some sw:=by
    have:=dQ (λl=>l[0]?) e;simpa using this
   have e3:(sA b ws vs).drop (k+1)=r:=by
    have:=dQ List.tail e
    rwa [List.tail_drop] at this
   have hsw:sw∈sA b ws vs:=ue6 e1;have hl2:=h2.l;clear 5(OL (b:=b) (kv:=kv) (sw:=sw) (sA (!b) ws vs) 0)fl1 fl2;rw[uq2] at fl2;have eF:=WE (kv:=kv) e1;have key:lz b kv ws vs k (sw::r)=if good b kv ws vs k=true then(lz b kv ws vs (k+1) r).map (mkS b k ((fnd b kv ws vs k).headD 0) :: ·) else none:=by rw[lz]
   rw[key,uo6,CI,W_forL_cons];unfold lkO;symm;rw[6,Jt];refine⟨_,rfl,?_⟩;refine(KN (b:=b) hN (h1.ne sw hsw) (sA (!b) ws vs) 0 [] _ _ h2.ne (by rw[un0];lia)).mono λo t z9=>?_;clear 5 z9 q1 f9 f10 q2;subst q1 q2;rw[um8,eF];rw[eF] at fl1 fl2;have bad:∀{fl:List Nat},fnd b kv ws vs k=fl->fl.length≠1->good b kv ws vs k=false:=λ{fl} e h=>by
    cases z:good b kv ws vs k with
    |false=>rfl
    |true=>
      obtain⟨q,hq,_⟩:=good_iff.mp z;rw[e] at hq;subst hq;exact absurd rfl h
   by_cases one:(fnd b kv ws vs k).length=1
   .clear 5(cH.mp one)q hq;have hql:q<(sA (!b) ws vs).length:=fl2 q (by rw[hq];exact ug9.mpr rfl);have e2:(sA (!b) ws vs)[q]?=some (sA (!b) ws vs)[q]:=ub5 hql;have hhm:(sA (!b) ws vs)[q]∈sA (!b) ws vs:=uk6 hql;have ewi:=Yd e1 e2;rw[hq];symm;refine AC (d:=wdD (sA (!b) ws vs)[q]) ?_ ?_
    .unfold atI;rw[BG ∅ (by rw[um6];lia)];show((sA (!b) ws vs).map wdD)[((q:Nat):Int).toNat]?=_;rw[uh8,uh6,e2];rfl
    unfold wdD;symm;rw[6,(hw sw.2.1 ((sA (!b) ws vs)[q]).2.1 (h1.ok sw hsw).dep (h1.ok sw hsw).ok (h2.ok _ hhm).ok).use]
    cases w:AG sw.2.1 ((sA (!b) ws vs)[q]).2.1 with
    |false=>
      symm;have g0:good b kv ws vs k=false:=by
       cases z:good b kv ws vs k with
       |false=>rfl
       |true=>
         clear 5(good_iff.mp z)q' hq' hw';rw[hq] at hq'
         cases hq'
         rw[ewi,w] at hw';cases hw'
      rw[g0];exact⟨rfl,rfl⟩
    |true=>
      symm;have g1:good b kv ws vs k=true:=good_iff.mpr ⟨q,hq,by rw[ewi,w]⟩;rw[6,AC UR];refine AM (by rw[um6];lia) ?_;rw[g1,eB rfl];have ih:=Hz hw h1 h2 hN (wsD:=wsD) (a1:=a1) (a4:=a4) r (k+1) (acc++[mkS b k q]) (vw (.int (k:Nat))) (vw (wdD sw)) (vw (.lst ([q].map λi:Nat=>D.int (i:Int)))) f9 f10 e3 (by rw[ug7,ud3];lia);rw[un5] at ih;refine ih.mono λo t h=>?_
      cases z:lz b kv ws vs (k+1) r with
      |none=>rw[z] at h;exact h
      |some ls=>
        rw[z] at h;clear 5 h q1 f6 f7 f8 f9 f10 q2;refine⟨q1,f6,f7,f8,f9,f10,?_⟩;rw[q2,ui0];rfl
   .symm;rw[um6];refine B1 (by rw[ui8,cL];lia) ?_;symm;rw[bad rfl one];exact⟨rfl,rfl⟩
def GP(f:Fn):Prop:=∀(n m:Int) (x y:GS) (kv:List (Str×Str)) (N:Nat) (S:List Ob),GY n x->GY m y->S[N]?=some (.dct (nmD kv))->Wf f [x.d,y.d,.obj N] S λr S'=>r=lkD (lkG kv x y)/\S'=S
theorem GY.wds{n:Int}{s:Str}{ws:List Wd7}(h:GY n (.st s ws)):WdsOk n ws:=by
 clear 5 h ok ne
 cases ok with
 |st a b c d e=>exact⟨c,e,ne⟩
theorem QQ(hw:EK cw 3):GP (fnOf 3 11 (DZ cw)):=by
 intro n m x y kv N S hx hy hN;have hL:LIM=100000:=rfl;have sideOf:∀{n:Int}{s:Str}{ws:List Wd7},GY n (.st s ws)->s=Str.ofString "left"\/s=Str.ofString "right":=λh=>by
  obtain⟨ok,_⟩:=h
  cases ok with
  |st a=>exact a
 have ne:∀{s:Str},(s=Str.ofString "left"\/s=Str.ofString "right")->(s==Str.ofString "end")=false/\(Str.ofString "end" == s)=false:=λh=>by
  rcases h with rfl|rfl<;>exact⟨by decide,by decide⟩
 refine Ao rfl ?_;unfold DZ
 cases x with
 |fin=>
   cases y with
   |fin=>
     rw[GS.d];symm;exact⟨rfl,rfl⟩
   |st s' vs=>
     rw[GS.d,GS.d];symm;refine B1 (by rw[(ne (sideOf hy)).2];rfl) ?_;symm;exact⟨rfl,rfl⟩
 |st s ws=>
   cases y with
   |fin=>
     rw[GS.d,GS.d];symm;refine B1 (by rw[(ne (sideOf hx)).1];rfl) ?_;symm;exact⟨rfl,rfl⟩
   |st s' vs=>
     rw[GS.d,GS.d];symm
     by_cases e:s=s'
     .subst e;refine BZ (by rw[ul8];rfl) ?_;symm;have ek:lkG kv (.st s ws) (.st s vs)=lnk (decide (s=lft)) kv ws vs:=by simp only[lkG,eB]
      rw[ek];rcases sideOf hx with rfl|rfl
      .rw[6,AC FI];rw[6,Jt];refine⟨_,rfl,?_⟩;refine(Hz (b:=true) hw (ws:=ws) (vs:=vs) hx.wds hy.wds hN ws 0 [] _ _ _ _ _ uo0 (by have:=hx.wds.l;rw[un0];lia)).mono λo t h=>?_;have el:lz true kv ws vs 0 ws=lnk (decide (Str.ofString "left" = lft)) kv ws vs:=O4 (b:=true);rw[<-el]
       cases z:lz true kv ws vs 0 ws with
       |none=>
         rw[z] at h;clear 5 h q1 q2;subst q1;exact⟨rfl,q2⟩
       |some ls=>
         rw[z] at h;clear 5 h q1 f6 f7 f8 f9 f10 q2;subst q1 q2;symm;exact⟨rfl,rfl⟩
      .rw[6,AC GU];rw[6,Jt];refine⟨_,rfl,?_⟩;refine(Hz (b:=false) hw (ws:=ws) (vs:=vs) hy.wds hx.wds hN vs 0 [] _ _ _ _ _ uo0 (by have:=hy.wds.l;rw[un0];lia)).mono λo t h=>?_;have el:lz false kv ws vs 0 vs=lnk (decide (Str.ofString "right" = lft)) kv ws vs:=O4 (b:=false);rw[<-el]
       cases z:lz false kv ws vs 0 vs with
       |none=>
         rw[z] at h;clear 5 h q1 q2;subst q1;exact⟨rfl,q2⟩
       |some ls=>
         rw[z] at h;clear 5 h q1 f6 f7 f8 f9 f10 q2;subst q1 q2;symm;exact⟨rfl,rfl⟩
     .refine B1 (by rw[ui8,cL];exact e) ?_;symm;have ek:lkG kv (.st s ws) (.st s' vs)=none:=by simp only[lkG,eC e]
      rw[ek];exact⟨rfl,rfl⟩
theorem Qc{l:List α}{ι f:α->D}{p:α->Bool}:∀{z:Option Sl},(∀a∈l,W tst ⟨vw (ι a)::fr,S⟩ λb t'=>b=p a/\t'=⟨vw (ι a)::fr,S⟩)->(∀a∈l,W elt ⟨vw (ι a)::fr,S⟩ λx t'=>x=f a/\t'=⟨vw (ι a)::fr,S⟩)->
 W (AQ (Aj 0) tst elt (l.map ι)) ⟨z::fr,S⟩ λxs t'=>xs=(l.filter p).map f/\t'.S=S:=by
 induction l with
 |nil=>exact λ_ _=>W_compL_nil.mpr ⟨rfl,rfl⟩
 |cons a r ih=>
   intro z h h';rw[uo6,BW];refine CH ?_;refine(h a ug5).mono λb t' z9=>?_;clear 5 z9 e1 e2;subst e1 e2;have ih2:=ih (z:=vw (ι a)) (λb hb=>h b (ue3 _ hb)) λb hb=>h' b (ue3 _ hb)
   cases e:p a with
   |true=>
     rw[eB rfl,cB e];refine(h' a ug5).mono λx t' z9=>?_;clear 5 z9 e1 e2;subst e1 e2;exact ih2.mono λxs t' ⟨e1,e2⟩=>⟨by rw[e1];rfl,e2⟩
   |false=>
     rw[eC ug6,cC (by rw[e];exact ug6)];exact ih2
theorem Y0{g:Bool->Bool}{o:Option Str}{t:T}(h:P (.bl (g (decide (o=some x)))) t):L2.W (eqS g (.str x) ((o.map D.str).getD .non)) t P:=by
 cases o with
 |none=>exact⟨_,_,rfl,by simpa using h⟩
 |some y=>
   refine NU ?_;have:(x==y)=decide (some y=some x):=by
    rw[un3,dO,uj2];exact⟨λe=>by rw[e],λe=>(ul9 e).symm⟩
   rw[this];exact h
def Bj:GS->Str
 |.fin=>Str.ofString "end"
 |.st s _=>s
theorem Ih(x:GS):∃r,x.d=.tup (.str (Bj x)::r):=by cases x<;>exact⟨_,by rw[GS.d];rfl⟩
variable{g:List GS}
theorem DA{p:Nat}{x:GS}(e:g[p]?=some x):atI (g.map GS.d) (p:Int)=some x.d:=by
 have hp:=(ub0.mp e).1;unfold atI;rw[BG ∅ (by rw[um6];lia)];show(g.map GS.d)[((p:Nat):Int).toNat]?=_;rw[uh8,uh6,e];rfl
theorem HU{ws:List Wd7}{k:Nat}{w:Wd7}(e:ws[k]?=some w):atI (ws.map wdD) (k:Int)=some (wdD w):=by
 have hp:=(ub0.mp e).1;unfold atI;rw[BG ∅ (by rw[um6];lia)];show(ws.map wdD)[((k:Nat):Int).toNat]?=_;rw[uh8,uh6,e];rfl
abbrev gL(g:List GS):D:=.lst (g.map GS.d)
def Kk(f:Fn):Prop:=∀(g h:List GS) (p q:Nat) (x y:GS),g[p]?=some x->h[q]?=some y->Pure1 f [gL g,gL h,pD (p,q)] (.bl (!(Bj x==Bj y)))
theorem Pg:Kk (fnOf 3 3 EY):=by
 intro g h p q x y e1 e2 S;clear 5(Ih x)r1 d1;clear 5(Ih y)r2 d2;refine Ao rfl ?_;unfold EY pD;symm;refine AC (DA e1) ?_;rw[d1];symm;refine AC (DA e2) ?_;rw[d2];symm;exact⟨rfl,rfl⟩
def Ma(f:Fn):Prop:=∀(g h:List GS) (p q:Nat) (x y:GS) (n m:Int),g[p]?=some x->h[q]?=some y->GSOk n x->GSOk m y->Pure1 f [gL g,gL h,pD (p,q)] (if Bj x=lft then x.words else y.words)
theorem So(hw:GR cw):Ma (fnOf 3 3 (Ez cw)):=by
 intro g h p q x y n m e1 e2 o1 o2 S;clear 5(Ih x)r1 d1;refine Ao rfl ?_;unfold Ez pD;symm;refine AC (DA e1) ?_;rw[d1];symm
 by_cases e:Bj x=lft
 .refine B1 (by rw[e];rfl) ?_;rw[eB e];symm;rw[6,AC (DA e1)];exact(hw n x o1).use ⟨rfl,rfl⟩
 .refine BZ (cL.mpr e) ?_;rw[eC e];symm;rw[6,AC (DA e2)];exact(hw m y o2).use ⟨rfl,rfl⟩
abbrev Dt(p x:Nat×Nat):D:=.tup [.int (p.1:Nat),.int (p.2:Nat),.int (x.1:Nat),.int (x.2:Nat)]
def L9(f:Fn):Prop:=∀(s:Str) (p x:Nat×Nat),Pure1 f [.str s,Dt p x] (.int (prS (decide (s=lft)) x:Nat))
theorem RD:L9 (fnOf 2 2 Dg):=by
 intro s p x S;rw[9,Dg]
 by_cases e:s=lft
 .refine B1 (by rw[e];rfl) ?_;symm;exact⟨by rw[uo3 e];rfl,rfl⟩
 .rw[6,BZ (cL.mpr e)];exact⟨by rw[un7 e];rfl,rfl⟩
def Hr(f:Fn):Prop:=∀(g h:List GS) (p q:Nat) (s:Str) (ws vs:List Wd7) (s':Str) (n m:Int) (x:Nat×Nat) (w v:Wd7),g[p]?=some (.st s ws)->h[q]?=some (.st s' vs)->ws[x.1]?=some w->vs[x.2]?=some v->WOk n w->WOk m v->Pure1 f [gL g,gL h,.str s,Dt (p,q) x] (.bl (wiS (decide (s=lft)) ws vs x))
theorem Ph(hw:EK cw 3):Hr (fnOf 4 6 (EZ cw)):=by
 intro g h p q s ws vs s' n m x w v e1 e2 e3 e4 o1 o2 S;have i2:∀{a b c d:D},atI [a,b,c,d] 2=some c:=rfl;have i3:∀{a b c d:D},atI [a,b,c,d] 3=some d:=rfl;rw[9,EZ];refine AC (DA e1) ?_;rw[GS.d];symm;refine AC (HU e3) ?_;unfold wdD;symm;refine AC (DA e2) ?_;rw[GS.d];symm;refine AC (HU e4) ?_;unfold wdD;symm
 by_cases e:s=lft
 .refine B1 (by rw[e];rfl) ?_;symm;refine(hw w.2.1 v.2.1 o1.dep o1.ok o2.ok).use ⟨?_,rfl⟩;unfold wiS;rw[e3,e4,uo3 e];rfl
 .rw[6,BZ (cL.mpr e)];refine(hw v.2.1 w.2.1 o2.dep o2.ok o1.ok).use ⟨?_,rfl⟩;unfold wiS;rw[e3,e4,un7 e];rfl
theorem Rv:By 0 ((n:Nat):Int).toNat=(List.range n).map λk:Nat=>D.int (k:Int):=by unfold By;simp
theorem Mx{kv:List (Str×Str)}{N:Nat}{S:List Ob}(hN:S[N]?=some (.dct (nmD kv))){ws vs:List Wd7}(w9:ws.length<=9)(v9:vs.length<=9):∀(l:List Nat) (acc:List (Nat×Nat)) (e4 e5:Option Sl),(∀k∈l,k<ws.length)->acc.length+9*l.length<=500->
 L2.W (A1 (Aj 4) plB (l.map λk:Nat=>D.int (k:Int))) ⟨[vw (.lst (ws.map wdD)),vw (.lst (vs.map wdD)),vw (.obj N),some (.own (acc.map pD)),e4,e5],S⟩ λo t=>o=.next/\∃f4 f5,t=⟨[vw (.lst (ws.map wdD)),vw (.lst (vs.map wdD)),vw (.obj N),some (.own ((acc++l.flatMap λk=>((List.range vs.length).filter λj=>isM kv ws vs k j).map λj=>(k,j)).map pD)),f4,f5],S⟩
 |[],acc,e4,e5,_,_=>W_forL_nil.mpr ⟨rfl,_,_,by rw[ul7,um3]⟩
 |k::l,acc,e4,e5,hl,hlen=>by
   have hL:LIM=100000:=rfl;rw[uj8] at hlen;have hk:=hl k ug5;have ek:ws[k]?=some ws[k]:=ub5 hk;have fl:((List.range vs.length).filter λj=>isM kv ws vs k j).length<=9:=up6 (ud5 _ _) (by rw[ui5];exact v9);rw[uo6,W_forL_cons];refine CH ?_;unfold plB;symm;rw[6,Z2 rfl hN];rw[6,AC (d:=.tup [.str ws[k].1,ws[k].2.1.d,.int ws[k].2.2]) (HU ek)];refine⟨_,rfl,hN,?_⟩;symm;rw[um6];refine DK (CB (m:=9) v9) ?_;rw[Rv];refine(Qc (l:=List.range vs.length) (ι:=λj:Nat=>D.int (j:Int)) (f:=λj:Nat=>pD (k,j)) (p:=λj=>isM kv ws vs k j) (fr:=[vw (.int (k:Nat)),vw (((nmO kv ws[k].1).map D.str).getD .non),vw (.lst (vs.map wdD))]) ?_ ?_).mono ?_
   .intro j hj;have hj:=un8.mp hj;have ej:vs[j]?=some vs[j]:=ub5 hj;symm;rw[6,AC (d:=.tup [.str vs[j].1,vs[j].2.1.d,.int vs[j].2.2]) (HU ej)];rw[6,Y0];exact⟨by unfold isM;rw[ek,ej];rfl,rfl⟩
   .intro j hj;symm;exact⟨rfl,rfl⟩
   .rintro xs t' ⟨rfl,hS⟩;refine AM (by rw[um6];lia) ?_;rw[hS];symm;refine X4 rfl (by rw[um6,um6];lia) ?_;have ih:=Mx hN w9 v9 l (acc++((List.range vs.length).filter λj=>isM kv ws vs k j).map λj=>(k,j)) (vw (.int (k:Nat))) (vw (((nmO kv ws[k].1).map D.str).getD .non)) (λj m=>hl j (ue3 _ m)) (by rw[ug7,um6];lia);rw[un5,uq5] at ih;refine ih.mono λo t z9=>?_;clear 5 z9 q1 f4 f5 q2;refine⟨q1,f4,f5,?_⟩;rw[q2,uj1,ui0]
def Sz(f:Fn):Prop:=∀(x y:GS) (kv:List (Str×Str)) (N:Nat) (S:List Ob),x.ws.length<=9->y.ws.length<=9->x.isFin=y.isFin->S[N]?=some (.dct (nmD kv))->Wf f [x.words,y.words,.obj N] S λr S'=>r=.lst ((Bk kv x.ws y.ws).map pD)/\S'=S
theorem Ri:Sz (fnOf 3 6 DC):=by
 intro x y kv N S hx hy hf hN;refine Ao rfl ?_;unfold DC
 cases x with
 |fin=>
   rw[GS.words];symm;rw[6,W_forL_nil.mpr];exact⟨rfl,rfl⟩
 |st s ws=>
   cases y with
   |fin=>cases hf
   |st s' vs=>
     have hx:ws.length<=9:=hx;have hy:vs.length<=9:=hy;rw[GS.words,GS.words];symm;rw[um6];refine DK (CB (m:=9) hx) ?_;rw[Rv];refine(Mx hN hx hy (List.range ws.length) [] none none (λk hk=>un8.mp hk) (by rw[ui5,un0];lia)).mono λo t z9=>?_;clear 5 z9 q1 f4 f5 q2;subst q1 q2;symm;exact⟨rfl,rfl⟩
theorem VP{ns:List Int}{t:T}{P:List D->T->Prop}(e:CA ds=some ns)(hl:ns.length<64)(h:P ((Du ns).map D.int) t):L2.W (Hc [.lst ds]) t P:=
 ⟨_,_,by simp only[Hc,e,eB hl],h⟩
theorem VI{g:Bool->Bool}{a b:List Int}{t:T}(h:P (.bl (g (decide (a=b)))) t):L2.W (eqS g (.lst (a.map D.int)) (.lst (b.map D.int))) t P:=by
 refine⟨_,_,?_,h⟩;unfold eqS;rw[eC (by exact ug6)];have:eqN EQD (.lst (a.map D.int)) (.lst (b.map D.int))=some (decide (a=b)):=by
  rw[show EQD=39+1 from rfl,eqN]
  by_cases e:(a.map D.int).length=(b.map D.int).length
  .rw[eB e];clear 5(Gg (n:=39) a b)c h1 h2;rw[h1,<-h2,e,ul8,dt]
  .rw[eC e,un7 λz=>e (by rw[z])]
 rw[this];rfl
theorem MS{x:GS}{t:T}(h:P (.int (x.ws.length:Nat)) t):L2.W (AD [x.words]) t P:=by
 cases x with
 |fin=>exact To h
 |st s ws=>refine NW ?_;rw[um6];exact h
theorem Y5(hn:n<=1000){t:T}{Q:List D->T->Prop}(h:Q ((zN (List.range n)).map D.int) t):L2.W (Iz [.int (n:Nat)]) t Q:=by
 have e:E5 0 (n:Int) 1=n:=by unfold E5;split<;>lia
 show L2.W (Ka [.int 0,.int (n:Nat),.int 1]) t Q;refine Y6 ⟨by decide,by decide,by decide,CB hn,by rw[e];show n<=100000;lia⟩ ?_;rw[e];unfold zN at h;rw[uq5] at h;refine cast ?_ h
 congr 1
 refine ug0 λi _=>?_;show D.int (i:Int)=D.int (0+(i:Int)*1);rw[dG,Int.mul_one]
def rwD(p:Nat×Nat):Option (List (Nat×Nat))->D
 |none=>.non
 |some l=>.lst (l.map (Dt p))
def HX(f:Fn):Prop:=∀(g h:List GS) (p q:Nat) (x y:GS) (n m:Int) (kv:List (Str×Str)) (N:Nat) (S:List Ob),g[p]?=some x->h[q]?=some y->GY n x->GY m y->S[N]?=some (.dct (nmD kv))->Wf f [gL g,gL h,.obj N,pD (p,q)] S λr S'=>r=rwD (p,q) (rwG kv x y)/\S'=S
variable{cp:Fn}
theorem Ry(hp:Hr cp){g h:List GS}{p q:Nat}{s s':Str}{ws vs:List Wd7}{n m:Int}(e1:g[p]?=some (.st s ws))(e2:h[q]?=some (.st s' vs))(o1:∀w∈ws,WOk n w)(o2:∀w∈vs,WOk m w){kv:List (Str×Str)}{S:List Ob}{z:Option Sl}{N:Option Sl}:L2.W (AQ (Aj 0) BL (Ag cp (Aa (Ab 1) (Aa (Ab 2) (Aa (Ab 3) (Aa (Ab 0) Ad))))) ((Bk kv ws vs).map (Dt (p,q)))) ⟨[z,vw (gL g),vw (gL h),vw (.str s)],S⟩ λxs t'=>xs=((Bk kv ws vs).map (wiS (decide (s=lft)) ws vs)).map D.bl/\t'.S=S:=by
 rw[uq5];refine CW (f:=λx=>D.bl (wiS (decide (s=lft)) ws vs x)) λx hx=>?_;obtain⟨h1,h2,_⟩:=mem_kl.mp hx;have e3:ws[x.1]?=some ws[x.1]:=ub5 h1;have e4:vs[x.2]?=some vs[x.2]:=ub5 h2;symm;exact(hp g h p q s ws vs s' n m x ws[x.1] vs[x.2] e1 e2 e3 e4 (o1 _ (uk6 h1)) (o2 _ (uk6 h2))).use ⟨rfl,rfl⟩
theorem U7{cw2 cq:Fn}(hi:Hr ci)(hs:L9 cs0)(hw:Ma cw)(hw2:GR cw2)(hp:Sz cp)(hq:Kk cq):HX (fnOf 4 6 (GA ci cs0 cw cw2 cp cq)):=by
 intro g h p q x y n m kv N S e1 e2 hx hy hN;have hL:LIM=100000:=rfl;have wsl:∀{n:Int}{x:GS},GY n x->x.ws.length<=9:=λ{n x} h=>by
  obtain⟨ok,_⟩:=h
  cases ok with
  |fin=>exact ur0 _
  |st _ _ c _ _=>exact c
 clear 5(Ih x)r1 d1;rw[9,GA];rw[6,(hq g h p q x y e1 e2).use]
 by_cases es:Bj x=Bj y
 .refine BZ (by rw[es,ul8];rfl) ?_;symm;unfold pD;symm;refine AC (DA e1) ?_;rw[d1];symm;rw[6,AC (DA e1)];rw[6,(hw2 n x hx.ok).use];rw[6,AC (DA e2)];rw[6,(hw2 m y hy.ok).use];have hf:x.isFin=y.isFin:=by
   have ne:∀{n:Int}{s:Str}{ws:List Wd7},GY n (.st s ws)->Str.ofString "end"≠s:=λh=>by
    obtain⟨ok,_⟩:=h
    cases ok with
    |st a=>rcases a with rfl|rfl<;>decide
   cases x with
   |fin=>
     cases y with
     |fin=>rfl
     |st s vs=>exact absurd es (ne hy)
   |st s ws=>
     cases y with
     |fin=>exact absurd es.symm (ne hx)
     |st s' vs=>rfl
  have klen:(Bk kv x.ws y.ws).length<=9:=by
   refine up6 (OW ?_) (wsl hx);obtain⟨ok,_⟩:=hy
   cases ok with
   |fin=>exact un9
   |st _ _ _ d _=>exact d
  refine(hp x y kv N S (wsl hx) (wsl hy) hf hN).mono λr S' z9=>?_;clear 5 z9 q1 q2;subst q1 q2;symm;refine(CW (l:=Bk kv x.ws y.ws) (ι:=pD) (f:=Dt (p,q)) (fr:=[vw (pD (p,q))]) λz _=>?_).mono ?_
  .unfold pD;symm;exact⟨rfl,rfl⟩
  rintro rows t' ⟨rfl,hS⟩;refine AM (by rw[um6];lia) ?_;rw[hS];symm;refine(CW (l:=Bk kv x.ws y.ws) (ι:=Dt (p,q)) (f:=λz=>.int (prS (decide (Bj x=lft)) z:Nat)) (fr:=[vw (.str (Bj x))]) λz _=>?_).mono ?_
  .symm;exact(hs (Bj x) (p,q) z).use ⟨rfl,rfl⟩
  rintro xs t' ⟨rfl,hS⟩;refine AM (by rw[um6];lia) ?_;rw[hS];symm;rw[show((Bk kv x.ws y.ws).map λz=>D.int (prS (decide (Bj x=lft)) z:Nat))=(zN ((Bk kv x.ws y.ws).map (prS (decide (Bj x=lft))))).map D.int by unfold zN;rw[uq5,uq5];rfl];refine VP (Ea _) (by unfold zN;rw[um6,um6];lia) ?_;symm;refine(hw g h p q x y n m e1 e2 hx.ok hy.ok).use ?_;have en:∀{t:T}{P:D->T->Prop},P (.int (nS (decide (Bj x=lft)) x.ws y.ws:Nat)) t->L2.W (AD [if Bj x=lft then x.words else y.words]) t P:=λ{t P} h=>by
   by_cases e:Bj x=lft
   .rw[eB e];rw[uo3 e] at h;exact MS h
   .rw[eC e];rw[un7 e] at h;exact MS h
  symm;refine en ?_;have n9:nS (decide (Bj x=lft)) x.ws y.ws<=9:=by
   unfold nS
   split
   .exact wsl hx
   .exact wsl hy
  symm;rw[6,Y5 ∅];rw[6,VI];have er:rwG kv x y=rws (decide (Bj x=lft)) kv x.ws y.ws:=by
   cases x with
   |fin=>
     cases y with
     |fin=>rfl
     |st s vs=>cases hf
   |st s ws=>
     cases y with
     |fin=>cases hf
     |st s' vs=>simp only[rwG,eB (show s=s' from es)];rfl
  rw[er]
  by_cases e3:Du (zN ((Bk kv x.ws y.ws).map (prS (decide (Bj x=lft)))))=zN (List.range (nS (decide (Bj x=lft)) x.ws y.ws))
  .refine BZ (by rw[uo3 e3];rfl) ?_;symm;have ac:∀{z:Option Sl},L2.W (AQ (Aj 0) BL (Ag ci (Aa (Ab 1) (Aa (Ab 2) (Aa (Ab 3) (Aa (Ab 0) Ad))))) ((Bk kv x.ws y.ws).map (Dt (p,q)))) ⟨[z,vw (gL g),vw (gL h),vw (.str (Bj x))],S'⟩ λxs t'=>xs=((Bk kv x.ws y.ws).map (wiS (decide (Bj x=lft)) x.ws y.ws)).map D.bl/\t'.S=S':=λ{z}=>by
    cases x with
    |fin=>exact W_compL_nil.mpr ⟨rfl,rfl⟩
    |st s ws=>
      cases y with
      |fin=>cases hf
      |st s' vs=>
        obtain⟨ok1,_⟩:=hx;obtain⟨ok2,_⟩:=hy
        cases ok1 with
        |st _ _ _ _ o1=>
        cases ok2 with
        |st _ _ _ _ o2=>
        exact Ry (kv:=kv) (N:=none) hi e1 e2 o1 o2
   refine ac.mono ?_;rintro xs t' ⟨rfl,hS⟩;refine AM (by rw[um6,um6];lia) ?_;rw[hS];symm;rw[6,XZ (F9 _)];rw[uq1];unfold rws
   cases e4:(Bk kv x.ws y.ws).all (id ∘ wiS (decide (Bj x=lft)) x.ws y.ws) with
   |true=>
     symm;rw[eB ⟨e3,e4⟩];exact⟨rfl,rfl⟩
   |false=>
     symm;rw[eC λz=>by have:=z.2;rw[show(Bk kv x.ws y.ws).all (wiS (decide (Bj x=lft)) x.ws y.ws)=(Bk kv x.ws y.ws).all (id ∘ wiS (decide (Bj x=lft)) x.ws y.ws) from rfl,e4] at this;cases this]
     exact⟨rfl,rfl⟩
  .refine B1 (by rw[un7 e3];rfl) ?_;symm;unfold rws;rw[eC λz=>e3 z.1];exact⟨rfl,rfl⟩
 .refine B1 (by rw[cL.mpr es];rfl) ?_;symm;refine⟨?_,rfl⟩
  cases x with
  |fin=>
    cases y with
    |fin=>exact absurd rfl es
    |st s vs=>rfl
  |st s ws=>
    cases y with
    |fin=>rfl
    |st s' vs=>simp only[rwG,eC (show ¬s=s' from es)];rfl
def Jw(g:List GS)(p:Nat):List Wd7:=(g[p]?.map GS.ws).getD []
def thn(g:List GS)(p k:Nat):Nat:=((Jw g p)[k]?.map λw=>w.2.2.toNat).getD 0
def nxF(g h:List GS)(p x:Nat×Nat):Nat×Nat:=(thn g p.1 x.1,thn h p.2 x.2)
def FRw(g h:List GS)(kv:List (Str×Str))(p:Nat×Nat):Option (List (Nat×Nat)):=match g[p.1]?,h[p.2]? with
 |some x,some y=>rwG kv x y
 |_,_=>none
def FLk(g h:List GS)(kv:List (Str×Str))(p:Nat×Nat):Option (List (Nat×Nat)):=match g[p.1]?,h[p.2]? with
 |some x,some y=>lkG kv x y
 |_,_=>none
def Vp(g h:List GS)(p:Nat×Nat):Prop:=p.1<g.length/\p.2<h.length
def Vx(g h:List GS)(p x:Nat×Nat):Prop:=x.1<(Jw g p.1).length/\x.2<(Jw h p.2).length
theorem Fw(hg:GG g){p k:Nat}(hp:p<g.length)(hk:k<(Jw g p).length):thn g p k<g.length/\∃s ws w,g[p]?=some (.st s ws)/\ws[k]?=some w/\w.2.2=(thn g p k:Nat):=by
 have e:g[p]?=some g[p]:=ub5 hp;have hok:=hg.ok _ (uk6 hp);unfold thn;unfold Jw at hk⊢;rw[e] at hk⊢;generalize g[p]=x at e hok hk⊢;obtain⟨ok,_⟩:=hok
 cases ok with
 |fin=>exact absurd hk (Nat.not_lt_zero _)
 |@st s ws _ _ _ _ hw=>
   have hk:k<ws.length:=hk;have ek:ws[k]?=some ws[k]:=ub5 hk;have o:=hw _ (uk6 hk);have h0:=o.lo;have h1:=o.hi;show((ws[k]?.map λw=>w.2.2.toNat).getD 0<_)/\_;simp only[un2,ul6,GS.ws];rw[ek];refine⟨by show(ws[k]).2.2.toNat<_;lia,s,ws,ws[k],rfl,ek,by show _=((ws[k].2.2.toNat:Nat):Int);lia⟩
def V6(f:Fn):Prop:=∀(g:List GS) (p k:Nat) (s:Str) (ws:List Wd7) (w:Wd7),g[p]?=some (.st s ws)->ws[k]?=some w->Pure1 f [gL g,pD (p,k)] (.int w.2.2)
theorem Vz:V6 (fnOf 2 2 Ey):=by
 intro g p k s ws w e1 e2 S;refine Ao rfl ?_;unfold Ey pD;symm;refine AC (DA e1) ?_;rw[GS.d];symm;rw[6,AC (d:=.tup [.str w.1,w.2.1.d,.int w.2.2]) (HU e2)];exact⟨rfl,rfl⟩
def PNx(f:Fn):Prop:=∀(g h:List GS) (p x:Nat×Nat),GG g->GG h->Vp g h p->Vx g h p x->Pure1 f [gL g,gL h,Dt p x] (pD (nxF g h p x))
theorem Xl(hs:V6 cs0):PNx (fnOf 3 3 (E3 cs0)):=by
 intro g h p x hg hh hp hx S;obtain⟨_,s1,ws1,w1,e1,e2,e3⟩:=Fw hg hp.1 hx.1;obtain⟨_,s2,ws2,w2,e4,e5,e6⟩:=Fw hh hp.2 hx.2;rw[9,E3];rw[6,(hs g p.1 x.1 s1 ws1 w1 e1 e2).use];rw[6,(hs h p.2 x.2 s2 ws2 w2 e4 e5).use];rw[e3,e6];exact⟨rfl,rfl⟩
variable{h:List GS}
theorem WT(hg:GG g)(hh:GG h){p x:Nat×Nat}(hp:Vp g h p)(hx:Vx g h p x):Vp g h (nxF g h p x):=⟨(Fw hg hp.1 hx.1).1,(Fw hh hp.2 hx.2).1⟩
variable{p:Nat×Nat}
theorem Rz{a:List (Nat×Nat)}(e:FRw g h kv p=some a):∀x∈a,Vx g h p x:=by
 unfold FRw at e;unfold Vx Jw
 cases e1:g[p.1]? with
 |none=>rw[e1] at e;cases e
 |some x=>
   cases e2:h[p.2]? with
   |none=>rw[e1,e2] at e;cases e
   |some y=>
     rw[e1,e2] at e;have e:rwG kv x y=some a:=e
     cases x with
     |fin=>
       cases y with
       |fin=>simp only[rwG] at e;cases e;exact λ_ h=>nomatch h
       |st s vs=>simp only[rwG] at e;cases e
     |st s ws=>
       cases y with
       |fin=>simp only[rwG] at e;cases e
       |st s' vs=>
         simp only[rwG] at e
         split at e
         .unfold rws at e
          split at e
          .cases e
           intro z hz;obtain⟨h1,h2,_⟩:=mem_kl.mp hz;exact⟨h1,h2⟩
          .cases e
         .cases e
theorem Lo(hg:GG g)(hh:GG h){kv:List (Str×Str)}{p:Nat×Nat}{a:List (Nat×Nat)}(e:FRw g h kv p=some a):a.length<=9:=by
 unfold FRw at e
 cases e1:g[p.1]? with
 |none=>rw[e1] at e;cases e
 |some x=>
   cases e2:h[p.2]? with
   |none=>rw[e1,e2] at e;cases e
   |some y=>
     rw[e1,e2] at e;have e:rwG kv x y=some a:=e;have o1:=(hg.ok x (ue6 e1)).ok;have o2:=(hh.ok y (ue6 e2)).ok
     cases o1 with
     |fin=>
       cases o2 with
       |fin=>simp only[rwG] at e;cases e;exact ur0 _
       |st=>simp only[rwG] at e;cases e
     |st _ _ c _ _=>
       cases o2 with
       |fin=>simp only[rwG] at e;cases e
       |st _ _ _ nd _=>
         simp only[rwG] at e
         split at e
         .unfold rws at e
          split at e
          .cases e;exact up6 (OW nd) c
          .cases e
         .cases e
theorem GM(hg:GG g)(hh:GG h){l:List (Nat×Nat)}(nd:l.Nodup)(hv:∀p∈l,Vp g h p):l.length<=g.length*h.length:=by
 have:=nd.length_le_of_subset (l₂:=(List.range g.length).flatMap λi=>(List.range h.length).map λj=>(i,j)) λp hp=>by
  clear 5(hv p hp)h1 h2;exact ul2.mpr ⟨p.1,un8.mpr h1,uq6.mpr ⟨p.2,un8.mpr h2,rfl⟩⟩
 rw[List.length_flatMap] at this;refine up6 this (dA ?_);rw[show((List.range g.length).map λa=>((List.range h.length).map λj=>(a,j)).length)=(List.range g.length).map λ_=>h.length from ug0 λ_ _=>by rw[um6,ui5],List.map_const',ud0,ui5]
def pI(p:Nat×Nat):Int×Int:=((p.1:Int),(p.2:Int))
theorem W6{q:Nat×Nat}(h:pI p=pI q):p=q:=by
 unfold pI at h;injection h with h1 h2
 exact dS ∅ ∅
variable{ks:List (Nat×Nat)}
theorem pI_mem:(pI p∈ks.map pI)↔p∈ks:=⟨λh=>by clear 5(uq6.mp h)q hq e;rw[<-W6 e];exact hq,λh=>ug3 h⟩
def stR(S:List Ob)(ks stk:List (Nat×Nat)):List Ob:=S++[Ob.dtu (ks.map pI),Ob.lst (stk.map pD)]
section
variable{S:List Ob}{ks stk:List (Nat×Nat)}
theorem Th:(stR S ks stk)[S.length]?=some (.dtu (ks.map pI)):=by unfold stR;simp
theorem NN:(stR S ks stk)[S.length+1]?=some (.lst (stk.map pD)):=by unfold stR;simp
theorem XT{l:List (Nat×Nat)}:(stR S ks stk).set S.length (.dtu (l.map pI))=stR S l stk:=by unfold stR;rw[ue1 _ _ (uq9 _),uq4];rfl
theorem PL{l:List (Nat×Nat)}:(stR S ks stk).set (S.length+1) (.lst (l.map pD))=stR S ks l:=by unfold stR;rw[ue1 _ _ ∅,show S.length+1-S.length=1 by lia];rfl
theorem Vw(h:S[i]?=some o):(stR S ks stk)[i]?=some o:=by unfold stR;rw[ub1 (AS h)];exact h
theorem Lw:Gr S (stR S ks stk):=⟨by unfold stR;rw[ug7];lia,λi hi=>by unfold stR;rw[ub1 hi]⟩
end
theorem X6{i j:Int}{ks:List (Int×Int)}{t:T}(e:t.S[n]?=some (.dtu ks))(h:P (.bl (!decide ((i,j)∈ks))) t):L2.W (inU true (.tup [.int i,.int j]) (.obj n)) t P:=⟨_,_,by simp only[inU,e,eB],h⟩
theorem Ya{g:M D}{d:D}{t:T}(h:L2.W f t λo t1=>L2.W g t1 λi t2=>L2.W (II o i) t2 U):L2.W (stU f g d) t U:=C7 (h.mono λo t1 h1=>C7 h1)
theorem Sj{i j:Int}{ks:List (Int×Int)}{t:T}(e:t.S[n]?=some (.dtu ks))(hl:ks.length<LIM)(h:U () ⟨t.env,t.S.set n (.dtu (if (i,j)∈ks then ks else ks++[(i,j)]))⟩):L2.W (II (.obj n) (.tup [.int i,.int j])) t U:=⟨(),_,by simp only[II,e,eB hl],h⟩
theorem MR{k:Nat}{d:D}{t:T}(e0:t.env[i]?=some (vw (.obj k)))(e1:t.env[j]?=some (vw d))(e:t.S[k]?=some (.lst xs))(hl:xs.length<LIM)(h:P .non ⟨t.env,t.S.set k (.lst (xs++[d]))⟩):L2.W (objM AZ (Ab i) (Aa (Ab j) Ad)) t P:=by
 refine Tr (Bp e0 ⟨rfl,xs,e,Cy (Bp e1 (GN ⟨xs,xs++[d],e,?_,h⟩))⟩);simp only[AZ,eB hl]
structure RI7(F:Nat×Nat->Option (List (Nat×Nat)))(nx:Nat×Nat->Nat×Nat->Nat×Nat)(ks P stk:List (Nat×Nat)):Prop where
 nd:ks.Nodup
 pm:ks.Perm (P++stk)
 rc:∀p∈ks,Rc72 F nx p
 z:(0,0)∈ks
 ok:∀p∈P,∃a,F p=some a/\∀x∈a,nx p x∈ks
theorem RI7.v(hg:GG g)(hh:GG h){kv:List (Str×Str)}{p:Nat×Nat}(r:Rc72 (FRw g h kv) (nxF g h) p):Vp g h p:=by
 induction r with
 |base=>exact⟨hg.l1,hh.l1⟩
 |@step p a x _ e m ih=>exact WT hg hh ih (Rz e x m)
variable{F:Nat×Nat->Option (List (Nat×Nat))}
theorem RI7.all{nx:Nat×Nat->Nat×Nat->Nat×Nat}{P:List (Nat×Nat)}(h:RI7 F nx ks P []):P.Nodup/\(∀p,p∈P↔Rc72 F nx p)/\∀p∈P,F p≠none:=by
 have pm:=h.pm;rw[um3] at pm;refine⟨(pm.nodup_iff).mp h.nd,λp=>⟨λm=>h.rc p (pm.mem_iff.mpr m),λr=>?_⟩,λp m e=>?_⟩
 .induction r with
  |base=>exact pm.mem_iff.mp h.z
  |@step p a x _ e m ih=>
    clear 5(h.ok p ih)b e2 hb;rw[e] at e2
    cases e2
    exact pm.mem_iff.mp (hb x m)
 .obtain⟨a,e2,_⟩:=h.ok p m;rw[e] at e2;cases e2
theorem Jl{cp:Fn}(hp:PNx cp){g h:List GS}(hg:GG g)(hh:GG h){p:Nat×Nat}(vp:Vp g h p){S:List Ob}{a2 a3 a6:Option Sl}:∀(l:List (Nat×Nat)) (ks stk:List (Nat×Nat)) (e7 e8:Option Sl),(∀x∈l,Vx g h p x)->ks.Nodup->ks.length+l.length<=5000->stk.length+l.length<=5000->
 L2.W (A1 (Aj 7) (rlB cp) (l.map (Dt p))) ⟨[vw (gL g),vw (gL h),a2,a3,vw (.obj S.length),vw (.obj (S.length+1)),a6,e7,e8],stR S ks stk⟩ λo t=>o=.next/\∃new f7 f8,t=⟨[vw (gL g),vw (gL h),a2,a3,vw (.obj S.length),vw (.obj (S.length+1)),a6,f7,f8],stR S (ks++new) (stk++new)⟩/\(ks++new).Nodup/\(∀x∈l,nxF g h p x∈ks++new)/\∀q∈new,∃x∈l,q=nxF g h p x
 |[],ks,stk,e7,e8,_,nd,_,_=>W_forL_nil.mpr ⟨rfl,[],_,_,by rw[um3,um3],by rw[um3];exact nd,(λ_ h=>nomatch h),λ_ h=>nomatch h⟩
 |x::l,ks,stk,e7,e8,hv,nd,h1,h2=>by
   have hL:LIM=100000:=rfl;rw[uj8] at h1 h2;rw[uo6,W_forL_cons];refine CH ?_;unfold rlB;symm;refine(hp g h p x hg hh vp (hv x ug5)).use ?_;unfold pD;symm;rw[6,X6 Th];have em:decide (((((nxF g h p x).1:Nat):Int),(((nxF g h p x).2:Nat):Int))∈ks.map pI)=decide (nxF g h p x∈ks):=c9.mpr pI_mem;rw[em]
   by_cases e:nxF g h p x∈ks
   .refine BZ (by rw[uo3 e];rfl) ?_;symm;refine(Jl hp hg hh vp l ks stk _ _ (λy m=>hv y (ue3 _ m)) nd ∅ ∅).mono λo t ⟨q1,new,f7,f8,q2,q3,q4,q5⟩=>⟨q1,new,f7,f8,q2,q3,λy hy=>?_,λq hq=>?_⟩
    .rcases uo5.mp hy with rfl|hy
     .exact ue4 _ e
     .exact q4 y hy
    .clear 5(q5 q hq)y hy e;exact⟨y,ue3 _ hy,e⟩
   .refine B1 (by rw[un7 e];rfl) ?_;symm;rw[6,Ya];refine Sj Th (by rw[um6,hL];lia) ?_;have nm:¬((((nxF g h p x).1:Nat):Int),(((nxF g h p x).2:Nat):Int))∈ks.map pI:=λz=>e (pI_mem.mp z);rw[eC nm,show ks.map pI++[((((nxF g h p x).1:Nat):Int),(((nxF g h p x).2:Nat):Int))]=(ks++[nxF g h p x]).map pI by rw[un5];rfl,XT];symm;refine MR rfl rfl NN (by rw[um6,hL];lia) ?_;rw[show stk.map pD++[D.tup [.int ((nxF g h p x).1:Nat),.int ((nxF g h p x).2:Nat)]]=(stk++[nxF g h p x]).map pD by rw[un5];rfl,PL];dsimp only;have nd':(ks++[nxF g h p x]).Nodup:=ui4.mpr ⟨nd,um4.mpr ⟨uk5,un9⟩,λa ha b hb z=>by rw[ug9] at hb;subst hb;subst z;exact e ha⟩;refine(Jl hp hg hh vp l (ks++[nxF g h p x]) (stk++[nxF g h p x]) _ _ (λy m=>hv y (ue3 _ m)) nd' (by rw[ug7,ud3];lia) (by rw[ug7,ud3];lia)).mono λo t ⟨q1,new,f7,f8,q2,q3,q4,q5⟩=>⟨q1,nxF g h p x::new,f7,f8,?_,?_,λy hy=>?_,λq hq=>?_⟩
    .rw[q2,ui0,ui0];rfl
    .rw[ui0] at q3;exact q3
    .rw[ui0] at q4;rcases uo5.mp hy with rfl|hy
     .exact ud1 _ ug5
     .exact q4 y hy
    .rcases uo5.mp hq with rfl|hq
     .exact⟨x,ug5,rfl⟩
     .clear 5(q5 q hq)y hy e;exact⟨y,ue3 _ hy,e⟩
theorem HM{g h:List GS}(hg:GG g)(hh:GG h){kv:List (Str×Str)}:∀P:List (Nat×Nat),(BE (FRw g h kv) P).length<=9*P.length
 |[]=>ur0 _
 |p::P=>by
   have ih:=HM hg hh (kv:=kv) P;unfold BE at ih⊢;rw[uj1,ug7,um6,uj8]
   cases e:FRw g h kv p with
   |none=>show 0+_<=_;lia
   |some a=>
     have:=Lo hg hh e;show a.length+_<=_;lia
theorem V4(v:Vp g h p):∃x y,g[p.1]?=some x/\h[p.2]?=some y/\FRw g h kv p=rwG kv x y:=by
 refine⟨g[p.1]'v.1,h[p.2]'v.2,ub5 v.1,ub5 v.2,?_⟩;unfold FRw;rw[ub5 v.1,ub5 v.2]
theorem Iv:∀{R9:List (List Int)},(∀r∈R9,r≠[])->Gv (R9.map AU)=some R9
 |[],_=>rfl
 |r::R9,h=>by
   rw[uo6];show(CA (r.map D.int)).bind _=_;rw[Ea,ul0,eC (h r ug5),Iv λx m=>h x (ue3 _ m)];rfl
theorem MP{P:List (Nat×Nat)}:∀r∈BE F P,r≠[]:=λr hr=>by
 unfold BE at hr;obtain⟨p,_,hr⟩:=ul2.mp hr;obtain⟨x,_,rfl⟩:=uq6.mp hr;exact λh=>nomatch h
theorem LL{R9:List (List Int)}{t:T}(h1:∀r∈R9,r≠[])(h2:R9.length<=2000)(h:Q ((D3 R9).map AU) t):L2.W (EH [.lst (R9.map AU)]) t Q:=by
 refine⟨_,_,?_,h⟩;simp only[EH,Iv h1,ul0,eB h2]
theorem Sc{t:T}(h:P (.obj t.S.length) ⟨t.env,t.S++[.dtu [(0,0)]]⟩):L2.W (Gm (As (Aa (bM 0) (Aa (bM 0) Ad))) (fC (.bl true))) t P:=by
 refine⟨.obj t.S.length,⟨t.env,t.S++[.dtu [(0,0)]]⟩,?_,h⟩;have e1:(t.S++[Ob.dtu []])[t.S.length]?=some (.dtu []):=A4;have e2:(t.S++[Ob.dtu []]).set t.S.length (.dtu [(0,0)])=t.S++[.dtu [(0,0)]]:=IV;have e3:([D.int 0,D.int 0]:List D).length<=LIM:=ud6 rfl;simp only[Gm,As,Aa,fC,Ad,bnd,L2.ret,lim,eB e3,e1,e2]
theorem VM{k:Nat}{d:D}{t:T}(e0:t.env[i]?=some (vw (.obj k)))(e:t.S[k]?=some (.lst (xs++[d])))(h:P d ⟨t.env,t.S.set k (.lst xs)⟩):L2.W (KY (Ab i)) t P:=by
 refine C7 (Bp e0 ⟨d,⟨t.env,t.S.set k (.lst xs)⟩,?_,h⟩);have h1:(xs++[d])[(xs++[d]).length-1]?=some d:=by simp
 have h2:(xs++[d]).dropLast=xs:=List.dropLast_concat;simp only[e,h1,h2]
def rlW(CN FK:Fn):M Out:=
 (Ah (Am 6 (Ag FK (Aa (Ab 0) (Aa (Ab 1) (Aa (Ab 2) (Aa (KY (Ab 5)) Ad))))))
 (Ah (ifS (Ai (Ac (Ab 6) (fC .non) isC))
   (Aq (fC .non))
   An)
 (Ah (ownM 3 EW (Aa (Ab 6) Ad))
 (Ba (BH (Ab 6)) (Aj 7) (rlB CN)))))
theorem RI7.step{F:Nat×Nat->Option (List (Nat×Nat))}{nx:Nat×Nat->Nat×Nat->Nat×Nat}{ks P st new:List (Nat×Nat)}{p:Nat×Nat}{a:List (Nat×Nat)}(h:RI7 F nx ks P (st++[p]))(e:F p=some a)(nd:(ks++new).Nodup)(h1:∀x∈a,nx p x∈ks++new)(h2:∀q∈new,∃x∈a,q=nx p x):RI7 F nx (ks++new) (P++[p]) (st++new):=by
 have hp:p∈ks:=h.pm.mem_iff.mpr (ud1 _ (ud1 _ ug5));refine⟨nd,?_,λq hq=>?_,ue4 _ h.z,λq hq=>?_⟩
 .have h3:(P++(st++[p])).Perm (P++[p]++st):=by
   rw[ui0];exact ud7 _ ud8
  refine((h.pm.trans h3).append_right new).trans ?_;rw[ui0]
 .rcases um1.mp hq with hq|hq
  .exact h.rc q hq
  .clear 5(h2 q hq)x hx rfl;exact .step (h.rc p hp) e hx
 .rcases um1.mp hq with hq|hq
  .clear 5(h.ok q hq)b e2 hb;exact⟨b,e2,λx hx=>ue4 _ (hb x hx)⟩
  .rw[ug9] at hq;subst hq;exact⟨a,e,h1⟩
theorem U4(hp:PNx cp)(hr:HX cr){g h:List GS}(hg:GG g)(hh:GG h){kv:List (Str×Str)}{N:Nat}{S:List Ob}(hN:S[N]?=some (.dct (nmD kv))){e6 e7 e8:Option Sl} :
 L2.W (FB (Ai (Ac (fB (Aa (Ab 5) Ad) AD) (bM 0) gtA)) (rlW cp cr)) ⟨[vw (gL g),vw (gL h),vw (.obj N),some (.own []),vw (.obj S.length),vw (.obj (S.length+1)),e6,e7,e8],stR S [(0,0)] [(0,0)]⟩ λo t=>(o=.ret .non/\(∃p,Rc72 (FRw g h kv) (nxF g h) p/\FRw g h kv p=none)/\Gr S t.S)\/(o=.next/\XN5 λks P f6 f7 f8=>t=⟨[vw (gL g),vw (gL h),vw (.obj N),some (.own ((BE (FRw g h kv) P).map AU)),vw (.obj S.length),vw (.obj (S.length+1)),f6,f7,f8],stR S ks []⟩/\RI7 (FRw g h kv) (nxF g h) ks P []):=by
 have hL:LIM=100000:=rfl;have hM:g.length*h.length<=100:=up6 (uo2 hg.l2 hh.l2) (by decide);unfold FB;refine FG (λn t=>XN6 λks P stk f6 f7 f8=>AN3 (t=⟨[vw (gL g),vw (gL h),vw (.obj N),some (.own ((BE (FRw g h kv) P).map AU)),vw (.obj S.length),vw (.obj (S.length+1)),f6,f7,f8],stR S ks stk⟩) (RI7 (FRw g h kv) (nxF g h) ks P stk) (n+P.length=g.length*h.length)) ?_ GQ (g.length*h.length) _ (by show _<1000000;lia) ⟨[(0,0)],[],[(0,0)],_,_,_,rfl,⟨um4.mpr ⟨uk5,un9⟩,.refl _,λp hp=>by rw[ug9] at hp;subst hp;exact .base,ug5,λ_ h=>nomatch h⟩,by rw[un0,uq3]⟩;rintro n t ⟨ks,P,stk,f6,f7,f8,rfl,R,hn⟩;have vks:∀p∈ks,Vp g h p:=λp m=>RI7.v hg hh (R.rc p m);have kl:=GM hg hh R.nd vks;have pl:P.length+stk.length=ks.length:=by rw[R.pm.length_eq,ug7]
 symm;refine Kh NN ?_;rw[um6];symm;rcases List.eq_nil_or_concat stk with rfl|⟨st,p,es⟩
 .rw[un7 (by rw[un0];lia)];exact .inr ⟨rfl,ks,P,f6,f7,f8,rfl,R⟩
 .rw[List.concat_eq_append] at es;subst es;rw[ug7,ud3] at pl;rw[uo3 (by rw[ug7,ud3];lia)];have hpk:p∈ks:=R.pm.mem_iff.mpr (ud1 _ (ud1 _ ug5));clear 5(V4 (kv:=kv) (vks p hpk))x y ex ey ef;refine⟨n-1,by lia,?_⟩;unfold rlW;symm;refine VM (xs:=st.map pD) (d:=pD p) rfl (by rw[show st.map pD++[pD p]=(st++[p]).map pD by rw[un5];rfl];exact NN) ?_;rw[PL];symm;refine(hr g h p.1 p.2 x y _ _ kv N (stR S ks st) ex ey (hg.ok x (ue6 ex)) (hh.ok y (ue6 ey)) (Vw hN)).mono λr S' z9=>?_;clear 5 z9 q1 q2;subst q1 q2;rw[<-ef]
  cases ea:FRw g h kv p with
  |none=>
    unfold rwD;symm;exact .inl ⟨rfl,⟨p,R.rc p hpk,ea⟩,Lw⟩
  |some a=>
    have al:=Lo hg hh ea;have tl:=HM hg hh (kv:=kv) P;unfold rwD;symm;refine X4 rfl (by rw[um6,um6];lia) ?_;symm;rw[show(BE (FRw g h kv) P).map AU++a.map (Dt (p.1,p.2))=(BE (FRw g h kv) (P++[p])).map AU by
     unfold BE;rw[List.flatMap_append,un5,uj1,ul7,um3,ea,ul6,uq5];rfl]
    refine(Jl hp hg hh (vks p hpk) a ks st f7 f8 (Rz ea) R.nd ∅ ∅).mono λo t z9=>?_;clear 5 z9 q1 new f7' f8' q2 q3 q4 q5;subst q1 q2;exact⟨ks++new,P++[p],st++new,_,f7',f8',rfl,R.step ea q3 q4 q5,by rw[ug7,ud3];lia⟩
def IQ(f:Fn):Prop:=∀(g h:List GS) (kv:List (Str×Str)) (N:Nat) (S:List Ob),GG g->GG h->S[N]?=some (.dct (nmD kv))->Wf f [gL g,gL h,.obj N] S λr S'=>Gr S S'/\∃o,IS (FRw g h kv) (nxF g h) o/\match o with
 |none=>r=.non
 |some R9=>∃A,r=.obj A/\S.length<=A/\S'[A]?=some (.lst (R9.map AU))
theorem Rt(hp:PNx cp)(hr:HX cr):IQ (fnOf 3 9 (D1 cp cr)):=by
 intro g h kv N S hg hh hN;rw[9,D1];rw[6,Sc];rw[show S++[Ob.dtu [(0,0)]]++[Ob.lst [D.tup [.int 0,.int 0]]]=stR S [(0,0)] [(0,0)] by rw[ui0];rfl,ug7,ud3];refine(U4 hp hr hg hh hN).mono λo t hq=>?_;rcases hq with⟨q1,q2,q3⟩|⟨q1,ks,P,f6,f7,f8,q2,R⟩
 .subst q1;exact⟨q3,none,q2,rfl⟩
 .subst q1 q2;clear 5 R.all h1 h2 h3;have hM:g.length*h.length<=100:=up6 (uo2 hg.l2 hh.l2) (by decide);have pl:=GM hg hh h1 λp m=>RI7.v hg hh ((h2 p).mp m);have tl:=HM hg hh (kv:=kv) P;symm;rw[6,LL MP ∅];refine⟨?_,some (D3 (BE (FRw g h kv) P)),⟨P,_,h1,h2,h3,.refl _,rfl⟩,_,rfl,?_,A4⟩
  .exact(Lw (S:=S) (ks:=ks) (stk:=[])).app72
  .exact(Lw (S:=S) (ks:=ks) (stk:=[])).1
def GL7(S:List Ob)(d:D)(g:List GS):Prop:=d=gL g\/∃k,d=.obj k/\S[k]?=some (.lst (g.map GS.d))
theorem GL7.app{d:D}(h:GL7 S d g){x:List Ob}:GL7 (S++x) d g:=by
 rcases h with h|⟨k,h1,h2⟩
 .exact .inl h
 .exact .inr ⟨k,h1,by rw[ub1 (AS h2)];exact h2⟩
theorem GL7.gr{d:D}(h:GL7 S d g)(r:Gr S S'):GL7 S' d g:=by
 rcases h with h|⟨k,h1,h2⟩
 .exact .inl h
 .exact .inr ⟨k,h1,r.get h2⟩
theorem Tn{t:T}{d:D}(h:GL7 t.S d g){P:D->T->Prop}(p:P (.int (g.length:Nat)) t):L2.W (AD [d]) t P:=by
 rcases h with rfl|⟨k,rfl,h2⟩
 .refine NW ?_;rw[um6];exact p
 .refine Kh h2 ?_;rw[um6];exact p
theorem NV{t:T}{d:D}(h:GL7 t.S d g){p:Nat}{x:GS}(e:g[p]?=some x){P:D->T->Prop}(q:P x.d t):L2.W (ixD d (.int (p:Nat))) t P:=by
 rcases h with rfl|⟨k,rfl,h2⟩
 .exact AC (DA e) q
 .exact L2.LK h2 (DA e) q
def pL(p:Nat×Nat):List Int:=[(p.1:Int),(p.2:Int)]
theorem W8{q:Nat×Nat}(h:pL p=pL q):p=q:=by
 unfold pL at h;injection h with h1 h2
 injection h2 with h2
 exact dS ∅ ∅
theorem JM:∀l:List (List Int),G6 (l.map AU)=some l
 |[]=>rfl
 |r::l=>by
   rw[uo6];show(CA (r.map D.int)).bind _=_;rw[Ea,ul0,JM l];rfl
theorem X5{k:Nat}{ps:List (Nat×Nat)}{t:T}(e:t.S[k]?=some (.lst (ps.map pD)))(h:P (.bl (!decide (p∈ps))) t):L2.W (inI (.tup [.int (p.1:Nat),.int (p.2:Nat)]) (.obj k)) t P:=by
 refine⟨_,_,?_,h⟩;have e1:Kg (.tup [.int (p.1:Nat),.int (p.2:Nat)])=some (pL p):=rfl;have e2:QU (BQ t.S (.obj k))=some (ps.map pL):=by
  simp only[BQ,e];show G6 (ps.map pD)=_;rw[show ps.map pD=(ps.map pL).map AU by rw[uq5];rfl,JM]
 have e3:((ps.map pL).any λb=>decide (b=pL p))=decide (p∈ps):=by
  rw[un3,ul1,uj2];constructor
  .rintro⟨b,hb,q⟩;clear 5(uq6.mp hb)r hr rfl;rw[<-W8 (uj3 q)];exact hr
  .exact λm=>⟨_,ug3 m,uo3 rfl⟩
 simp only[inI,e1,e2,ul0,un2,e3]
theorem Nm(p:Nat×Nat):FRw g h kv p=none↔FLk g h kv p=none:=by
 unfold FRw FLk
 cases g[p.1]? with
 |none=>exact⟨λ_=>rfl,λ_=>rfl⟩
 |some x=>
   cases h[p.2]? with
   |none=>exact⟨λ_=>rfl,λ_=>rfl⟩
   |some y=>exact U5
theorem Nn(p:Nat×Nat)(a c:List (Nat×Nat))(h1:FRw g h kv p=some a)(h2:FLk g h kv p=some c):a.Perm c:=by
 unfold FRw at h1;unfold FLk at h2
 cases e1:g[p.1]? with
 |none=>rw[e1] at h1;cases h1
 |some x=>
   cases e2:h[p.2]? with
   |none=>rw[e1,e2] at h1;cases h1
   |some y=>
     rw[e1,e2] at h1 h2;exact U6 h1 h2
theorem SS{c:List (Nat×Nat)}(e:FLk g h kv p=some c):∃a,FRw g h kv p=some a/\a.Perm c:=by
 cases e2:FRw g h kv p with
 |none=>rw[(Nm p).mp e2] at e;cases e
 |some a=>exact⟨a,rfl,Nn p a c e2 e⟩
theorem WO{c:List (Nat×Nat)}(e:FLk g h kv p=some c):∀x∈c,Vx g h p x:=λx hx=>by
 clear 5(SS e)a e2 pm;exact Rz e2 x (pm.mem_iff.mpr hx)
theorem O1(hg:GG g)(hh:GG h){kv:List (Str×Str)}{p:Nat×Nat}{c:List (Nat×Nat)}(e:FLk g h kv p=some c):c.length<=9:=by
 clear 5(SS e)a e2 pm;rw[<-pm.length_eq];exact Lo hg hh e2
theorem Rc72.vl(hg:GG g)(hh:GG h){kv:List (Str×Str)}{p:Nat×Nat}(r:Rc72 (FLk g h kv) (nxF g h) p):Vp g h p:=by
 induction r with
 |base=>exact⟨hg.l1,hh.l1⟩
 |@step p a x _ e m ih=>exact WT hg hh ih (WO e x m)
theorem F0{g h:List GS}(hg:GG g)(hh:GG h){kv:List (Str×Str)}:∀P:List (Nat×Nat),(BE (FLk g h kv) P).length<=9*P.length
 |[]=>ur0 _
 |p::P=>by
   have ih:=F0 hg hh (kv:=kv) P;unfold BE at ih⊢;rw[uj1,ug7,um6,uj8]
   cases e:FLk g h kv p with
   |none=>show 0+_<=_;lia
   |some a=>
     have:=O1 hg hh e;show a.length+_<=_;lia
theorem V3(v:Vp g h p):∃x y,g[p.1]?=some x/\h[p.2]?=some y/\FLk g h kv p=lkG kv x y:=by
 refine⟨g[p.1]'v.1,h[p.2]'v.2,ub5 v.1,ub5 v.2,?_⟩;unfold FLk;rw[ub5 v.1,ub5 v.2]
theorem RI7.stepQ{nx:Nat×Nat->Nat×Nat->Nat×Nat}{P st new:List (Nat×Nat)}{a:List (Nat×Nat)}(h:RI7 F nx ks P (p::st))(e:F p=some a)(nd:(ks++new).Nodup)(h1:∀x∈a,nx p x∈ks++new)(h2:∀q∈new,∃x∈a,q=nx p x):RI7 F nx (ks++new) (P++[p]) (st++new):=by
 refine RI7.step (st:=st) ⟨h.nd,h.pm.trans (ud7 _ ?_),h.rc,h.z,h.ok⟩ e nd h1 h2;exact ud8 (l₁:=[p]) (l₂:=st)
def stT(S:List Ob)(ps:List (Nat×Nat)):List Ob:=S++[Ob.lst (ps.map pD)]
theorem NO{ps:List (Nat×Nat)}:(stT S ps)[S.length]?=some (.lst (ps.map pD)):=A4
theorem YG{ps l:List (Nat×Nat)}:(stT S ps).set S.length (.lst (l.map pD))=stT S l:=IV
theorem Vy{ps:List (Nat×Nat)}(h:S[i]?=some o):(stT S ps)[i]?=some o:=AF h
theorem Js{g h:List GS}(hg:GG g)(hh:GG h){p:Nat×Nat}(vp:Vp g h p){S:List Ob}{dg dh:D}(lg:GL7 S dg g)(lh:GL7 S dh h){a2 a5 a8:Option Sl}:∀(l:List (Nat×Nat)) (ps:List (Nat×Nat)) (acc:List D) (e9 e10 e11:Option Sl),(∀x∈l,Vx g h p x)->ps.Nodup->ps.length+l.length<=5000->acc.length+l.length<=5000->
 L2.W (A1 (unS 2 (Ak (Aj 9) (Ak (Aj 10) AJ))) tbB (l.map pD)) ⟨[vw dg,vw dh,a2,vw (.obj S.length),some (.own acc),a5,vw (.int (p.1:Nat)),vw (.int (p.2:Nat)),a8,e9,e10,e11],stT S ps⟩ λo t=>o=.next/\∃new f9 f10 f11,t=⟨[vw dg,vw dh,a2,vw (.obj S.length),some (.own (acc++l.map (Dt p))),a5,vw (.int (p.1:Nat)),vw (.int (p.2:Nat)),a8,f9,f10,f11],stT S (ps++new)⟩/\(ps++new).Nodup/\(∀x∈l,nxF g h p x∈ps++new)/\∀q∈new,∃x∈l,q=nxF g h p x
 |[],ps,acc,e9,e10,e11,_,nd,_,_=>W_forL_nil.mpr ⟨rfl,[],_,_,_,by rw[um3,up9,um3],by rw[um3];exact nd,(λ_ h=>nomatch h),λ_ h=>nomatch h⟩
 |x::l,ps,acc,e9,e10,e11,hv,nd,h1,h2=>by
   have hL:LIM=100000:=rfl;rw[uj8] at h1 h2;have hx:=hv x ug5;obtain⟨_,s1,ws1,w1,q1,q2,q3⟩:=Fw hg vp.1 hx.1;obtain⟨_,s2,ws2,w2,q4,q5,q6⟩:=Fw hh vp.2 hx.2;rw[uo6,W_forL_cons];unfold pD;symm;unfold tbB;symm;rw[6,AM ∅];refine NV (lg.app (x:=[Ob.lst (ps.map pD)])) q1 ?_;rw[GS.d];symm;rw[6,AC (d:=.tup [.str w1.1,w1.2.1.d,.int w1.2.2]) (HU q2)];refine NV (lh.app (x:=[Ob.lst (ps.map pD)])) q4 ?_;rw[GS.d];symm;rw[6,AC (d:=.tup [.str w2.1,w2.2.1.d,.int w2.2.2]) (HU q5)];rw[q3,q6];rw[6,X5 (p:=nxF g h p x) NO]
   by_cases e:nxF g h p x∈ps
   .refine BZ (by rw[uo3 e];rfl) ?_;symm;refine(Js hg hh vp lg lh l ps (acc++[Dt p x]) _ _ _ (λy m=>hv y (ue3 _ m)) nd ∅ (by rw[ug7,ud3];lia)).mono λo t ⟨q1,new,f9,f10,f11,q2,q3,q4,q5⟩=>⟨q1,new,f9,f10,f11,?_,q3,λy hy=>?_,λq hq=>?_⟩
    .rw[q2,ui0,uo6];rfl
    .rcases uo5.mp hy with rfl|hy
     .exact ue4 _ e
     .exact q4 y hy
    .clear 5(q5 q hq)y hy e;exact⟨y,ue3 _ hy,e⟩
   .refine B1 (by rw[un7 e];rfl) ?_;symm;refine MR rfl rfl NO (by rw[um6,hL];lia) ?_;rw[show ps.map pD++[D.tup [.int (thn g p.1 x.1:Nat),.int (thn h p.2 x.2:Nat)]]=(ps++[nxF g h p x]).map pD by rw[un5];rfl,YG];dsimp only;have nd':(ps++[nxF g h p x]).Nodup:=ui4.mpr ⟨nd,um4.mpr ⟨uk5,un9⟩,λa ha b hb z=>by rw[ug9] at hb;subst hb;subst z;exact e ha⟩;refine(Js hg hh vp lg lh l (ps++[nxF g h p x]) (acc++[Dt p x]) _ _ _ (λy m=>hv y (ue3 _ m)) nd' (by rw[ug7,ud3];lia) (by rw[ug7,ud3];lia)).mono λo t ⟨q1,new,f9,f10,f11,q2,q3,q4,q5⟩=>⟨q1,nxF g h p x::new,f9,f10,f11,?_,?_,λy hy=>?_,λq hq=>?_⟩
    .rw[q2,ui0,ui0,uo6];rfl
    .rw[ui0] at q3;exact q3
    .rw[ui0] at q4;rcases uo5.mp hy with rfl|hy
     .exact ud1 _ ug5
     .exact q4 y hy
    .rcases uo5.mp hq with rfl|hq
     .exact⟨x,ug5,rfl⟩
     .clear 5(q5 q hq)y hy e;exact⟨y,ue3 _ hy,e⟩
def tbI(Cz:Fn):M Out:=
 (Ah (Am 8 (Ag Cz (Aa (Ac (Ab 0) (Ab 6) ixD) (Aa (Ac (Ab 1) (Ab 7) ixD) (Aa (Ab 2) Ad)))))
 (Ah (ifS (Ai (Ac (Ab 8) (fC .non) isC))
   (Aq (fC .non))
   An)
 (Ba (BH (Ab 8)) (unS 2 (Ak (Aj 9) (Ak (Aj 10) AJ))) tbB)))
def tbO(Cz:Fn):M Out:=
 (Ba (BH (fSl (Ab 3) (Bc (Ab 5)) (Bc (Ac (Ab 5) (bM 1) Aw)) HI)) (unS 2 (Ak (Aj 6) (Ak (Aj 7) AJ))) (tbI Cz))
theorem X9{k:Nat}{lo hi:Option Int}{t:T}(e:t.S[k]?=some (.lst ds))(h:P (.lst (AK ds lo hi)) t):L2.W (HI (.obj k) lo hi) t P:=⟨_,_,by simp only[HI,e],h⟩
theorem TF:AK xs (some (n:Int)) (some ((n:Int)+1))=(xs.drop n).take 1:=by
 rw[show((n:Int)+1)=((n+1:Nat):Int) from rfl];unfold AK;rw[HT.MG,HT.MG]
 by_cases h:n<xs.length
 .rw[un4 (up7 h),un4 h,show n+1-n=1 by lia]
 .rw[Nat.min_eq_right (show xs.length<=n by lia),uc9 (uq9 _),uc9 ∅,du,du]
theorem Jr{cl:Fn}(hl:GP cl){g h:List GS}(hg:GG g)(hh:GG h){kv:List (Str×Str)}{N:Nat}{S:List Ob}(hN:S[N]?=some (.dct (nmD kv))){dg dh:D}(lg:GL7 S dg g)(lh:GL7 S dh h):∀(m t:Nat) (ps:List (Nat×Nat)) (e5 e6 e7 e8 e9 e10 e11:Option Sl),RI7 (FLk g h kv) (nxF g h) ps (ps.take t) (ps.drop t)->
 L2.W (A1 (Aj 5) (tbO cl) ((List.range' t m).map λk:Nat=>D.int (k:Int))) ⟨[vw dg,vw dh,vw (.obj N),vw (.obj S.length),some (.own ((BE (FLk g h kv) (ps.take t)).map AU)),e5,e6,e7,e8,e9,e10,e11],stT S ps⟩ λo τ=>(o=.ret .non/\(∃p,Rc72 (FLk g h kv) (nxF g h) p/\FLk g h kv p=none)/\Gr S τ.S)\/(o=.next/\XN8 λps' f5 f6 f7 f8 f9 f10 f11=>τ=⟨[vw dg,vw dh,vw (.obj N),vw (.obj S.length),some (.own ((BE (FLk g h kv) (ps'.take (t+m))).map AU)),f5,f6,f7,f8,f9,f10,f11],stT S ps'⟩/\RI7 (FLk g h kv) (nxF g h) ps' (ps'.take (t+m)) (ps'.drop (t+m)))
 |0,t,ps,e5,e6,e7,e8,e9,e10,e11,R=>W_forL_nil.mpr (.inr ⟨rfl,ps,_,_,_,_,_,_,_,rfl,R⟩)
 |m+1,t,ps,e5,e6,e7,e8,e9,e10,e11,R=>by
   have hL:LIM=100000:=rfl;have hM:g.length*h.length<=100:=up6 (uo2 hg.l2 hh.l2) (by decide);have vks:∀p∈ps,Vp g h p:=λp m=>Rc72.vl hg hh (R.rc p m);have kl:=GM hg hh R.nd vks;have gr:Gr S (stT S ps):=Gr.app72 ⟨uq9 _,λ_ _=>rfl⟩;rw[uk4,uo6,W_forL_cons];refine CH ?_;unfold tbO;symm;refine X9 NO ?_;rw[TF];symm
   by_cases ht:t<ps.length
   .have ed:ps.drop t=ps[t]::ps.drop (t+1):=ub2 ht;have hpm:ps[t]∈ps:=uk6 ht;generalize ps[t]=p at ed hpm;clear 5(V3 (kv:=kv) (vks p hpm))x y ex ey ef;rw[<-up0,ed,uo6,List.take_succ_cons,dm,W_forL_cons];unfold pD;symm;unfold tbI;symm;rw[6,NV (t:=⟨_,stT S ps⟩) (lg.gr gr) ex];rw[6,NV (t:=⟨_,stT S ps⟩) (lh.gr gr) ey];refine(hl _ _ x y kv N (stT S ps) (hg.ok x (ue6 ex)) (hh.ok y (ue6 ey)) (Vy hN)).mono λr S' z9=>?_;clear 5 z9 q1 q2;subst q1 q2;rw[<-ef]
    cases ea:FLk g h kv p with
    |none=>
      unfold lkD;symm;exact .inl ⟨rfl,⟨p,R.rc p hpm,ea⟩,gr⟩
    |some a=>
      have al:=O1 hg hh ea;have tl:=F0 hg hh (kv:=kv) (ps.take t);have tk:(ps.take t).length<=100:=by rw[uj5];lia
      unfold lkD;symm;refine(Js hg hh (vks p hpm) lg lh a ps ((BE (FLk g h kv) (ps.take t)).map AU) _ _ _ (WO ea) R.nd ∅ (by rw[um6];lia)).mono λo τ z9=>?_;clear 5 z9 q1 new f9 f10 f11 q2 q3 q4 q5;subst q1 q2;dsimp only;rw[W_forL_nil];dsimp only;rw[ed] at R;have R2:=R.stepQ ea q3 q4 q5;have e1:(ps++new).take (t+1)=ps.take t++[p]:=by
       rw[List.take_append_of_le_length ∅,List.take_succ];have:ps[t]?=some p:=by
        have:=dQ (λl=>l[0]?) ed;simpa using this
       rw[this];rfl
      have e2:(ps++new).drop (t+1)=ps.drop (t+1)++new:=List.drop_append_of_le_length ∅;rw[<-e1,<-e2] at R2;rw[show(BE (FLk g h kv) (ps.take t)).map AU++a.map (Dt p)=(BE (FLk g h kv) ((ps++new).take (t+1))).map AU by
       rw[e1];unfold BE;rw[List.flatMap_append,un5,uj1,ul7,um3,ea,ul6,uq5];rfl]
      refine(Jr hl hg hh hN lg lh m (t+1) (ps++new) _ _ _ _ _ _ _ R2).mono λo τ hq=>?_;rw[show t+(m+1)=t+1+m by lia];exact hq
   .have ed:ps.drop t=[]:=uc9 ∅;have e1:ps.take (t+1)=ps.take t:=by rw[uc7 ∅,uc7 ∅]
    have e2:ps.drop (t+1)=ps.drop t:=by rw[ed,uc9 ∅]
    rw[<-up0,ed,up9,du,W_forL_nil];dsimp only;have R2:=R;rw[<-e1,<-e2] at R2;rw[<-e1];refine(Jr hl hg hh hN lg lh m (t+1) ps _ _ _ _ _ _ _ R2).mono λo τ hq=>?_;rw[show t+(m+1)=t+1+m by lia];exact hq
def tbD:Option (List (List Int))->D
 |none=>.non
 |some R9=>.lst (R9.map AU)
def M7(f:Fn):Prop:=∀(g h:List GS) (kv:List (Str×Str)) (N:Nat) (S:List Ob) (dg dh:D),GG g->GG h->S[N]?=some (.dct (nmD kv))->GL7 S dg g->GL7 S dh h->Wf f [dg,dh,.obj N] S λr S'=>Gr S S'/\∃o,IS (FLk g h kv) (nxF g h) o/\r=tbD o
theorem XX{cl:Fn}(hl:GP cl):M7 (fnOf 3 12 (D0 cl)):=by
 intro g h kv N S dg dh hg hh hN lg lh;have hM:g.length*h.length<=100:=up6 (uo2 hg.l2 hh.l2) (by decide);have h1:=hg.l2;have h2:=hh.l2;have R0:RI7 (FLk g h kv) (nxF g h) [(0,0)] ([(0,0)].take 0) ([(0,0)].drop 0):=⟨um4.mpr ⟨uk5,un9⟩,.refl _,λp hp=>by rw[ug9] at hp;subst hp;exact .base,ug5,λ_ h=>nomatch h⟩;rw[9,D0];rw[show S++[Ob.lst [D.tup [.int 0,.int 0]]]=stT S [(0,0)] from rfl];have gr:Gr S (stT S [(0,0)]):=Gr.app72 ⟨uq9 _,λ_ _=>rfl⟩;rw[6,Tn (t:=⟨_,stT S [(0,0)]⟩) (lg.gr gr)];refine Tn (t:=⟨_,stT S [(0,0)]⟩) (lh.gr gr) ?_;rw[6,DP (CF ∅ ∅)];rw[show((g.length:Nat):Int)*((h.length:Nat):Int)=((g.length*h.length:Nat):Int) by push_cast;rfl];refine DK (CB (m:=100) hM) ?_;rw[Rv,ue8];refine(Jr hl hg hh hN lg lh (g.length*h.length) 0 [(0,0)] _ _ _ _ _ _ _ R0).mono λo τ hq=>?_;rcases hq with⟨q1,q2,q3⟩|⟨q1,ps,f5,f6,f7,f8,f9,f10,f11,q2,R⟩
 .subst q1;exact⟨q3,none,q2,rfl⟩
 .subst q1 q2;have kl:=GM hg hh R.nd λp m=>Rc72.vl hg hh (R.rc p m);rw[uq2] at R⊢;rw[uc7 kl] at R⊢;rw[uc9 kl] at R;clear 5 R.all n1 n2 n3;have tl:=F0 hg hh (kv:=kv) ps;symm;rw[6,LL MP ∅];exact⟨Gr.app72 ⟨uq9 _,λ_ _=>rfl⟩,some (D3 (BE (FLk g h kv) ps)),⟨ps,_,n1,n2,n3,.refl _,rfl⟩,rfl⟩
theorem Cv:∀{xs:List D},(∀d∈xs,Bg d=true)->DF xs=true
 |[],_=>rfl
 |d::r,h=>by rw[DF,h d ug5,Cv λx m=>h x (ue3 _ m)];rfl
theorem MN:∀{ss:List Sh}{d:D},d∈shD ss->∃s∈ss,d=s.d
 |[],_,h=>by rw[shD] at h;cases h
 |s::ss,d,h=>by
   rw[shD] at h;rcases uo5.mp h with rfl|h
   .exact⟨s,ug5,rfl⟩
   .clear 5(MN h)x hx e;exact⟨x,ue3 _ hx,e⟩
theorem Ft:∀(n:Nat) (s:Sh),s.depth<=n->Bg s.d=true
 |0,s,h=>absurd s.depth_pos ∅
 |n+1,s,h=>by
   cases s with
   |nothing=>rw[Sh.d];rfl
   |number l h'=>rw[Sh.d];rfl
   |text m=>rw[Sh.d];rfl
   |list s m=>
     rw[Sh.depth] at h;rw[Sh.d];exact Cv (by simp only[uf5];exact⟨rfl,Ft n s ∅,rfl,λ_ z=>nomatch z⟩)
   |pair a b=>
     rw[Sh.depth] at h;rw[Sh.d];exact Cv (by simp only[uf5];exact⟨rfl,Ft n a ∅,Ft n b ∅,λ_ z=>nomatch z⟩)
   |choice ss=>
     rw[Sh.depth] at h;rw[Sh.d];refine Cv ?_;simp only[uf5];refine⟨rfl,Cv λd hd=>?_,λ_ z=>nomatch z⟩;clear 5(MN hd)s hs rfl;exact Ft n s (up6 (BU hs) ∅)
theorem Uf{n:Int}{x:GS}(h:GSOk n x):Bg x.d=true:=by
 cases h with
 |fin=>rfl
 |st a b c d e=>
   rw[GS.d];refine Cv ?_;simp only[uf5];refine⟨rfl,Cv λd hd=>?_,λ_ z=>nomatch z⟩;clear 5(uq6.mp hd)w hw rfl;unfold wdD;refine Cv ?_;simp only[uf5];exact⟨rfl,Ft _ w.2.1 (uq9 _),rfl,λ_ z=>nomatch z⟩
theorem Ml(h:GG g):Bg (gL g)=true:=Cv λd hd=>by
 clear 5(uq6.mp hd)x hx rfl;exact Uf (h.ok x hx).ok
theorem SR(h:GG g):eqN EQD (gL g) (gL g)=some true:=by
 show eqN (39+1) _ _=_;refine I9 λd hd=>?_;clear 5(uq6.mp hd)x hx rfl;exact Wh (h.ok x hx).ok (by decide)
def Sv(f:Fn):Prop:=∀(g:List GS) (d:D) (S:List Ob),GG g->GL7 S d g->Wf f [d] S λr S'=>r=gL g/\S'=S
theorem KA{gd:Gd}{S:List Ob}(hg:Gon gd S):∀(xs:List GS) (z:Option Sl),(∀x∈xs,∃n,GSOk n x)->L2.W (compG gd (Aj 0) BL (fIf (Ai (Ac (fB (Aa (Ab 0) Ad) AD) (bM 1) gtA)) (As (Aa (Ac (Ab 0) (bM 0) ixD) (Aa (Al (fBF (Aa (Ac (Ab 0) (bM 1) ixD) Ad) Gy)) Ad))) (Ab 0)) (xs.map GS.d)) ⟨[z],S⟩ λds t'=>ds=xs.map GS.d/\t'.S=S
 |[],z,_=>JX hg ⟨rfl,rfl⟩
 |x::xs,z,h=>by
   clear 5(h x ug5)n ok;have ih:∀z,_:=λz=>KA hg xs z λy m=>h y (ue3 _ m);rw[uo6];refine IT hg ?_;refine CH (Ju ?_);rw[eB rfl]
   cases ok with
   |fin=>
     rw[GS.d];symm;exact(ih _).mono λds t' ⟨e1,e2⟩=>⟨by rw[e1],e2⟩
   |st a b c d e=>
     rw[GS.d];symm;exact(ih _).mono λds t' ⟨e1,e2⟩=>⟨by rw[e1],e2⟩
theorem Qk:Sv (fnOf 1 1 Dq):=by
 intro g d S hg hd;have hL:LIM=100000:=rfl;have hl:=hg.l2;have row:∀{gd:Gd},Gon gd S->_:=λ{gd} h=>KA h g none λx m=>⟨_,(hg.ok x m).ok⟩;rw[9,Dq];refine Sa (IL (Bp rfl ?_));rcases hd with rfl|⟨k,rfl,h2⟩
 .refine VL ?_;refine(row (gd:=none) Nr).mono ?_;rintro ds t' ⟨rfl,hS⟩;exact AM (by rw[um6];lia) ⟨rfl,hS⟩
 .refine Hd h2 ?_;refine(row (gd:=some (k,g.map GS.d)) λi ds e=>by cases e;exact h2).mono ?_;rintro ds t' ⟨rfl,hS⟩;exact AM (by rw[um6];lia) ⟨rfl,hS⟩
theorem Q1(nd:(kys kv).Nodup){p:Str×Str}(h:p∈kv):nmO kv p.1=some p.2:=by
 unfold nmO
 cases e:kv.find? λq=>decide (q.1=p.1) with
 |none=>exact absurd (uo3 rfl) (List.find?_eq_none.mp e p h)
 |some q=>
   have m:=bZ e;have k0:decide (q.1=p.1)=true:=List.find?_some (p:=λq:Str×Str=>decide (q.1=p.1)) e;have k:=uj3 k0;clear 5(ue7.mp h)i hi rfl;clear 5(ue7.mp m)j hj rfl;have:j=i:=(uj4 (h₀:=by rw[um6];exact hj) (h₁:=by rw[um6];exact hi) nd).mp (by rw[ul4,ul4];exact k);subst this;rfl
theorem HZ{d:D}(h1:Bg d=true)(h2:BQ S d=d)(h3:eqN EQD d d=some true):alike1 S d d=true:=by
 unfold alike1;rw[h2,h1,h3];rfl
theorem P2{M:Nat}{dg dh:D}{t:T}(hg:GG g)(hh:GG h)(nd:(kys kv).Nodup)(lg:GL7 t.S dg g)(lh:GL7 t.S dh h)(hM:t.S[M]?=some (.dct (nmD kv)))(hN:t.S[N]?=some (.dct (nmD kv)))(p:P (.bl false) t):L2.W (eqX false (.lst [gL g,gL h,.obj M]) (.lst [dg,dh,.obj N])) t P:=by
 have one:∀{g:List GS}{d:D},GG g->GL7 t.S d g->alikeX t.S (gL g) d=true:=λ{g d} hg l=>by
  have:alikeX t.S (gL g) d=alike1 t.S (gL g) d:=by unfold alikeX;rfl
  rw[this];rcases l with rfl|⟨k,rfl,h2⟩
  .exact HZ (Ml hg) rfl (SR hg)
  .unfold alike1;have e2:BQ t.S (.obj k)=gL g:=by simp only[BQ,h2]
   rw[e2,show BQ t.S (gL g)=gL g from rfl,Ml hg,SR hg];rfl
 have two:alikeX t.S (.obj M) (.obj N)=true:=by
  unfold alikeX;simp only[hM,hN,ul8,up2];refine uk3.mpr λq hq=>?_;unfold nmD at hq;clear 5(uq6.mp hq)r hr rfl;dsimp only;rw[G7,Q1 nd hr];exact HZ rfl rfl (by show some (r.2==r.2)=_;rw[ul8])
 have hz:(List.zip [gL g,gL h,.obj M] [dg,dh,.obj N]).all (λq=>alikeX t.S q.1 q.2)=true:=by
  simp only[List.zip_cons_cons,List.zip_nil_left,uo7,List.all_nil,one hg lg,one hh lh,two,Bool.and_self]
 refine⟨_,_,?_,p⟩;unfold eqX;dsimp only;rw[eB ⟨rfl,hz⟩]
theorem LA(R9:List (List Int)):Bg (.lst (R9.map AU))=true:=GJ R9
theorem MQ(R9:List (List Int)):eqN EQD (.lst (R9.map AU)) (.lst (R9.map AU))=some true:=by
 show eqN (39+1) _ _=_;refine I9 λd hd=>?_;obtain⟨r,_,rfl⟩:=uq6.mp hd;show eqN (38+1) _ _=_;refine Ce λd hd=>?_;obtain⟨i,_,rfl⟩:=uq6.mp hd;exact Fd
theorem VJ{d:D}{m:String}{t:T}(e:QM d=false)(h:L2.W (CP [d,.ty m]) t P):L2.W (Hy [d,.ty m]) t P:=by
 cases d<;>first|exact h|cases e
theorem PR(hg:GG g)(hh:GG h){kv:List (Str×Str)}{R9:List (List Int)}(T1:IS (FLk g h kv) (nxF g h) (some R9)):(∀r∈R9,r.length=4)/\R9.length<=900:=by
 clear 5 T1 P X nd m n pm rfl;have hM:g.length*h.length<=100:=up6 (uo2 hg.l2 hh.l2) (by decide);have pl:=GM hg hh nd λp hp=>Rc72.vl hg hh ((m p).mp hp);have tl:=F0 hg hh (kv:=kv) P;have pm2:=(ET X).trans pm;refine⟨λr hr=>?_,by rw[pm2.length_eq];lia⟩;have:=pm2.mem_iff.mp hr;unfold BE at this;obtain⟨p,_,h2⟩:=ul2.mp this;obtain⟨x,_,rfl⟩:=uq6.mp h2;rfl
theorem MC{A:Nat}{ds0:List D}{S:List Ob}(hA:S[A]?=some (.lst ds0)){a0 a1 a2 a3 a4 a5:Option Sl}:∀(l:List (List Int)) (e6:Option Sl),(∀r∈l,r.length<=90000)->
 L2.W (forG (some (A,ds0)) (Aj 6) (ifS (fOr (Cn (Ai (fB (Aa (Ab 6) (Aa (fC (.ty "tuple")) Ad)) CP))) (Ai (Ac (Al (AN 1 [] (BH (Ab 6)) (Aj 0) (fOr (Cn (Ai (fB (Aa (Ab 0) (Aa (fC (.ty "int")) Ad)) CP))) (Ai (fB (Aa (Ab 0) (Aa (fC (.ty "bool")) Ad)) CP))) (Ab 0))) (Al (Av Ad)) (eqS λb=>!b)))) (Aq (fC (.bl false))) An) (l.map AU)) ⟨[a0,a1,a2,a3,a4,a5,e6],S⟩ λo t=>o=.next/\∃f6,t=⟨[a0,a1,a2,a3,a4,a5,f6],S⟩
 |[],e6,_=>En (λk ds e=>by cases e;exact hA) ⟨rfl,_,rfl⟩
 |r::l,e6,hl=>by
   have hL:LIM=100000:=rfl;rw[uo6];refine Dd (λk ds e=>by cases e;exact hA) ?_;symm;refine(Jx (l:=r) (ι:=D.int) (p:=λ_=>false) (fr:=[]) λi _=>?_).mono ?_
   .symm;exact⟨rfl,rfl⟩
   rintro xs t' ⟨rfl,hS⟩;refine AM (by rw[um6];exact up6 (ud5 _ _) (by have:=hl r ug5;lia)) ?_;rw[hS,show(r.filter λ_=>false)=[] from cI.mpr λ_ _=>ug6];symm;exact⟨rfl,MC hA l _ λx m=>hl x (ue3 _ m)⟩
def IR(f:Fn):Prop:=∀(g h:List GS) (kv:List (Str×Str)) (N:Nat) (S:List Ob) (dg dh:D),GG g->GG h->KvR kv->S[N]?=some (.dct (nmD kv))->GL7 S dg g->GL7 S dh h->Wf f [dg,dh,.obj N] S λr S'=>r=.bl true/\Gr S S'
theorem Ru{cc:Fn}(hr:IQ cr)(hc:Sv cc)(ht:M7 ct):IR (fnOf 3 7 (Df cr cc ct)):=by
 intro g h kv N S dg dh hg hh hk hN lg lh;have hL:LIM=100000:=rfl;rw[9,Df];refine(ht g h kv N S dg dh hg hh hN lg lh).mono λr S1 z9=>?_;clear 5 z9 g1 o T1 q1;subst q1;symm;refine(hc g dg S1 hg (lg.gr g1)).mono λr S' z9=>?_;clear 5 z9 q1 q2;subst q1 q2;symm;refine(hc h dh S' hh (lh.gr g1)).mono λr S'' z9=>?_;clear 5 z9 q1 q2;subst q1 q2;symm;rw[6,X1 (g1.get hN)];have hM:(S''++[Ob.dct (nmD kv)])[S''.length]?=some (.dct (nmD kv)):=A4;have g2:Gr S (S''++[Ob.dct (nmD kv)]):=g1.app72;dsimp only;generalize S''.length=M at hM⊢;generalize S''++[Ob.dct (nmD kv)]=S2 at hM g2⊢;refine(hr g h kv M S2 hg hh hM).mono λr S3 z9=>?_;clear 5 z9 g3 o' T2 q;have eo:o'=o:=PU Nm Nn T2 T1;subst eo;have g13:Gr S S3:=g2.trans g3;have hM3:=g3.get hM;have hN3:=g13.get hN
 cases o' with
 |none=>
   have q:r=.non:=q;subst q;unfold tbD;symm;rw[6,Sd (d:=.non) rfl rfl rfl rfl];rw[6,VJ rfl];rw[6,P2 hg hh hk.1 (lg.gr g13) (lh.gr g13) hM3 hN3];exact⟨rfl,g13⟩
 |some R9=>
   clear 5 q A q1 a0 hA;subst q1;unfold tbD;symm;have eA:DH S3 (.obj A)=.lst (R9.map AU):=by simp only[DH,BQ,hA]
   rw[6,Sd (d:=.lst (R9.map AU)) eA rfl (LA R9) (MQ R9)];rw[6,Y2 hA];rw[6,P2 hg hh hk.1 (lg.gr g13) (lh.gr g13) hM3 hN3];clear 5(PR hg hh T1)r4 r900;refine HR (IL (Bp rfl (Hd hA ?_)));refine(MC hA R9 none (λr m=>by rw[r4 r m];decide)).mono λo t z9=>?_;clear 5 z9 q1 f6 q2;subst q1 q2;symm;refine Tr (Bp rfl ⟨rfl,_,hA,?_⟩);symm;refine⟨_,R9.map AU++[D.tup [.int 0,.int 0,.int 0,.int 0]],hA,by simp only[AZ];rw[eB (by rw[um6];show _<100000;lia)],?_⟩;have g4:Gr S2 (S3.set A (.lst (R9.map AU++[D.tup [.int 0,.int 0,.int 0,.int 0]]))):=g3.set72 a0;dsimp only;generalize S3.set A (.lst (R9.map AU++[D.tup [.int 0,.int 0,.int 0,.int 0]]))=S4 at g4⊢;symm;refine(hr g h kv M S4 hg hh (g4.get hM)).mono λr S5 z9=>?_;clear 5 z9 g5 o2 T3 q;have eo2:o2=some R9:=PU Nm Nn T3 T1;subst eo2;obtain⟨A2,q1,_,hA2⟩:=q;subst q1;have eA2:DH S5 (.obj A2)=.lst (R9.map AU):=by simp only[DH,BQ,hA2]
   symm;refine Sd (d:=.lst (R9.map AU)) eA2 rfl (LA R9) (MQ R9) ?_;exact⟨rfl,g2.trans (g4.trans g5)⟩
theorem Io:GG [GS.fin]:=⟨by decide,by decide,λx hx=>by rw[ug9] at hx;subst hx;exact⟨.fin,λ_ h=>nomatch h⟩⟩
theorem Uw(h:x∈nm14):x≠Str.ofString "":=(GC x (ue4 _ (Q3 h))).1
theorem GZ7.gg(h:GZ7 many g)(m0:1<=many)(m1:many<=10):GG g:=⟨by rw[h.len];exact m0,by rw[h.len];exact m1,λx hx=>by
 rw[h.len];exact⟨(h.ok x hx).ok,λw hw=>Uw ((h.ok x hx).nm w hw)⟩⟩
theorem U0:(puN kv x y).length<=kv.length+1:=by
 unfold puN
 split
 .rw[um6];lia
 .rw[ug7,ud3];lia
theorem Lp{Dn:Nat}{a0 a1 a2 a3 a4 a6 a7 a11:Option Sl}:∀(l:List Wd7) (kv:List (Str×Str)) (S:List Ob) (e8 e9 e10:Option Sl),(kys kv).Nodup->kv.length+l.length<=5000->S[Dn]?=some (.dct (nmD kv))->
 L2.W (A1 (unS 3 (Ak (Aj 8) (Ak (Aj 9) (Ak (Aj 10) AJ)))) (Cc (Ab 8) (Dv (Ab 5) (Ab 8))) (l.map wdD)) ⟨[a0,a1,a2,a3,a4,vw (.obj Dn),a6,a7,e8,e9,e10,a11],S⟩ λo t=>o=.next/\∃kv' f8 f9 f10,(kys kv').Nodup/\kv'.length<=kv.length+l.length/\t=⟨[a0,a1,a2,a3,a4,vw (.obj Dn),a6,a7,f8,f9,f10,a11],S.set Dn (.dct (nmD kv'))⟩
 |[],kv,S,e8,e9,e10,nd,_,hD=>W_forL_nil.mpr ⟨rfl,kv,_,_,_,nd,uq9 _,by rw[DI hD]⟩
 |w::l,kv,S,e8,e9,e10,nd,hl,hD=>by
   rw[uj8] at hl;rw[uo6,W_forL_cons];unfold wdD;symm;refine EJ hD (by rw[Jg];show _<100000;lia) ?_;rw[Jh];have pl:=U0 (kv:=kv) (x:=w.1) (y:=w.1);refine(Lp l (puN kv w.1 w.1) (S.set Dn (.dct (nmD (puN kv w.1 w.1)))) _ _ _ (Pq nd) ∅ (Bx hD)).mono λo t z9=>?_;clear 5 z9 q1 kv' f8 f9 f10 q2 q3 q4;refine⟨q1,kv',f8,f9,f10,q2,by rw[uj8];lia,?_⟩;rw[q4,uq8]
def smB:M Out:=
 (Ba (BH (Ac (fSl (fSl (Ab 6) (Bc (bM 1)) fNo BK) fNo (Bc (bM 1)) BK) (fB (Aa (Ac (fB (Aa (Ab 6) Ad) AD) (bM 1) gtA) Ad) DX) Ct)) (Aj 7)
 (Ba (BH (Ab 7)) (unS 3 (Ak (Aj 8) (Ak (Aj 9) (Ak (Aj 10) AJ))))
 (Cc (Ab 8) (Dv (Ab 5) (Ab 8)))))
theorem GK{A Dn:Nat}{ds0:List D}{a0 a1 a2 a3 a4 a11:Option Sl}:∀(l:List GS) (kv:List (Str×Str)) (S:List Ob) (e6 e7 e8 e9 e10:Option Sl),(∀x∈l,x.ws.length<=9)->(kys kv).Nodup->kv.length+9*l.length<=5000->S[Dn]?=some (.dct (nmD kv))->S[A]?=some (.lst ds0)->
 L2.W (forG (some (A,ds0)) (Aj 6) smB (l.map GS.d)) ⟨[a0,a1,a2,a3,a4,vw (.obj Dn),e6,e7,e8,e9,e10,a11],S⟩ λo t=>o=.next/\XN6 λkv' f6 f7 f8 f9 f10=>AN3 ((kys kv').Nodup) (kv'.length<=kv.length+9*l.length) (t=⟨[a0,a1,a2,a3,a4,vw (.obj Dn),f6,f7,f8,f9,f10,a11],S.set Dn (.dct (nmD kv'))⟩)
 |[],kv,S,e6,e7,e8,e9,e10,_,nd,_,hD,hA=>En (λk ds e=>by cases e;exact hA) ⟨rfl,kv,_,_,_,_,_,nd,uq9 _,by rw[DI hD]⟩
 |x::l,kv,S,e6,e7,e8,e9,e10,hx,nd,hl,hD,hA=>by
   rw[uj8] at hl;have hAD:A≠Dn:=AH hA hD (by simp);rw[uo6];refine Dd (λk ds e=>by cases e;exact hA) ?_;refine CH ?_;unfold smB
   cases x with
   |fin=>
     rw[GS.d];symm;rw[6,Tq ⟨by decide,by decide⟩];refine W_forL_nil.mpr ?_;refine⟨rfl,?_⟩;exact(GK l kv S _ _ _ _ _ (λy m=>hx y (ue3 _ m)) nd ∅ hD hA).mono λo t ⟨q1,kv',f6,f7,f8,f9,f10,q2,q3,q4⟩=>⟨q1,kv',f6,f7,f8,f9,f10,q2,by rw[uj8];lia,q4⟩
   |st s ws=>
     have w9:ws.length<=9:=hx _ ug5;rw[GS.d];symm;rw[Qo,Qn,show(if decide ((1:Int)<(([D.str s,D.lst (ws.map wdD)]:List D).length:Nat))=true then(1:Int) else 0)=1 from rfl];rw[6,Tq ⟨by decide,ud6 rfl⟩];refine W_forL_cons.mpr ?_;rw[6,CH];refine(Lp ws kv S _ _ _ nd ∅ hD).mono λo t z9=>?_;clear 5 z9 q1 kv1 f8 f9 f10 q2 q3 q4;subst q1 q4;refine W_forL_nil.mpr ?_;refine⟨rfl,?_⟩;exact(GK l kv1 (S.set Dn (.dct (nmD kv1))) _ _ _ _ _ (λy m=>hx y (ue3 _ m)) q2 ∅ (Bx hD) (by rw[ue5 (Ne.symm hAD)];exact hA)).mono λo t ⟨q1,kv',f6,f7,f8,f9,f10,q2,q3,q4⟩=>⟨q1,kv',f6,f7,f8,f9,f10,q2,by rw[uj8];lia,by rw[q4,uq8]⟩
theorem Yx{cg cst:Fn}(hr:IR cr)(hd:Bt cd)(hg:Qa cg)(hst:DQ cst)(hp:Sy cp)(ns:List Int)(hns:ns.length<=63):Wf (fnOf 1 12 (Gz cr cd cg cst cp)) [.scr ns] [] λr _=>r=.bl true:=by
 have k0:KvR []:=⟨un9,by decide⟩;rw[9,Gz];refine(hp ns [] hns).mono λq S1 z9=>?_;obtain⟨g,h,kv,A,B,N,q1,gg,gh,hk,hA,hB,hN,_⟩:=z9;subst q1;symm;refine(hr g h kv N S1 (.obj A) (.obj B) gg gh hk hN (.inr ⟨A,rfl,hA⟩) (.inr ⟨B,rfl,hB⟩)).mono λq S2 z9=>?_;clear 5 z9 q1 r1;subst q1;have hA2:=r1.get hA;have hB2:=r1.get hB;have hN2:=r1.get hN;clear hA hB hN r1;symm;refine(hr [.fin] [.fin] [] S2.length (S2++[.dct []]) (.lst [.tup [.str "end"]]) (.lst [.tup [.str "end"]]) Io Io k0 A4 (.inl rfl) (.inl rfl)).mono λq S3 z9=>?_;clear 5 z9 q1 r2;subst q1;have hA3:=r2.get (AF hA2);have hB3:=r2.get (AF hB2);have hN3:=r2.get (AF hN2);clear hA2 hB2 hN2 r2;symm;clear 5(hst ns 1 hns ∅)s b d0;refine(d0 S3).mono λq S4 z9=>?_;clear 5 z9 q1 q2;subst q1 q2;symm;have hT4:(S3++[Ob.dct s.l]++[Ob.dct []])[S3.length]?=some (.dct s.l):=AF A4;have hA4:(S3++[Ob.dct s.l]++[Ob.dct []])[A]?=some (.lst (g.map GS.d)):=AF (AF hA3);have hB4:(S3++[Ob.dct s.l]++[Ob.dct []])[B]?=some (.lst (h.map GS.d)):=AF (AF hB3);have hN4:(S3++[Ob.dct s.l]++[Ob.dct []])[N]?=some (.dct (nmD kv)):=AF (AF hN3);have hD4:(S3++[Ob.dct s.l]++[Ob.dct []])[(S3++[Ob.dct s.l]).length]?=some (.dct (nmD [])):=A4;have dT:S3.length≠(S3++[Ob.dct s.l]).length:=by rw[ug7,ud3];lia
 have tN:S3.length≠N:=Ne.symm (up5 (AS hN3));have dN:N≠(S3++[Ob.dct s.l]).length:=by have:=AS hN3;rw[ug7,ud3];lia
 generalize S3.length=T9 at hT4 dT tN⊢;generalize (S3++[Ob.dct s.l]).length=Dn at hD4 dT dN⊢;generalize S3++[Ob.dct s.l]++[Ob.dct []]=S4 at hT4 hA4 hB4 hN4 hD4⊢;clear hA3 hB3 hN3;refine HR (IL (Bp rfl (Hd hA4 ?_)));have gl2:=gg.l2;refine(GK g [] S4 none none none none none (λx m=>by
  obtain⟨ok,_⟩:=gg.ok x m
  cases ok with
  |fin=>exact ur0 _
  |st _ _ c _ _=>exact c) un9 (by rw[un0];lia) hD4 hA4).mono λo t ⟨q1,kv2,f6,f7,f8,f9,f10,nd2,l2,q4⟩=>?_
 subst q1 q4;rw[un0] at l2;have k2:KvR kv2:=⟨nd2,by lia⟩;have hA5:(S4.set Dn (.dct (nmD kv2)))[A]?=some (.lst (g.map GS.d)):=by rw[ue5 (AH hD4 hA4 (by simp))];exact hA4
 have hB5:(S4.set Dn (.dct (nmD kv2)))[B]?=some (.lst (h.map GS.d)):=by rw[ue5 (AH hD4 hB4 (by simp))];exact hB4
 have hN5:(S4.set Dn (.dct (nmD kv2)))[N]?=some (.dct (nmD kv)):=by rw[ue5 (Ne.symm dN)];exact hN4
 have hT5:(S4.set Dn (.dct (nmD kv2)))[T9]?=some (.dct s.l):=by rw[ue5 (Ne.symm dT)];exact hT4
 have hD5:(S4.set Dn (.dct (nmD kv2)))[Dn]?=some (.dct (nmD kv2)):=Bx hD4;generalize S4.set Dn (.dct (nmD kv2))=S5 at hA5 hB5 hN5 hT5 hD5⊢;clear hA4 hB4 hN4 hT4 hD4;symm;refine(hr g g kv2 Dn S5 (.obj A) (.obj A) gg gg k2 hD5 (.inr ⟨A,rfl,hA5⟩) (.inr ⟨A,rfl,hA5⟩)).mono λq S6 z9=>?_;clear 5 z9 q1 r6;subst q1;symm;refine(hr h g kv N S6 (.obj B) (.obj A) gh gg hk (r6.get hN5) (.inr ⟨B,rfl,r6.get hB5⟩) (.inr ⟨A,rfl,r6.get hA5⟩)).mono λq S7 z9=>?_;clear 5 z9 q1 r7;subst q1;have r57:=r6.trans r7;symm;refine(hr g h [] S7.length (S7++[.dct []]) (.obj A) (.obj B) gg gh k0 A4 (.inr ⟨A,rfl,AF (r57.get hA5)⟩) (.inr ⟨B,rfl,AF (r57.get hB5)⟩)).mono λq S8 z9=>?_;clear 5 z9 q1 r8;subst q1;have hA8:=r8.get (AF (r57.get hA5));have hB8:=r8.get (AF (r57.get hB5));have hN8:=r8.get (AF (r57.get hN5));have hT8:=r8.get (AF (r57.get hT5));clear hA5 hB5 hN5 hT5 hD5 r6 r7 r57 r8;symm;obtain⟨x,s1,x0,x1,b1,d1⟩:=hd s 5 1 ⟨b.1,by have:=b.2;lia⟩ (by decide) (by decide);clear 5(uc2 x0)x rfl;refine d1.on hT8 ?_;have hA9:(S8.set T9 (.dct s1.l))[A]?=some (.lst (g.map GS.d)):=by rw[ue5 (AH hT8 hA8 (by simp))];exact hA8
 have hB9:(S8.set T9 (.dct s1.l))[B]?=some (.lst (h.map GS.d)):=by rw[ue5 (AH hT8 hB8 (by simp))];exact hB8
 have hN9:(S8.set T9 (.dct s1.l))[N]?=some (.dct (nmD kv)):=by rw[ue5 tN];exact hN8
 generalize S8.set T9 (.dct s1.l)=S9 at hA9 hB9 hN9⊢;clear hA8 hB8 hN8 hT8;symm;rw[show(1:Int)+(x:Int)=((1+x:Nat):Int) by lia];clear 5(hg ns 14 (1+x) hns ∅ ∅ ∅)oth os ho dg;have go:GG oth:=ho.gg ∅ ∅;refine(dg S9).mono λq S10 z9=>?_;clear 5 z9 q1 q2;subst q1 q2;have r9:Gr S9 (S9++os):=Gr.app72 ⟨uq9 _,λ_ _=>rfl⟩;symm;refine(hr [.fin] h kv N (S9++os) (.lst [.tup [.str "end"]]) (.obj B) Io gh hk (r9.get hN9) (.inl rfl) (.inr ⟨B,rfl,r9.get hB9⟩)).mono λq S11 z9=>?_;clear 5 z9 q1 r10;subst q1;have r911:=r9.trans r10;symm;refine(hr g [.fin] kv N S11 (.obj A) (.lst [.tup [.str "end"]]) gg Io hk (r911.get hN9) (.inr ⟨A,rfl,r911.get hA9⟩) (.inl rfl)).mono λq S12 z9=>?_;clear 5 z9 q1 r11;subst q1;have r912:=r911.trans r11;symm;refine(hr g oth kv N S12 (.obj A) (gL oth) gg go hk (r912.get hN9) (.inr ⟨A,rfl,r912.get hA9⟩) (.inl rfl)).mono λq S13 z9=>?_;clear 5 z9 q1 r12;subst q1;have r913:=r912.trans r12;symm;refine(hr oth h kv N S13 (gL oth) (.obj B) go gh hk (r913.get hN9) (.inl rfl) (.inr ⟨B,rfl,r913.get hB9⟩)).mono λq S14 z9=>?_;clear 5 z9 q1 r13;exact q1
end LW
namespace L2
open PySem PySem.Spec PySem.W
theorem us0{n:Nat}:∀{us:List bP},us.length=n+1->∃a vs,us=a::vs/\vs.length=n
 |_::_,h=>⟨_,_,rfl,Nat.succ.inj h⟩
section
variable{us:List bP}
theorem us1(h:us.length=1):∃a,us=[a]:=by
 clear 5(us0 h)a vs rfl q;exact⟨a,by rw[ua2 q]⟩
theorem us2(h:us.length=2):∃a b,us=[a,b]:=by
 obtain⟨_,vs,rfl,q⟩:=us0 h;obtain⟨_,rfl⟩:=us1 q;exact⟨_,_,rfl⟩
theorem us3(h:us.length=3):∃a b c,us=[a,b,c]:=by
 obtain⟨_,vs,rfl,q⟩:=us0 h;obtain⟨_,_,rfl⟩:=us2 q;exact⟨_,_,_,rfl⟩
theorem us4(h:us.length=4):∃a b c d,us=[a,b,c,d]:=by
 obtain⟨_,vs,rfl,q⟩:=us0 h;obtain⟨_,_,_,rfl⟩:=us3 q;exact⟨_,_,_,_,rfl⟩
theorem us5(h:us.length=5):∃a b c d e,us=[a,b,c,d,e]:=by
 obtain⟨_,vs,rfl,q⟩:=us0 h;obtain⟨_,_,_,_,rfl⟩:=us4 q;exact⟨_,_,_,_,_,rfl⟩
theorem us6(h:us.length=6):∃a b c d e f,us=[a,b,c,d,e,f]:=by
 obtain⟨_,vs,rfl,q⟩:=us0 h;obtain⟨_,_,_,_,_,rfl⟩:=us5 q;exact⟨_,_,_,_,_,_,rfl⟩
theorem us7(h:us.length=7):∃a b c d e f g,us=[a,b,c,d,e,f,g]:=by
 obtain⟨_,vs,rfl,q⟩:=us0 h;obtain⟨_,_,_,_,_,_,rfl⟩:=us6 q;exact⟨_,_,_,_,_,_,_,rfl⟩
end
end L2
namespace K72
open PySem L2 LW
inductive Fx where
 |Ca|B5|Dj|BF|BO|Cj|Cp|Cb|BD|CT|BJ|Bo|Cq|Cu|A7|AI|Bl|BN|Bd|Bm|BA|B8|A0|BI|B4|BR|BS|Co|Bz|law_
noncomputable def top(i:Nat):Stmt:=PySem.Challenge.pw_wireparley_k72_relay_tables.main.body.getD i (.Pass ⟨0,0,0,0⟩)
noncomputable abbrev nm:Fx->Str
 |.Ca=>"state_next"
 |.B5=>"words_of"
 |.Dj=>"is_end"
 |.BF=>"width_up_to"
 |.BO=>"is_within"
 |.Cj=>"width_of"
 |.Cp=>"is_parted"
 |.Cb=>"words_said"
 |.BD=>"relay_table"
 |.CT=>"rows_of"
 |.BJ=>"places_given"
 |.Bo=>"place_of_sayer"
 |.Cq=>"is_passed"
 |.Cu=>"pair_next"
 |.A7=>"_law_state"
 |.AI=>"_law_draw"
 |.Bl=>"_law_shape"
 |.BN=>"_law_many"
 |.Bd=>"_law_grammar"
 |.Bm=>"_law_within"
 |.BA=>"_law_wider"
 |.B8=>"_law_names"
 |.A0=>"_law_other_state"
 |.BI=>"_law_further"
 |.B4=>"_law_pair"
 |.BR=>"_law_links"
 |.BS=>"_law_table"
 |.Co=>"_law_copy"
 |.Bz=>"_law_right"
 |.law_=>"law"
abbrev st:Fx->Stmt
 |.Ca=>top 1
 |.B5=>top 2
 |.Dj=>top 3
 |.BF=>top 5
 |.BO=>top 7
 |.Cj=>top 8
 |.Cp=>top 10
 |.Cb=>top 11
 |.BD=>top 13
 |.CT=>top 14
 |.BJ=>top 15
 |.Bo=>top 16
 |.Cq=>top 17
 |.Cu=>top 18
 |.A7=>top 20
 |.AI=>top 21
 |.Bl=>top 22
 |.BN=>top 24
 |.Bd=>top 25
 |.Bm=>top 26
 |.BA=>top 27
 |.B8=>top 28
 |.A0=>top 29
 |.BI=>top 30
 |.B4=>top 31
 |.BR=>top 32
 |.BS=>top 33
 |.Co=>top 34
 |.Bz=>top 35
 |.law_=>top 36
noncomputable abbrev ps:Fx->List Str
 |.Ca=>["g", "step"]
 |.B5=>["state"]
 |.Dj=>["state"]
 |.BF=>["most"]
 |.BO=>["s", "r"]
 |.Cj=>["s"]
 |.Cp=>["g", "h", "pair"]
 |.Cb=>["g", "h", "pair"]
 |.BD=>["g", "h", "names"]
 |.CT=>["g", "h", "names", "pair"]
 |.BJ=>["words", "others", "names"]
 |.Bo=>["side", "row"]
 |.Cq=>["g", "h", "side", "row"]
 |.Cu=>["g", "h", "row"]
 |.A7=>["script", "k"]
 |.AI=>["state", "many"]
 |.Bl=>["state", "deep"]
 |.BN=>["span"]
 |.Bd=>["script", "start", "many"]
 |.Bm=>["s", "r"]
 |.BA=>["state", "s"]
 |.B8=>["state"]
 |.A0=>["state", "one", "names", "turn"]
 |.BI=>["state", "g", "many"]
 |.B4=>["script"]
 |.BR=>["one", "other", "names"]
 |.BS=>["g", "h", "names"]
 |.Co=>["g"]
 |.Bz=>["g", "h", "names"]
 |.law_=>["script"]
noncomputable abbrev ns:Fx->List Str
 |.Ca=>["g", "step"]
 |.B5=>["state"]
 |.Dj=>["state"]
 |.BF=>["most"]
 |.BO=>["s", "r", "kind"]
 |.Cj=>["s"]
 |.Cp=>["g", "h", "pair"]
 |.Cb=>["g", "h", "pair"]
 |.BD=>["g", "h", "names", "table", "known", "pairs", "rows", "row", "behind"]
 |.CT=>["g", "h", "names", "pair", "side", "rows"]
 |.BJ=>["words", "others", "names", "places", "k", "given"]
 |.Bo=>["side", "row"]
 |.Cq=>["g", "h", "side", "row", "s", "r"]
 |.Cu=>["g", "h", "row"]
 |.A7=>["script", "k", "rest"]
 |.AI=>["state", "many", "found", "x"]
 |.Bl=>["state", "deep", "kind", "low", "inner"]
 |.BN=>["span", "many"]
 |.Bd=>["script", "start", "many", "names", "g", "h", "state", "side", "off", "words", "k", "then"]
 |.Bm=>["s", "r"]
 |.BA=>["state", "s", "kind", "more"]
 |.B8=>["state", "names", "by", "found", "k"]
 |.A0=>["state", "one", "names", "turn", "side", "words", "own", "told", "name", "shape", "then", "wide", "both", "other", "more", "at", "to"]
 |.BI=>["state", "g", "many", "found", "one"]
 |.B4=>["script", "state", "many", "base", "names", "way", "turn", "g", "h", "k", "own", "at"]
 |.BR=>["one", "other", "names", "links", "sayer", "hearer", "place", "word", "found", "at", "heard"]
 |.BS=>["g", "h", "names", "pairs", "table", "turn", "p", "q", "links", "k", "l", "then"]
 |.Co=>["g"]
 |.Bz=>["g", "h", "names", "due", "handed", "found", "row"]
 |.law_=>["script", "g", "h", "names", "state", "same", "g_state", "word", "name", "shape", "then", "other"]
def body(Φ:Fx->Fn):Fx->Fn
 |.Ca=>fnOf 2 2 (Ey)
 |.B5=>fnOf 1 1 (FU (Φ .Dj))
 |.Dj=>fnOf 1 1 (HA)
 |.BF=>fnOf 1 1 (D2)
 |.BO=>fnOf 2 3 (E1 (Φ .BO) (Φ .Cj))
 |.Cj=>fnOf 1 1 (FT (Φ .BF))
 |.Cp=>fnOf 3 3 (EY)
 |.Cb=>fnOf 3 3 (Ez (Φ .B5))
 |.BD=>fnOf 3 9 (D1 (Φ .Cu) (Φ .CT))
 |.CT=>fnOf 4 6 (GA (Φ .Cq) (Φ .Bo) (Φ .Cb) (Φ .B5) (Φ .BJ) (Φ .Cp))
 |.BJ=>fnOf 3 6 (DC)
 |.Bo=>fnOf 2 2 (Dg)
 |.Cq=>fnOf 4 6 (EZ (Φ .BO))
 |.Cu=>fnOf 3 3 (E3 (Φ .Ca))
 |.A7=>fnOf 2 3 (Cs)
 |.AI=>fnOf 2 4 (CK)
 |.Bl=>fnOf 2 5 (AT (Φ .AI) (Φ .Bl))
 |.BN=>fnOf 1 2 (Ew)
 |.Bd=>fnOf 3 12 (CQ (Φ .AI) (Φ .Bl) (Φ .A7))
 |.Bm=>fnOf 2 2 (C6 (Φ .Bm) (Φ .BN))
 |.BA=>fnOf 2 4 (Bf (Φ .BA) (Φ .AI) (Φ .BN))
 |.B8=>fnOf 1 5 (Cr (Φ .AI))
 |.A0=>fnOf 4 17 (Bv (Φ .AI) (Φ .Bl) (Φ .BA))
 |.BI=>fnOf 3 5 (Dr (Φ .AI))
 |.B4=>fnOf 1 12 (Ex (Φ .AI) (Φ .BI) (Φ .A0) (Φ .A7) (Φ .B8) (Φ .Bd))
 |.BR=>fnOf 3 11 (DZ (Φ .Bm))
 |.BS=>fnOf 3 12 (D0 (Φ .BR))
 |.Co=>fnOf 1 1 (Dq)
 |.Bz=>fnOf 3 7 (Df (Φ .BD) (Φ .Co) (Φ .BS))
 |.law_=>fnOf 1 12 (Gz (Φ .Bz) (Φ .AI) (Φ .Bd) (Φ .A7) (Φ .B4))
def run:Nat->Fx->Fn
 |0=>λ_ _ _=>none
 |n+1=>body (run n)
structure Md(K:bN)(mg:Str->Option bP)(A:Fx->bQ)(fd:Fx->bU):Prop where
 fn:∀x,Fun K (nm x) (nm x) (st x) (A x) (fd x)
 mgs:∀x,mg (nm x)=some (.ref (A x))
 bd:∀x,Binds K (fd x) (ps x) []
 bK:mg "all" = none
 bH:mg "bool" = none
 bG:mg "dict" = none
 bB:mg "enumerate" = none
 bJ:mg "int" = none
 bA:mg "isinstance" = none
 bI:mg "len" = none
 bF:mg "list" = none
 bL:mg "min" = none
 bE:mg "range" = none
 bC:mg "sorted" = none
 bD:mg "tuple" = none
inductive Kd where
 |pl|fr
abbrev okK(k:Kd)(P:bS)(w:bT)(K:bN)(mg:Str->Option bP)(base:Heap)(n:Nat)(fa:bQ)(fd:bU)(ps:List Str)(f:Fn):Prop:=match k with
 |.pl=>FnOk P w K mg base CX0 n fa fd ps (spF K f)
 |.fr=>FnOk P w K mg base CX0 n fa fd ps (spFF K f)
theorem Q4{k:Kd}{P:bS}{w:bT}{K:bN}{mg:Str->Option bP}{base:Heap}{n:Nat}{fa:bQ}{fd:bU}{ps:List Str}:okK k P w K mg base n fa fd ps (λ_ _=>none):=by
 cases k<;>exact⟨λvs H Q E h=>(by obtain⟨c,ds,S,_,_,r,S',e,_⟩:=h;cases e),λA' outer s H args us vs Q E _ _ _ _ h=>(by obtain⟨c,ds,S,_,_,r,S',e,_⟩:=h;cases e)⟩
noncomputable abbrev kd:Fx->Kd
 |.Ca=>.pl
 |.B5=>.pl
 |.Dj=>.pl
 |.BF=>.pl
 |.BO=>.pl
 |.Cj=>.pl
 |.Cp=>.pl
 |.Cb=>.pl
 |.BD=>.pl
 |.CT=>.pl
 |.BJ=>.pl
 |.Bo=>.pl
 |.Cq=>.pl
 |.Cu=>.pl
 |.A7=>.pl
 |.AI=>.pl
 |.Bl=>.pl
 |.BN=>.pl
 |.Bd=>.pl
 |.Bm=>.pl
 |.BA=>.pl
 |.B8=>.pl
 |.A0=>.pl
 |.BI=>.fr
 |.B4=>.pl
 |.BR=>.pl
 |.BS=>.pl
 |.Co=>.pl
 |.Bz=>.pl
 |.law_=>.pl
section
variable{P:bS}{w:bT}{K:bN}{mg:Str->Option bP}{base:Heap}{A:Fx->bQ}{fd:Fx->bU}{n:Nat}
theorem Pb{a:Kd}(k:Kd){P:bS}{w:bT}{K:bN}{mg:Str->Option bP}{base:Heap}{n:Nat}{fa:bQ}{fd:bU}{ps:List Str}{f:Fn}(h:okK a P w K mg base n fa fd ps f)(e:a=k):okK k P w K mg base n fa fd ps f:=e ▸ h
section
variable{X:Cx}{A:Fx->bQ}{fd:Fx->bU}{n k:Nat}{x:Fx}{s:Str}{e:Expr}{es:List Expr}{f:M (List D)}{p pos:Pos}{E:L2.St->XK}
theorem cP(M:Md X.K X.mg A fd)(ih:∀x,okK (kd x) X.prog X.w X.K X.mg X.base k (A x) (fd x) (ps x) (run n x))(hr:Room k X.A)(ha:PA X (e::es) (RA X.K f))(hk:kd x=.pl)(hs:nm x=s)(hg:Gl X s)(h1:Bn e=false)(h2:Bi es=true)(hd:(s==("__debug__":Str))=false):PE X (.Call (.Name s p) (e::es) [] pos) (RE X.K (Ag (run n x) f)):=by subst hs;exact Qx (Pb .pl (ih x) hk) hr hg (M.mgs x) (Fun.kp (M.fn x)) (M.bd x) ha hd h1 h2
theorem fF(M:Md X.K X.mg A fd)(ih:∀x,okK (kd x) X.prog X.w X.K X.mg X.base k (A x) (fd x) (ps x) (run n x))(hr:Room k X.A)(ha:PA X (e::es) (RA X.K f))(hk:kd x=.fr)(hs:nm x=s)(hg:Gl X s)(h1:Bn e=false)(h2:Bi es=true)(hd:(s==("__debug__":Str))=false):PE X (.Call (.Name s p) (e::es) [] pos) (RF X.K (Et (run n x) f)):=by subst hs;exact QD (Pb .fr (ih x) hk) hr hg (M.mgs x) (Fun.kp (M.fn x)) (M.bd x) ha hd h1 h2
end
seal PE PA PSs PS PT PG PGs PO PI PIf PW PPf Bh DU M4 FE M5 M6
theorem sc(x:Fx):FnScope (ns x) (ps x) (AO (st x)):=by
 cases x<;>exact⟨rfl,rfl,rfl,by decide +kernel,rfl,by decide +kernel,by decide +kernel⟩
local macro_rules | `(tactic| clear 30 $t)=>`(tactic| with_reducible refine(?_ : $t))
seal GQ
theorem step(M:Md K mg A fd)(ih:∀x,okK (kd x) P w K mg base (n) (A x) (fd x) (ps x) (run n x))(y:Fx):okK (kd y) P w K mg base (n+1) (A y) (fd y) (ps y) (run (n+1) y):=by
 have sy:=sc y;have nd:=sy.nd;have mf:=M.fn y
 cases y<;>first|(clear 30 (okK .pl ..);refine XI (g:=fnOf _ _ _) rfl (Ww rfl rfl mf sy (λcdv A' outer s H E hr=>?_)))|(clear 30 (okK .fr ..);refine U8 (g:=fnOf _ _ _) rfl (T0 rfl rfl mf sy (λcdv A' outer s H E hr=>?_)))
 all_goals repeat' first
  | (clear 30 (PE ..);first
    | (clear 30 (PE _ (.Name ..) ..);first
      |(clear 30 (PE _ _ (RE _ (Ab _)));exact(Wq _))
      |(clear 30 (PE _ (.Name _ _) (RE _ (fC (.ty _))));exact(J7 rfl M.bF Mc))
      |(clear 30 (PE _ (.Name _ _) (RE _ (fC (.ty _))));exact(J7 rfl M.bD Ko))
      |(clear 30 (PE _ (.Name _ _) (RE _ (fC (.ty _))));exact(J7 rfl M.bJ Od))
      |(clear 30 (PE _ (.Name _ _) (RE _ (fC (.ty _))));exact(J7 rfl M.bH Tz)))
    | (clear 30 (PE _ (.Constant ..) ..);first
      |(clear 30 (PE _ _ (RE _ (fC (.int _))));exact Wl)
      |(clear 30 (PE _ _ (RE _ (fC (.str _))));exact Wp)
      |(clear 30 (PE _ _ (RE _ (fC (.bl _))));exact Yj)
      |(clear 30 (PE _ _ (RE _ (fC .non)));exact Wm))
    | (clear 30 (PE _ (.Subscript ..) ..);first
      |(clear 30 (PE _ _ (RE _ (Ac _ _ ixD)));refine SL WI XQ ?_ ?_ (λ_ _=>rfl))
      |(clear 30 (PE _ _ (RE _ (fSl _ _ _ BK)));refine KF sl3 ML ?_ ?_ ?_)
      |(clear 30 (PE _ _ (RE _ (Ac _ _ Dm)));refine SL WG Pz ?_ ?_ (λ_ _=>rfl))
      |(clear 30 (PE _ _ (RF _ (Ja _ _ _)));refine QG ?_ ?_ ?_)
      |(clear 30 (PE _ _ (RE _ (fSl _ _ _ HI)));refine KF sl3 RV ?_ ?_ ?_))
    | (clear 30 (PE _ (.Call ..) ..);first
      |(clear 30 (PE _ _ (RE _ (Ag (run _ _) _)));refine @cP _ _ _ _ _ _ _ _ _ _ _ _ M ih hr ?_ (by rfl) (by rfl) (by rfl) (by rfl) (by rfl) (by decide))
      |(clear 30 (PE _ _ (RE _ (fB _ AD)));refine Ik Qj Vh rfl M.bI Oe ?_)
      |(clear 30 (PE _ _ (RE _ (fB _ DX)));refine SK Oh Vf rfl M.bJ Od ?_)
      |(clear 30 (PE _ _ (RE _ (D5 _ _)));refine Qy ?_ ?_)
      |(clear 30 (PE _ _ (RE _ (fB _ FV)));refine Ik (Oj rfl) Vk rfl M.bL Wb ?_)
      |(clear 30 (PE _ _ (RE _ (fB _ CP)));refine Ik Kt MK rfl M.bA F4 ?_)
      |(clear 30 (PE _ _ (RE _ (objM AZ _ _)));refine Ov ?_ ?_)
      |(clear 30 (PE _ _ (RE _ (fB _ Hs)));refine Ik (Og rfl) RK rfl M.bK Wa ?_)
      |(clear 30 (PE _ _ (RF _ (fBF _ EH)));refine SM Nf PD rfl M.bC JD ?_)
      |(clear 30 (PE _ _ (RE _ (fB _ HN)));refine SK J1 Vq rfl M.bD Ko ?_)
      |(clear 30 (PE _ _ (RF _ (Et (run _ _) _)));refine @fF _ _ _ _ _ _ _ _ _ _ _ _ M ih hr ?_ (by rfl) (by rfl) (by rfl) (by rfl) (by rfl) (by decide))
      |(clear 30 (PE _ _ (RE _ (fUn _ H9)));refine Ox ?_)
      |(clear 30 (PE _ _ (RE _ (KY _)));refine OA ?_)
      |(clear 30 (PE _ _ (RF _ (fBF _ Hc)));refine SM Nd PC rfl M.bC JD ?_)
      |(clear 30 (PE _ _ (RF _ (fBF _ _)));refine Nk rfl rfl M.bF rfl M.bE ?_)
      |(clear 30 (PE _ _ (RE _ (J6 _ _)));refine QB ?_ ?_)
      |(clear 30 (PE _ _ (RE _ (Dz _)));exact(Oz _ rfl M.bI Oe))
      |(clear 30 (PE _ _ (RF _ (fBF _ Gy)));refine Yl Kv Vi rfl M.bF Mc ?_)
      |(clear 30 (PE _ _ (RE _ (fB _ GV)));refine Qz rfl M.bG ?_)
      |(clear 30 (PE _ _ (RE _ (fB _ Hy)));refine Ik Kt RM rfl M.bA F4 ?_))
    | (clear 30 (PE _ (.Tuple ..) ..);first
      |(clear 30 (PE _ (.Tuple _ _ _) (RE _ (As _)));refine @OB _ _ _ _ _ ?_)
      |(clear 30 (PE _ (.Tuple _ _ _) (RE _ (As _)));refine OB ?_))
    | (clear 30 (PE _ (.List ..) ..);first
      |refine @Ws _ _ _ _ ?_)
    | (clear 30 (PE _ (.BinOp ..) ..);first
      |(clear 30 (PE _ _ (RE _ (Ac _ _ Aw)));refine EO UB RJ ?_ ?_)
      |(clear 30 (PE _ _ (RE _ (Ac _ _ Cw)));refine EO W4 Vo ?_ ?_)
      |(clear 30 (PE _ _ (RE _ (Ac _ _ CS)));refine EO W1 Vl ?_ ?_)
      |(clear 30 (PE _ _ (RE _ (Ac _ _ Ct)));refine EO UF RN ?_ ?_)
      |(clear 30 (PE _ _ (RE _ (Ac _ _ FX)));refine EO W3 Vn ?_ ?_)
      |(clear 30 (PE _ _ (RE _ (Ac _ _ D8)));refine EO UE RL ?_ ?_)
      |(clear 30 (PE _ _ (RE _ (Ac _ _ HD)));refine EO UH RQ ?_ ?_)
      |(clear 30 (PE _ _ (RE _ (Ac _ _ G1)));refine EO Q5 PB ?_ ?_)
      |(clear 30 (PE _ _ (RF _ _));refine Ym Pf RU ?_ ?_))
    | (clear 30 (PE _ (.Compare ..) ..);first
      |(clear 30 (PE _ (.Compare _ [.Eq] [_] _) (RE _ (Ac _ _ (eqS _))));refine Fe (K0 hr.units) (Ha (g:=id)) ?_ ?_ (Ch _))
      |(clear 30 (PE _ _ (RE _ (Ac _ _ leA)));refine Fe WZ Vg ?_ ?_ (Ch _))
      |(clear 30 (PE _ _ (RE _ (Ac _ _ geA)));refine Fe WX Vc ?_ ?_ (Ch _))
      |(clear 30 (PE _ _ (RE _ (Ac _ _ gtA)));refine Fe Pc MJ ?_ ?_ (Ch _))
      |(clear 30 (PE _ (.Compare _ [.NotEq] [_] _) (RE _ (Ac _ _ (eqS _))));refine Fe (K3 hr.units) (Ha (g:=λb=>!b)) ?_ ?_ (Ch _))
      |(clear 30 (PE _ _ (RE _ (Ac _ _ (eqT _))));refine Fe (K0 hr.units) (MI (g:=id)) ?_ ?_ (Ch _)))
    | (clear 30 (PE _ (.BoolOp ..) ..);first
      |(clear 30 (PE _ _ (RE _ _));refine Wo ?_)
      |(clear 30 (PE _ _ (RE _ (Cm _ _)));refine Wk ?_ ?_)
      |(clear 30 (PE _ _ (RE _ (Gn _ _)));refine Yk ?_ ?_))
    | (clear 30 (PE _ (.IfExp ..) ..);first
      |refine QC ?_ ?_ ?_)
    | (clear 30 (PE _ (.Dict ..) ..);first
      |(clear 30 (PE _ _ (RE _ (C8 [])));exact Oy)
      |(clear 30 (PE _ _ (RE _ (Gm _ _)));refine QA hr.units ?_ ?_)
      |(clear 30 (PE _ _ (RE _ (Ij _)));refine TQ ?_))
    | (clear 30 (PE _ (.ListComp ..) ..);first
      |(clear 30 (PE _ (.ListComp _ [⟨(.Name ("k":Str) _),_,_,0⟩] _ _) (RF _ (AN _ [0,1] _ _ _ _)));refine Di (Cd ["k"] [(0, "s"),(1, "r")] rfl rfl rfl rfl rfl) rfl ?_ (λ_ _ _ _ _=>?_) (λ_ _ _ _ _=>?_) (λ_ _ _ _ _=>?_))
      |(clear 30 (PE _ _ (RF _ (AN _ [4] _ _ _ _)));refine Di (Cd ["row"] [(4, "side")] rfl rfl rfl rfl rfl) rfl ?_ (λ_ _ _ _ _=>?_) (λ_ _ _ _ _=>?_) (λ_ _ _ _ _=>?_))
      |(clear 30 (PE _ _ (RF _ (AN _ [0,1,4] _ _ _ _)));refine Di (Cd ["row"] [(0, "g"),(1, "h"),(4, "side")] rfl rfl rfl rfl rfl) rfl ?_ (λ_ _ _ _ _=>?_) (λ_ _ _ _ _=>?_) (λ_ _ _ _ _=>?_))
      |(clear 30 (PE _ _ (RF _ (AN _ [4,5,1] _ _ _ _)));refine Di (Cd ["l"] [(4, "k"),(5, "given"),(1, "others")] rfl rfl rfl rfl rfl) rfl ?_ (λ_ _ _ _ _=>?_) (λ_ _ _ _ _=>?_) (λ_ _ _ _ _=>?_))
      |(clear 30 (PE _ (.ListComp _ [⟨(.Name ("k":Str) _),_,_,0⟩] _ _) (RF _ (AN _ [0,1] _ _ _ _)));refine Di (Cd ["k"] [(0, "state"),(1, "deep")] rfl rfl rfl rfl rfl) rfl ?_ (λ_ _ _ _ _=>?_) (λ_ _ _ _ _=>?_) (λ_ _ _ _ _=>?_))
      |(clear 30 (PE _ _ (RF _ (AN _ [0] _ _ _ _)));refine Di (Cd ["part"] [(0, "state")] rfl rfl rfl rfl rfl) rfl ?_ (λ_ _ _ _ _=>?_) (λ_ _ _ _ _=>?_) (λ_ _ _ _ _=>?_))
      |(clear 30 (PE _ _ (RF _ (Do _ _ _ _ _ _)));refine QF 7 (Cd ["word"] [] rfl rfl rfl rfl rfl) rfl (λ_ _ _ _ _=>?_) (λ_ _ _ _ _=>?_) (λ_ _ _ _ _=>?_))
      |(clear 30 (PE _ _ (RF _ (AN _ _ _ _ _ _)));refine Di (Cd ["name", "shape", "then"] [(2, "many"),(0, "state")] rfl rfl rfl rfl rfl) rfl ?_ (λ_ _ _ _ _=>?_) (λ_ _ _ _ _=>?_) (λ_ _ _ _ _=>?_))
      |(clear 30 (PE _ _ (RF _ (Gk _ _ _ _ _ _)));refine QE (Cd ["state"] [] rfl rfl rfl rfl rfl) rfl ?_ (λ_ _ _ _ _=>?_) (λ_ _ _ _ _=>?_) (λ_ _ _ _ _=>?_))
      |(clear 30 (PE _ _ (RF _ (AN _ [] _ _ _ _)));refine Di (Cd ["x"] [] rfl rfl rfl rfl rfl) rfl ?_ (λ_ _ _ _ _=>?_) (λ_ _ _ _ _=>?_) (λ_ _ _ _ _=>?_)))
    |(clear 30 (PE _ _ (RE _ (Al _)));refine TR ?_)
    |(clear 30 (PE _ _ (RE _ (C5 _)));refine Wn ?_))
  | (clear 30 (PA ..);first
    |refine @Qw _ _ _ _ _ ?_ ?_ rfl
    |exact Wj)
  | (clear 30 (PSs ..);first
    |refine @QK _ _ _ _ _ _ ?_ ?_
    |refine @Ub _ _ _ _ ?_
    |exact Ua)
  | (clear 30 (PS ..);first
    | (clear 30 (PS _ (.Return ..) ..);first
      |(clear 30 (PS _ _ (RSg _ (μR _) (Aq _)));refine OH ?_)
      |(clear 30 (PS _ _ (RSg _ (μF _) (Fp _)));exact(OI _)))
    | (clear 30 (PS _ (.Assign ..) ..);first
      |(clear 30 (PS _ (.Assign [.Name _ _] _ _) (RSg _ _ (Am _ _)));refine OJ nd rfl (.inl rfl) ?_)
      |(clear 30 (PS _ _ (RSg _ _ (Cc _ _)));refine Wx ?_ ?_)
      |(clear 30 (PS _ _ (RSg _ _ (CG _ _)));refine Wz nd rfl (.inl rfl) ?_)
      |(clear 30 (PS _ (.Assign [.Name _ _] _ _) (RSg _ _ (Am _ _)));refine OJ nd rfl (.inr rfl) ?_)
      |(clear 30 (PS _ _ (RSg _ _ (Am _ (Al (AN _ [3] _ _ _ _)))));refine Jb (Cd ["places"] [(3, "pair")] rfl rfl rfl rfl rfl) rfl nd rfl rfl ?_ (λ_ _ _ _ _=>?_) (λ_ _ _ _ _=>?_) (λ_ _ _ _ _=>?_))
      |(clear 30 (PS _ _ (RSg _ _ (Am _ (Al (AN _ [0] _ _ _ _)))));refine Jb (Cd ["k"] [(0, "state")] rfl rfl rfl rfl rfl) rfl nd rfl rfl ?_ (λ_ _ _ _ _=>?_) (λ_ _ _ _ _=>?_) (λ_ _ _ _ _=>?_))
      |(clear 30 (PS _ _ (RSg _ _ (Am _ (Al (AN _ [5,2] _ _ _ _)))));refine Jb (Cd ["k"] [(5, "way"),(2, "many")] rfl rfl rfl rfl rfl) rfl nd rfl rfl ?_ (λ_ _ _ _ _=>?_) (λ_ _ _ _ _=>?_) (λ_ _ _ _ _=>?_)))
    | (clear 30 (PS _ (.If ..) ..);first
      |refine Yq ?_ ?_ ?_)
    | (clear 30 (PS _ (.For ..) ..);first
      |(clear 30 (PS _ (.For _ _ _ [] _) (RSg _ _ (Ba (GZ _) _ _)));refine T7 dk rfl ?_ ?_ ?_)
      |(clear 30 (PS _ (.For _ _ _ [] _) (RSg _ _ (Ba _ _ _)));refine Wy dk rfl ?_ ?_ ?_)
      |(clear 30 (PS _ _ (RSg _ _ (FQ _ _ _)));refine T8 dk rfl ?_ ?_ ?_))
    | (clear 30 (PS _ (.Expr ..) ..);first
      |(clear 30 (PS _ _ (RSg _ _ (ownM _ AZ _)));refine No _ ?_)
      |(clear 30 (PS _ _ (RSg _ _ (D7 _)));refine Mi ?_)
      |(clear 30 (PS _ _ (RSg _ _ (ownM _ EW _)));refine Np _ ?_))
    |exact fs_pass
    | (clear 30 (PS _ (.While ..) ..);first
      |refine QJ dk ?_ ?_)
    |refine OH ?_
    |refine Mi ?_)
  | (clear 30 (PT ..);first
    | (clear 30 (PT _ (.Compare ..) ..);first
      |(clear 30 (PT _ (.Compare _ [.Eq] [_] _) (RT _ (Ai (Ac _ _ (eqS _)))));refine Da (K0 hr.units) (Ha (g:=id)) ?_ ?_ (Ch _))
      |(clear 30 (PT _ (.Compare _ [.NotEq] [_] _) (RT _ (Ai (Ac _ _ (eqS _)))));refine Da (K3 hr.units) (Ha (g:=λb=>!b)) ?_ ?_ (Ch _))
      |(clear 30 (PT _ _ (RT _ (Ai (Ac _ _ gtA))));refine Da Pc MJ ?_ ?_ (Ch _))
      |(clear 30 (PT _ _ (RT _ (Ai (Ac _ _ isC))));refine Da WY XO ?_ ?_ (Ch _))
      |(clear 30 (PT _ _ (RT _ (Ai (Ac _ _ ltA))));refine Da W0 Vj ?_ ?_ (Ch _))
      |(clear 30 (PT _ _ (RT _ (Ai (Ac _ _ (inU _)))));refine Da (Pe hr.units) (Ve (neg:=true)) ?_ ?_ (by with_unfolding_all rfl))
      |(clear 30 (PT _ _ (RT _ (Ai (Ac _ _ (inD _)))));refine Da K4 XN ?_ ?_ (by with_unfolding_all rfl))
      |(clear 30 (PT _ _ (RT _ (Ai (Ac _ _ inI))));refine Da (Pd hr.units) Vd ?_ ?_ (by with_unfolding_all rfl))
      |(clear 30 (PT _ _ (RT _ (Ai (Ac _ _ (eqT _)))));refine Da (K3 hr.units) (MI (g:=λb=>!b)) ?_ ?_ (Ch _))
      |(clear 30 (PT _ _ (RT _ (Ai (Ac _ _ (eqX _)))));refine Da (W2 hr.units) (Va (b:=false)) ?_ ?_ (Ch _)))
    | (clear 30 (PT _ (.BoolOp ..) ..);first
      |refine Yr ?_)
    | (clear 30 (PT _ (.UnaryOp ..) ..);first
      |refine WA ?_)
    |(clear 30 (PT _ _ (RT _ (Ai _)));refine WB ?_))
  | (clear 30 (PG ..);first
    | (clear 30 (PG _ (.Name ..) ..);first
      |(clear 30 (PG _ (.Name _ _) (RG _ (Aj _)));exact(Bw nd rfl (.inl rfl)))
      |(clear 30 (PG _ (.Name _ _) (RG _ (Aj _)));exact(Bw (by show List.Nodup [("name":Str),("shape":Str),("then":Str),("many":Str),("state":Str)] ;decide +kernel) rfl (.inl rfl)))
      |(clear 30 (PG _ (.Name _ _) (RG _ (Aj _)));exact(Bw (by show List.Nodup [("k":Str),("s":Str),("r":Str)] ;decide +kernel) rfl (.inl rfl)))
      |(clear 30 (PG _ (.Name _ _) (RG _ (Aj _)));exact(Bw (by show List.Nodup [("places":Str),("pair":Str)] ;decide +kernel) rfl (.inl rfl)))
      |(clear 30 (PG _ (.Name _ _) (RG _ (Aj _)));exact(Bw (by show List.Nodup [("row":Str),("side":Str)] ;decide +kernel) rfl (.inl rfl)))
      |(clear 30 (PG _ (.Name _ _) (RG _ (Aj _)));exact(Bw (by show List.Nodup [("row":Str),("g":Str),("h":Str),("side":Str)] ;decide +kernel) rfl (.inl rfl)))
      |(clear 30 (PG _ (.Name _ _) (RG _ (Aj _)));exact(Bw nd rfl (.inr rfl)))
      |(clear 30 (PG _ (.Name _ _) (RG _ (Aj _)));exact(Bw (by show List.Nodup [("l":Str),("k":Str),("given":Str),("others":Str)] ;decide +kernel) rfl (.inl rfl)))
      |(clear 30 (PG _ (.Name _ _) (RG _ (Aj _)));exact(Bw (by show List.Nodup [("k":Str),("state":Str),("deep":Str)] ;decide +kernel) rfl (.inl rfl)))
      |(clear 30 (PG _ (.Name _ _) (RG _ (Aj _)));exact(Bw (by show List.Nodup [("part":Str),("state":Str)] ;decide +kernel) rfl (.inl rfl)))
      |(clear 30 (PG _ (.Name _ _) (RG _ (Aj _)));exact(Bw (by show List.Nodup [("word":Str)] ;decide +kernel) rfl (.inl rfl)))
      |(clear 30 (PG _ (.Name _ _) (RG _ (Aj _)));exact(Bw (by show List.Nodup [("k":Str),("state":Str)] ;decide +kernel) rfl (.inl rfl)))
      |(clear 30 (PG _ (.Name _ _) (RG _ (Aj _)));exact(Bw (by show List.Nodup [("k":Str),("way":Str),("many":Str)] ;decide +kernel) rfl (.inl rfl)))
      |(clear 30 (PG _ (.Name _ _) (RG _ (Aj _)));exact(Bw (by show List.Nodup [("state":Str)] ;decide +kernel) rfl (.inl rfl)))
      |(clear 30 (PG _ (.Name _ _) (RG _ (Aj _)));exact(Bw (by show List.Nodup [("x":Str)] ;decide +kernel) rfl (.inl rfl))))
    | (clear 30 (PG _ (.Tuple ..) ..);first
      |refine Yn rfl ?_)
    | (clear 30 (PG _ (.Subscript ..) ..);first
      |(clear 30 (PG _ _ (RG _ (Dv _ _)));refine OD ?_ ?_)
      |(clear 30 (PG _ _ (RG _ (stD _ _)));refine Wt ?_ ?_)
      |(clear 30 (PG _ _ (RG _ (stU _ _)));refine TU hr.units ?_ ?_)))
  | (clear 30 (PGs ..);first
    |refine QH ?_ ?_
    |exact TV)
  | (clear 30 (PO ..);first
    |refine T5 ?_
    |exact T4)
  | (clear 30 (PI ..);first
    | (clear 30 (PI _ _ (.Call ..) ..);first
      |refine Nl rfl M.bE ?_)
    | (clear 30 (PI _ (.Tuple ..) ..);first
      |refine TX rfl M.bB ?_)
    |(clear 30 (PI _ _ _ (RI _ (BH _)));refine Wu ?_)
    |(clear 30 (PI _ _ _ (RIG _ (Hv _)));refine TW ?_))
  | (clear 30 (PIf ..);first
    |exact TY
    |(clear 30 (PIf _ [_] (RT _ _));refine TZ ?_))
  | (clear 30 (PW ..);first
    |(clear 30 (PW _ (.BoolOp .Or (_::_::_) _) (RT _ (fOr _ _)));refine Ys ?_ ?_)
    |(clear 30 (PW _ (.BoolOp .Or [_] _) (RT _ _));refine WD ?_)
    |(clear 30 (PW _ (.BoolOp .And (_::_::_) _) (RT _ (DW _ _)));refine WC ?_ ?_)
    |(clear 30 (PW _ (.BoolOp .And [_] _) (RT _ _));refine Ud ?_))
  | (clear 30 (PPf ..);first
    |refine QI ?_ ?_
    |exact T6)
theorem all_ok(M:Md K mg A fd):∀(n:Nat) (x:Fx),okK (kd x) P w K mg base (n) (A x) (fd x) (ps x) (run n x)
 |0,x=>Q4
 |n+1,x=>by
   have ih:=all_ok M n;exact step M ih x
end
abbrev fno(x:Fx)(kV dc pm:bP)(an:Option bQ)(cd ct:bP):bU:=PySem.W.fnOf (nm x) (nm x) (Fb (st x)) (CY (st x)) (AO (st x)) .none kV dc pm an cd ct
structure At(K:bN)(x:Fx)(f:bQ)(fd:bU):Prop where
 a:PySem.W.nsIn K mainGlobals (nm x)=some (some (.ref f))
 fn:Fun K (nm x) (nm x) (st x) f fd
 bd:Binds K fd (ps x) []
 eq:∃kV dc pm an cd ct,fd=fno x kV dc pm an cd ct
theorem at_mk{K:bN}{x:Fx}{f:bQ}{od an:Option bQ}{sl:Array (Option bP)}{oc kV dc pm cd ct:bP}(a:PySem.W.nsIn K mainGlobals (nm x)=some (some (.ref f)))(l:K.lookup f=some ⟨oc,od,.func (fno x kV dc pm an cd ct),sl⟩)(c:codeIn K cd (nm x)=true)(k:PySem.W.keepIn K (.ref f)=true):∃p:bQ×bU,At K x p.1 p.2:=by
 refine⟨(f,fno x kV dc pm an cd ct),a,OK (st:=st x) l c k,(OK (st:=st x) l c k).binds (ps:=ps x) λ_ _ _ _ _ _ us hl=>?_,_,_,_,_,_,_,rfl⟩
 cases x<;>first|(obtain rfl:=ua2 hl;rfl)|(obtain⟨_,rfl⟩:=us1 hl;rfl)|(obtain⟨_,_,rfl⟩:=us2 hl;rfl)|(obtain⟨_,_,_,rfl⟩:=us3 hl;rfl)|(obtain⟨_,_,_,_,rfl⟩:=us4 hl;rfl)|(obtain⟨_,_,_,_,_,rfl⟩:=us5 hl;rfl)|(obtain⟨_,_,_,_,_,_,rfl⟩:=us6 hl;rfl)|(obtain⟨_,_,_,_,_,_,_,rfl⟩:=us7 hl;rfl)
theorem fin_mk{K:bN}{h:Heap}{mg:Str->Option bP}{fa:bQ}(X:K.In h)(G:h.Ns mainGlobals mg)(hmg:mg "law" = some (.ref fa))(H:∀x:Fx,∃p:bQ×bU,At K x p.1 p.2)(bK:PySem.W.nsIn K mainGlobals "all" = some none)(bH:PySem.W.nsIn K mainGlobals "bool" = some none)(bG:PySem.W.nsIn K mainGlobals "dict" = some none)(bB:PySem.W.nsIn K mainGlobals "enumerate" = some none)(bJ:PySem.W.nsIn K mainGlobals "int" = some none)(bA:PySem.W.nsIn K mainGlobals "isinstance" = some none)(bI:PySem.W.nsIn K mainGlobals "len" = some none)(bF:PySem.W.nsIn K mainGlobals "list" = some none)(bL:PySem.W.nsIn K mainGlobals "min" = some none)(bE:PySem.W.nsIn K mainGlobals "range" = some none)(bC:PySem.W.nsIn K mainGlobals "sorted" = some none)(bD:PySem.W.nsIn K mainGlobals "tuple" = some none):∃(A:Fx->bQ) (fd:Fx->bU),Md K mg A fd/\A .law_=fa/\∀(s:bR) (u:bP),BindsTo s (fd .law_) ⟨[u],[]⟩ [("script",u)]:=by
 clear 5(Classical.axiomOfChoice H)F hF;refine⟨λx=>(F x).1,λx=>(F x).2,{fn:=λx=>(hF x).fn,mgs:=λx=>PySem.W.mg_of X G (hF x).a,bd:=λx=>(hF x).bd,bK:=uh4 X G bK,bH:=uh4 X G bH,bG:=uh4 X G bG,bB:=uh4 X G bB,bJ:=uh4 X G bJ,bA:=uh4 X G bA,bI:=uh4 X G bI,bF:=uh4 X G bF,bL:=uh4 X G bL,bE:=uh4 X G bE,bC:=uh4 X G bC,bD:=uh4 X G bD},?_,λs u=>?_⟩
 .have e:=hmg.symm.trans (PySem.W.mg_of X G (hF .law_).a)
  cases e
  rfl
 .obtain⟨_,_,_,_,_,_,e⟩:=(hF .law_).eq;show BindsTo s (F .law_).2 _ _;rw[e];exact .of_eq rfl
theorem walk{l:PySem.W.OpenLaw}{q:bS}{loose:List Str}{XP:(Str->Option bP)->Heap->Prop}{YP:bT->Heap->Prop}{d:DefRec}{K:Params->bN}(m:Nat)(hm:Room (m) callerA)(hn:l.most=some 63)(hdf:d.params.defaults=[])
 (hY:∀(w:bT) (h:Heap),YP w h->(K w.params).In h) (lt:∀ns:List Int,ns.length<=63->∃S',run m .law_ [.scr ns] []=some (.bl true,S'))
 (F:∀(w:bT) (mg:Str->Option bP) (fa:bQ) (h:Heap),(K w.params).In h->h.Ns mainGlobals mg->mg d.name=some (.ref fa)->
   ∃(A:Fx->bQ) (fd:Fx->bU),Md (K w.params) mg A fd/\A .law_=fa/\∀(s:bR) (u:bP),BindsTo s (fd .law_) ⟨[u],[]⟩ [("script",u)]) :
 PySem.W.WalkO q loose XP YP l.row.toRowW d [] (λf vs=>PySem.call f vs):=
 L2.VQ (n:=63) (k:=m) (x:="script") (CX:=λ_=>CX0) (sp:=λw=>spF (K w.params) (run m .law_)) hn (by decide) hdf hm hY
  (λw mg fa h KX G hmg=>by clear 5(F w mg fa h KX G hmg)A fd M e b;subst e;exact⟨fd .law_,b,λbase _ _=>all_ok M m .law_⟩)
  (λw H a ns hl hO hS=>by clear 5(lt ns hl)S' e;exact OY hO hS e) λ_ _ _ _ _ z=>z
theorem OS(k:Nat):IP (run (k+1) .Dj):=OR
theorem JW(k:Nat):GR (run (k+2) .B5):=Sm (OS k)
theorem VR(k:Nat):FH (run (k+1) .BF):=Sk
theorem VT(k:Nat):M8 (run (k+2) .Cj):=LZ (VR k)
theorem Mo:∀(n k:Nat),n+3<=k->EK (run k .BO) n
 |0,k,_=>λs r hd=>absurd s.depth_pos ∅
 |n+1,k,h=>by
   obtain⟨j,rfl⟩:∃j,k=j+3:=cu ∅;exact KJ (VT j) (.inr (Mo n (j+2) ∅))
theorem KQ(k:Nat):FH (run (k+1) .BN):=Uq
theorem Ms:∀(n k:Nat),n+3<=k->EK (run k .Bm) n
 |0,k,_=>λs r hd=>absurd s.depth_pos ∅
 |n+1,k,h=>by
   obtain⟨j,rfl⟩:∃j,k=j+3:=cu ∅;exact Nv (KQ (j+1)) (.inr (Ms n (j+2) ∅))
theorem Cl(k:Nat):Bt (run (k+1) .AI):=Qs Qr
theorem EU(k:Nat):DQ (run (k+1) .A7):=PM
theorem ES:∀(n k:Nat),n+2<=k->BC (run k .Bl) n
 |0,k,_=>λd s r hd=>absurd hd ∅
 |n+1,k,h=>by
   obtain⟨j,rfl⟩:∃j,k=j+2:=cu ∅;exact PJ (Cl j) (.inr (ES n (j+1) ∅))
theorem LN:∀(n k:Nat),n+3<=k->EL (run k .BA) n
 |0,k,_=>λsh s r hd=>absurd sh.depth_pos ∅
 |n+1,k,h=>by
   obtain⟨j,rfl⟩:∃j,k=j+3:=cu ∅;exact VS (Cl (j+1)) (KQ (j+1)) (.inr (LN n (j+2) ∅))
theorem OZ:GP (run 97 .BR):=QQ (Ms 3 96 (by decide))
theorem PV:M7 (run 98 .BS):=XX OZ
theorem Px:HX (run 97 .CT):=U7 (Ph (Mo 3 95 (by decide))) RD (So (JW 93)) (JW 94) Ri Pg
theorem Pu:IQ (run 98 .BD):=Rt (Xl Vz) Px
theorem Pw:IR (run 99 .Bz):=Ru Pu Qk PV
theorem law_true(ns:List Int)(h:ns.length<=63):∃S',run 100 .law_ [.scr ns] []=some (.bl true,S'):=by
 clear 5(Yx (cr:=run 99 .Bz) (cd:=run 99 .AI) (cg:=run 99 .Bd) (cst:=run 99 .A7) (cp:=run 99 .B4) Pw (Cl 98) (Mn (Cl 97) (ES 3 98 (by decide)) (EU 97)) (EU 98) (Rb (Cl 97) (Uc (Cl 96)) (UI (Cl 96) (ES 3 97 (by decide)) (LN 3 97 (by decide))) (EU 97) (O8 (Cl 96)) (Mn (Cl 96) (ES 3 97 (by decide)) (EU 96))) ns h)r S' e p;subst p;exact⟨S',e⟩
end K72
structure PySem.W.Fast:Prop where(tw10334151561954525894 tw10543172430328402960 tw10629362147254773848 tw10742924327193227396 tw10821707532832296245 tw10895522808189793731 tw10925172505828544281 tw11026822321191317747 tw11212386172888742365 tw11316806369669618052 tw11680310408902540434 tw11826182540982152572 tw11868280441697160804 tw11882933409444493238 tw11901486686558971710 tw11964534596550479905 tw1199429538056380951 tw12042111594933763975 tw12070189616517485314 tw12165092348312211952 tw12235916269861010168 tw12283260527476814443 tw12338235151338840913 tw12383137518056758960 tw12528082696724635856 tw12616947654772623851 tw12744497752664234835 tw12789287836179157042 tw12866248970652994922 tw12961341407304798674 tw12987317481942053686 tw13300990866901862719 tw13402133974133067774 tw13442959625432122029 tw13623317833310307327 tw13635853950112565325 tw13662961889118059632 tw13767525545149218525 tw13803537035870062548 tw13813030596742268231 tw13844042305059446538 tw13990855365661908071 tw14053702675257206312 tw14061650775164080744 tw14083318293170552269 tw14095137894963442262 tw14393673896381390901 tw14594103348881340337 tw14595706371717713297 tw14820769623465054926 tw15194989072024142361 tw15228114930742156650 tw153196386918296059 tw15348081674885891561 tw15361925309076610492 tw15440650848226734664 tw15556223992059601697 tw15640052254034081342 tw1564015281720300714 tw15854924044217178401 tw15905963388475651786 tw15929351168304375777 tw15975827797931624587 tw16096867696811670266 tw16102118417283843594 tw16179946586801535205 tw1627729595343683306 tw16521457351324037502 tw16587426383833031809 tw16640191656445941605 tw16755010254959022246 tw1679015708062915843 tw16837458574159316000 tw16898121106949419346 tw1693281149963221310 tw17004403167592265533 tw17017508141745493062 tw17029983361387566568 tw17046888486514017726 tw17077614195117400917 tw17213970551921963299 tw17441246848564545945 tw17514512324062038823 tw17515194466431418119 tw17523780273888120452 tw17571844182996535049 tw17602816856506508515 tw17608745770708462114 tw17609050041529508917 tw17704435667163634656 tw17721259829241814658 tw17803083576197706714 tw18021102682297405042 tw18036736907135731107 tw18040475422582234099 tw18231296876060192090 tw1950065649601779736 tw1983371459771996856 tw2082019569328002738 tw2123572104997699894 tw2201676365585107220 tw2354190657930416878 tw2401598411731234789 tw2442124969672674450 tw276218065556845003 tw30075721170480204 tw3009136110572618007 tw3017452468401328089 tw3061941704457808975 tw3127647549504318419 tw3134480231506871758 tw3155050871656387186 tw3169648177915985153 tw334607415581921228 tw3365542857098731871 tw3516163581869991968 tw3648980909089893748 tw3750501901628687855 tw3770511853647669308 tw3810187065425361770 tw3881881712077454220 tw4160785788336033789 tw4229356449175701840 tw4439021541352291760 tw4685604330545939249 tw4748220917016283262 tw4806244429544515976 tw4822822155612658595 tw4835792305532217736 tw4883645245652482264 tw5032459135700025981 tw5164919587889748235 tw5262161063984246475 tw5307269211830975448 tw5395718535888553638 tw5401904691734892781 tw5572958100114660387 tw5646656852338149112 tw569329846046946357 tw5872997247523480203 tw6173921316324365919 tw6283780952922302862 tw643489253473503589 tw6509555103221842086 tw6556460732672883837 tw6605359334524622638 tw6762749554722430756 tw6768757435608928195 tw7027899783667140083 tw7031295270278278535 tw7055196319977079449 tw706932554220949230 tw7227315661090908085 tw7232378037598784635 tw7319283883216622947 tw7378638435976621905 tw7524244300271310093 tw7560448190724858155 tw7860529441447335870 tw793438403892184158 tw8004823010204822801 tw81615997411715566 tw8169531031132698745 tw8219586724531112502 tw8282262818484561231 tw8316795614007853059 tw8355607132671761223 tw8483474002043207112 tw8520421963795216392 tw8648317511464228854 tw8655067270735227255 tw8702364470582697491 tw8787872524688602405 tw8825788719252341188 tw9207137643861623396 tw9306175306909024176 tw9411360682236402921 tw9486884636823226274 tw9490531173199430961 tw9840382130191921916 tw9857304920494315577 tw9997646050889888449:True)
open PySem PySem.W PyProof.Rows
set_option tactic.hygienic true in
set_option maxRecDepth 100000 in
set_option maxHeartbeats 0 in
theorem PySem.Challenge.cw_wireparley_k72_relay_tables_holds : PySem.Challenge.rw_wireparley_k72_relay_tables.Holds := by
 w_on;o_law;k_head;(case hw=>w_witness2)
 k_fill
 refine K72.walk (l:=PySem.Challenge.rw_wireparley_k72_relay_tables) 100 ⟨rfl,by decide,by decide⟩ rfl rfl (λw h Y=>PySem.W.kIn_of Y) K72.law_true ?F
 case F=>
  intro w mg fa h KX G hmg;refine' K72.fin_mk KX G hmg ?H ?bK ?bH ?bG ?bB ?bJ ?bA ?bI ?bF ?bL ?bE ?bC ?bD
  (case H=>intro x;cases x<;>(refine' K72.at_mk ?a ?l ?c ?k;(case a=>k_is);(case l=>k_is);(case c=>k_is);(case k=>k_is)))
  (case bK=>k_is)
  (case bH=>k_is)
  (case bG=>k_is)
  (case bB=>k_is)
  (case bJ=>k_is)
  (case bA=>k_is)
  (case bI=>k_is)
  (case bF=>k_is)
  (case bL=>k_is)
  (case bE=>k_is)
  (case bC=>k_is)
  (case bD=>k_is)
