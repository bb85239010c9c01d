import PyProof.Rows.All
import Wide.All
import OpenK.AllK
import PySem.Challenge.RW_wireparley_k68_talks_read_beside
set_option linter.all false
set_option hygiene false
set_option tactic.hygienic false
set_option compiler.extract_closed false
set_option bootstrap.genMatcherCode false
set_option genSizeOf false
noncomputable section
abbrev eo:=PySem.Value
abbrev eR:=PySem.Addr
abbrev eS:=PySem.Shared
abbrev eT:=PySem.Program
abbrev eU:=PySem.World
abbrev eV:=PySem.FuncData
def eW:=@PySem.plainObj_wpAny_Assign_Attribute
def eX:=@PySem.Calls.Name_function_global
def eY:=@PySem.wpAny_newFunctionEnv_cells
def eZ:=@PySem.wpAny_check_type_call_sub
def fb:=@PySem.codeAny_call_builtin_code
def fc:=@PySem.codeAny_handlers_suite_as
def fe:=@Option.isSome_iff_exists
def ff:=@PySem.F.slot_list_append
def fg:=@PySem.F.type_list_append
def fh:=@Nat.exists_eq_add_of_le'
def fj:=@PySem.F.slot_list_index
def fk:=@Int.le_ediv_iff_mul_le
def fq:=@Nat.le_of_succ_le_succ
def ft:=@List.drop_of_length_le
def fu:=@PySem.W.methodCall_KW
def fv:=@PySem.Obj.isFreed_of_fields
def fz:=@PySem.codeAny_handlers_test
def fA:=@Nat.le_div_iff_mul_le
def fD:=@PySem.codeAny_call_builtin
def fE:=@beq_eq_false_iff_ne
def fF:=@PySem.mem_of_lookup
def fG:=@PySem.wpAny_isSubtype_exc
def fH:=@PySem.wpAny_handleBy_cons
def fJ:=@PySem.wpAny_Call_Name_kw
def fK:=@PySem.Code.quiet_builtin
def fL:=@PySem.wpAny_truthy_bool
def fM:=@PySem.Within.cons
def fN:=@PySem.wpAny_loadPart_at
def fO:=@PySem.wpAny_execs_cons
def fP:=@PySem.wpAny_lookBehind
def fQ:=@PySem.pastItsLine_dict
def fR:=@PySem.wpAny_execs_nil
def fS:=@PySem.wpAny_passesOwn
def fT:=@PySem.PassesOwn.never
def fU:=@PySem.wpAny_loadPart
def fV:=@PySem.Heap.size_push
def fW:=@PySem.wpAny_setField
def fX:=@PySem.wpAny_standAt
def fY:=@List.map_drop
def fZ:=@Bool.true_and
def gb:=@Bool.not_true
def gd:=@PySem.codeAny_mono
def ge:=@Nat.add_comm
def gf:=@PySem.W.looks_findIn
def gh:=@Nat.add_zero
def gi:=@Nat.succ.inj
def gj:=@PySem.sizeLine_eq
def gk:=@PySem.W.looks_clsIn
def gl:=@beq_iff_eq
def gm:=@PySem.wpAny_call
def gn:=@PySem.typeIs_int
def gp:=@PySem.call_meets
def gq:=@Nat.mod_lt
def gu:=@congrArg
def gw:=@if_false
def gA:=@or_false
def gC:=@if_true
def gD:=@Iff.rfl
def gE:=@if_pos
def gG:=@if_neg
local macro_rules|`(tactic|clear 5 $t $[$a:ident]*)=>`(tactic|obtain⟨$[$a:ident],*⟩:=$t)
abbrev eh:=PySem.W.Frag
def ua0:=@List.findIdx?_eq_some_iff_getElem
def ua1:=@Array.getElem?_setIfInBounds_ne
def ua2:=@List.eq_nil_of_length_eq_zero
def ua3:=@PyProof.Rows.callWith_type1
def ua4:=@PySem.F.slot_int_bit_length
def ua5:=@Int.fdiv_eq_ediv_of_nonneg
def ua6:=@List.getElem?_append_right
def ua7:=@Array.getElem?_eq_some_iff
def ua8:=@PySem.F.excBase_ValueError
def ua9:=@List.getD_eq_getElem?_getD
def ub0:=@List.getElem?_eq_some_iff
def ub1:=@List.getElem?_append_left
def ub2:=@List.drop_eq_getElem_cons
def ub3:=@List.getElem?_eq_none_iff
def ub4:=@List.getElem?_eq_getElem
def ub5:=@Array.size_setIfInBounds
def ub6:=@List.getElem?_replicate
def ub7:=@PySem.F.plainAttrs_list
def ub8:=@Int.eq_ofNat_of_zero_le
def ub9:=@Nat.add_sub_cancel_left
def uc0:=@List.getElem?_set_self
def uc1:=@PySem.Heap.get?_push_of_some
def uc2:=@PySem.W.cellsFrom_some
def uc3:=@PySem.Heap.get?_update_other
def uc4:=@Option.map_eq_some_iff
def uc5:=@List.take_of_length_le
def uc6:=@List.mem_append_right
def uc7:=@List.length_replicate
def uc8:=@PySem.Heap.get?_update_self
def uc9:=@List.length_singleton
def ud0:=@Nat.le_of_ble_eq_true
def ud1:=@List.mem_iff_getElem?
def ud2:=@List.set_append_right
def ud3:=@List.mem_cons_of_mem
def ud4:=@List.mem_append_left
def ud5:=@List.getElem?_set_ne
def ud6:=@List.mem_of_getElem?
def ud7:=@List.forall_mem_cons
def ud8:=@List.filterMap_cons
def ud9:=@PySem.Heap.get?_push_size
def ue0:=@PySem.W.plainGet_of
def ue1:=@List.replicate_succ
def ue2:=@List.map_congr_left
def ue3:=@Nat.lt_of_lt_of_le
def ue4:=@List.mem_cons_self
def ue5:=@Bool.false_ne_true
def ue6:=@Array.find?_toList
def ue7:=@PySem.W.callWith_K
def ue8:=@List.length_append
def ue9:=@Bool.false_eq_true
def uf0:=@List.mem_singleton
def uf1:=@List.contains_cons
def uf2:=@List.length_range'
def uf3:=@Int.emod_lt_of_pos
def uf4:=@PySem.W.mg_none_of
def uf5:=@List.size_toArray
def uf6:=@PySem.W.kitx_list
def uf7:=@PySem.W.kitx_dict
def uf8:=@List.getElem?_map
def uf9:=@Int.toNat_natCast
def ug0:=@List.flatten_cons
def ug1:=@List.append_assoc
def ug2:=@Bool.eq_false_iff
def ug3:=@List.getElem?_set
def ug4:=@Option.some.injEq
def ug5:=@List.length_range
def ug6:=@decide_eq_true_eq
def ug7:=@of_decide_eq_true
def ug8:=@List.getElem_inj
def ug9:=@List.length_cons
def uh0:=@Nat.lt_succ_self
def uh1:=@List.length_take
def uh2:=@List.length_drop
def uh3:=@Bool.and_eq_true
def uh4:=@List.lookup_cons
def uh5:=@List.drop_length
def uh6:=@Nat.le_add_right
def uh7:=@List.all_eq_true
def uh8:=@Option.bind_some
def uh9:=@List.not_mem_nil
def ui0:=@List.getElem_mem
def ui1:=@Option.getD_some
def ui2:=@List.cons_append
def ui3:=@beq_self_eq_true
def ui4:=@List.mem_append
def ui5:=@Option.some.inj
def ui6:=@List.length_map
def ui7:=@PySem.W.kia_one
def ui8:=@List.append_nil
def ui9:=@List.nodup_cons
def uj0:=@List.of_mem_zip
def uj1:=@List.length_set
def uj2:=@List.foldl_cons
def uj3:=@List.nil_append
def uj4:=@List.find?_cons
def uj5:=@List.length_nil
def uj6:=@Option.map_some
def uj7:=@PySem.W.kia_tup
def uj8:=@Nat.not_lt_zero
def uj9:=@List.map_append
def uk0:=@Int.emod_nonneg
def uk1:=@decide_eq_false
def uk2:=@List.mem_range
def uk3:=@Bool.false_and
def uk4:=@List.drop_zero
def uk5:=@List.nodup_nil
def uk6:=@decide_eq_true
def uk7:=@Nat.lt_irrefl
def uk8:=@List.mem_cons
def uk9:=@List.map_cons
def ul0:=@Bool.or_false
def ul1:=@List.all_cons
def ul2:=@List.any_cons
def ul3:=@List.map_take
def ul4:=@Bool.false_or
def ul5:=@Nat.add_assoc
def ul6:=@PySem.W.mg_of
def ul7:=@PySem.wpAny_holding
def ul8:=@PySem.Heap.lt_size
def ul9:=@Nat.ne_of_lt
def um0:=@Nat.le_trans
def um1:=@Nat.le_of_lt
def um2:=@Nat.ne_of_gt
def um3:=@Nat.le_of_eq
def um4:=@List.map_nil
def um5:=@List.all_map
def um6:=@Bool.or_true
def um7:=@Nat.pow_succ
def um8:=@Nat.sub_self
def um9:=@Int.zero_add
def un0:=@List.mem_map
def un1:=@List.map_map
def un2:=@Nat.le_refl
def un3:=@Nat.zero_le
def un4:=@Nat.le_succ
def un5:=@PySem.wpAny_field
def un6:=@PySem.wpAny_bind
def un7:=@PySem.wpAny_pure
def un8:=@PySem.wpAny_mono
set_option Elab.async false
set_option maxRecDepth 100000
set_option maxHeartbeats 4000000
theorem oZ1{α:Sort u}{a:α}{b:Prop}:a=a\/b:=Or.inl rfl
theorem oZ2{α:Sort u}{a:α}{b:Prop}:b\/a=a:=Or.inr rfl
theorem oZ3{α:Sort u}{a:α}{b c:Prop}:b\/a=a\/c:=Or.inr (Or.inl rfl)
theorem oZ4{α:Sort u}{a:α}{b c:Prop}:b\/c\/a=a:=Or.inr (Or.inr rfl)
local macro_rules | `(tactic| walk_at"h") => `(tactic| first|exact oZ1|exact oZ2|exact oZ3|exact oZ4|assumption)
local macro_rules|`(∅)=>`(by lia)
theorem q0Ta(_:True:=by walk_at"h"):True:=.intro
def q0T:=@q0Ta._auto_1
theorem q1Ta(_:True:=by decide):True:=.intro
def q1T:=@q1Ta._auto_1
theorem q2Ta(_:True:=by intro _;rfl):True:=.intro
def q2T:=@q2Ta._auto_1
theorem q3Ta(_:True:=by rfl):True:=.intro
def q3T:=@q3Ta._auto_1
theorem q4Ta(_:True:=by with_unfolding_all rfl):True:=.intro
def q4T:=@q4Ta._auto_1
theorem q5Ta(_:True:=by exact List.cons_ne_nil _ _):True:=.intro
def q5T:=@q5Ta._auto_1
theorem q6Ta(_:True:=by exact ud0 rfl):True:=.intro
def q6T:=@q6Ta._auto_1
theorem q7Ta(_:True:=by first|rfl|decide):True:=.intro
def q7T:=@q7Ta._auto_1
namespace L2
inductive XB3{A0 A1 A2:Type}(P:A0->A1->A2->Prop):Prop where|mk(a0:A0)(a1:A1)(a2:A2)(h:P a0 a1 a2):XB3 P
inductive XB6{A0 A1 A2 A3 A4 A5:Type}(P:A0->A1->A2->A3->A4->A5->Prop):Prop where|mk(a0:A0)(a1:A1)(a2:A2)(a3:A3)(a4:A4)(a5:A5)(h:P a0 a1 a2 a3 a4 a5):XB6 P
inductive AB6(p0 p1 p2 p3 p4 p5:Prop):Prop where|mk:p0->p1->p2->p3->p4->p5->AB6 p0 p1 p2 p3 p4 p5
inductive AB7(p0 p1 p2 p3 p4 p5 p6:Prop):Prop where|mk:p0->p1->p2->p3->p4->p5->p6->AB7 p0 p1 p2 p3 p4 p5 p6
open PySem PySem.Spec PyProof.Rows
abbrev Key:=Sum Int Str
noncomputable def HD:Key->eo->Bool
 |.inl k,v=>Value.isInt k v
 |.inr x,v=>Value.isStrOf x v
noncomputable def bp(w:eU):Key->Int
 |.inl k=>hashInt k
 |.inr x=>hashStr w x
theorem BM:∀{k:Key}{v:eo},HD k v=true->(∃i t,k=Sum.inl i/\v=Value.int i t)\/(∃x t,k=Sum.inr x/\v=Value.str x t)
 |.inl i,v,h=>by
   clear 5(Value.isInt_shape (k:=i) (v:=v) h)t e;exact .inl ⟨i,t,rfl,e⟩
 |.inr x,v,h=>by
   clear 5(Value.isStrOf_shape (x:=x) (v:=v) h)t e;exact .inr ⟨x,t,rfl,e⟩
theorem P6(i:Int)(t:Tok):HD (.inl i) (.int i t)=true:=by simp[HD,Value.isInt]
theorem P7(x:Str)(t:Tok):HD (.inr x) (.str x t)=true:=by simp[HD,Value.isStrOf]
theorem XF(a b:Int):decide ((Sum.inl a:Key)=Sum.inl b)=(a==b):=by
 by_cases e:a=b
 .subst e;simp
 .have h:¬(Sum.inl a:Key)=Sum.inl b:=λq=>e (Sum.inl.inj q);rw[uk1 h];exact(fE.mpr e).symm
theorem XI(a b:Str):decide ((Sum.inr a:Key)=Sum.inr b)=decide (a=b):=by
 by_cases e:a=b
 .subst e;simp
 .have h:¬(Sum.inr a:Key)=Sum.inr b:=λq=>e (Sum.inr.inj q);rw[uk1 h,uk1 e]
theorem XG(a:Int)(b:Str):decide ((Sum.inl a:Key)=Sum.inr b)=false:=uk1 (λq=>nomatch q)
theorem XH(a:Str)(b:Int):decide ((Sum.inr a:Key)=Sum.inl b)=false:=uk1 (λq=>nomatch q)
def B8(prog:eT)(w:eU):PySem.KeyKind prog w Key where
 is:=HD
 hash:=bp w
 inj:=λv a b ha hb=>by
  rcases BM ha with⟨i,t,rfl,rfl⟩|⟨x,t,rfl,rfl⟩
  .rcases BM hb with⟨j,u,rfl,e⟩|⟨y,u,rfl,e⟩
   .injection e with e1 _;rw[e1]
   .exact nomatch e
  .rcases BM hb with⟨j,u,rfl,e⟩|⟨y,u,rfl,e⟩
   .exact nomatch e
   .injection e with e1 _;rw[e1]
 byValue:=λk v h=>by
  rcases BM h with⟨i,t,rfl,rfl⟩|⟨x,t,rfl,rfl⟩<;>rfl
 pyHash:=λhv h=>by
  rcases BM hv with⟨i,t,rfl,rfl⟩|⟨x,t,rfl,rfl⟩
  .exact wpAny_pyHash_int h
  .exact wpAny_pyHash_str h
 eqBool:=λhu hv h=>by
  rcases BM hu with⟨i,t,rfl,rfl⟩|⟨x,t,rfl,rfl⟩
  .rcases BM hv with⟨j,u,rfl,rfl⟩|⟨y,u,rfl,rfl⟩
   .rw[XF] at h;exact wpAny_eqBool_int h
   .rw[XG] at h;exact SeqAt.EqAt.int_str i t y u _ _ _ _ h
  .rcases BM hv with⟨j,u,rfl,rfl⟩|⟨y,u,rfl,rfl⟩
   .rw[XH] at h;exact SeqAt.EqAt.str_int x t j u _ _ _ _ h
   .rw[XI] at h;exact wpAny_eqBool_str h
 «strs»:=λk x t v h=>by
  rcases BM h with⟨i,u,rfl,e⟩|⟨y,u,rfl,e⟩
  .exact nomatch e
  .injection e with e1 _
   subst e1
   cases v<;>rfl
theorem MQ(prog:eT)(w:eU)(i:Int)(t:Tok):(B8 prog w).is (.inl i) (.int i t)=true:=P6 i t
theorem MR(prog:eT)(w:eU)(x:Str)(t:Tok):(B8 prog w).is (.inr x) (.str x t)=true:=P7 x t
inductive V where
 |non|bl (b:Bool)|int (i:Int)|str (x:Str)|byt (b:Array UInt8)|flt (b:UInt64)|ref (a:eR)|ty (n:String)
 deriving DecidableEq
noncomputable def RelV:V->eo->Prop
 |.non,u=>u=Value.none
 |.bl b,u=>u=Value.bool b
 |.int i,u=>∃t,u=Value.int i t
 |.str x,u=>∃t,u=Value.str x t
 |.byt b,u=>∃t,u=Value.bytes b t
 |.flt b,u=>∃t,u=Value.float b t
 |.ref a,u=>u=Value.ref a
 |.ty n,u=>u=Value.type n
abbrev Vals:List V->List eo->Prop:=Paired RelV
theorem Vals.length{xs:List V}{us:List eo}(r:Vals xs us):xs.length=us.length:=Paired.length r
theorem Vals.get:∀{xs:List V}{us:List eo}{i:Nat}{x:V},Vals xs us->xs[i]?=some x->∃u,us[i]?=some u/\RelV x u
 |_,_,_,_,.nil,e=>by simp at e
 |_,_,0,_,.cons r _,e=>by simp at e;subst e;exact⟨_,rfl,r⟩
 |_,_,i+1,x,.cons _ t,e=>by
   clear 5(Vals.get (i:=i) (x:=x) t (by simpa using e))u h1 h2;exact⟨u,by simpa using h1,h2⟩
theorem Vals.set{x:V}{u:eo}(r:RelV x u):∀{xs:List V}{us:List eo} (i:Nat),Vals xs us->Vals (xs.set i x) (us.set i u)
 |_,_,_,.nil=>.nil
 |_,_,0,.cons _ t=>.cons r t
 |_,_,i+1,.cons q t=>.cons q (Vals.set r i t)
theorem Vals.append{xs ys:List V}{us ws:List eo}(r:Vals xs us)(s:Vals ys ws):Vals (xs++ys) (us++ws):=by
 cases r with
 |nil=>exact s
 |cons r t=>exact .cons r (Vals.append t s)
theorem Vals.take:∀{xs:List V}{us:List eo} (n:Nat),Vals xs us->Vals (xs.take n) (us.take n)
 |_,_,0,_=>.nil
 |_,_,_+1,.nil=>.nil
 |_,_,n+1,.cons r t=>.cons r (Vals.take n t)
theorem Vals.drop:∀{xs:List V}{us:List eo} (n:Nat),Vals xs us->Vals (xs.drop n) (us.drop n)
 |_,_,0,r=>r
 |_,_,_+1,.nil=>.nil
 |_,_,n+1,.cons _ t=>Vals.drop n t
def RelO:Option V->Option eo->Prop
 |some v,some u=>RelV v u
 |none,none=>True
 |_,_=>False
def KV{κ:Type}:List (κ×V)->List (κ×eo)->Prop:=Paired λ(p:κ×V) (q:κ×eo)=>p.1=q.1/\RelV p.2 q.2
noncomputable def kV:Key->V
 |.inl i=>.int i
 |.inr x=>.str x
inductive HO where
 /-- a list -/
 |lst (xs:List V)
 /-- a tuple (never changes) -/
 |tup (xs:List V)
 /-- a dict whose keys are ints and texts;one whose keys are tuples of ints and texts (the empty one is both) -/
 |dK (kvs:List (Key×V))|dT (kvs:List (List Key×V))
 /-- a set of ints: its members,its size -/
 |set (S:Int->Bool) (n:Nat)
 /-- an instance of the class at C,its dict at dx,its attributes -/
 |ins (C dx:eR) (fs:List (Str×V))
 /-- the dict of the instance at x -/
 |own (x:eR)
 /-- the dict of an exception -/
 |xd (fs:List (Str×V))
 /-- a bound method,f of x -/
 |met (f x:eR)
 /-- a range object lo,lo+1,.. below hi -/
 |rng (lo hi:Int)
 /-- a thing that is known to the object (the script;a dict while a loop walks it): read,never written while it is so -/
 |frz (o:Obj) (u:HO)
 /-- a code object's table -/
 |tbl (ps:Array eo)
 /-- any other thing,by what is true of its one object (a def of one's own: SetO a S n:=HO.ext λh=>..) -/
 |ext (φ:Heap->Prop)
abbrev Hp:=eR->Option HO
noncomputable def upd(H:Hp)(a:eR)(o:HO):Hp:=λb=>if b=a then some o else H b
section
variable{H:Hp}{a:eR}{o:HO}
theorem Am:upd H a o a=some o:=by unfold upd;rw[gE rfl]
variable{b:eR}
theorem Ai(h:b≠a):upd H a o b=H b:=by unfold upd;rw[gG h]
theorem NX{u:HO}:upd (upd H a o) a u=upd H a u:=by
 funext b;unfold upd;split<;>rfl
theorem AA(h:H a=some o)(h':H b=none):a≠b:=by
 intro e;subst e;rw[h] at h';cases h'
section
variable(P:eT)(w:eU)
def ObjOk(H:Hp)(h:Heap)(a:eR):HO->Prop
 |.lst xs=>xs.length<=sizeLine/\∃(its:List eo) (n:Nat),Vals xs its/\h.get? a=some {cls:=.type "list",data:=.seq its.toArray n}
 |.tup xs=>xs.length<=sizeLine/\∃its:List eo,Vals xs its/\IsTup h a its.toArray
 |.dK kvs=>kvs.length<=sizeLine/\(a==sysModules)=false/\∃vs,KV kvs vs/\h.DictOf (B8 P w) a vs
 | .dT kvs=>kvs.length<=sizeLine/\(a == sysModules)=false/\∃xs:List (List Key×eR×eo),
    Paired (λ(p:List Key×V) (q:List Key×eR×eo)=>p.1=q.1/\H q.2.1=some (.tup (p.1.map kV))/\RelV p.2 q.2.2) kvs xs/\
    ∃o es ep,h.get? a=some o/\o.ExactDict/\o.data=.dict es ep/\es.toList=xs.map (entryOfKey (tupleKind (B8 P w)))/\(xs.map (·.1)).Nodup
 |.set S n=>h.SetOf (intKind P w) a S n
 | .ins C dx fs=>H dx=some (.own a)/\fs.length<=1000/\dx≠a/\h.get? a=some (PySem.W.instObj C dx)/\
    ∃mA,h.Ns1 dx mA/\(∀f,RelO (fs.lookup f) (mA f))/\PySem.Within mA (fs.map (·.1))
 |.own _=>∃o,h.get? a=some o
 |.xd fs=>∃mA,h.Ns1 a mA/\∀f,RelO (fs.lookup f) (mA f)
 |.rng lo hi=>∃t u v,h.get? a=some {cls:=.type "range",data:=.fields #[.int lo t,.int hi u,.int 1 v]}
 |.frz o u=>h.get? a=some o/\ObjOk H h a u
 |.tbl ps=>h.get? a=some {cls:=.none,data:=.fields ps}
 |.met f x=>h.get? a=some (PySem.W.methodObj (.ref f) (.ref x))
 |.ext φ=>φ h/\(∃o,h.get? a=some o)/\∀h1 h2:Heap,φ h1->(∀o,h1.get? a=some o->h2.get? a=some o)->φ h2
def HOk(H:Hp)(h:Heap):Prop:=∀a o,H a=some o->ObjOk P w H h a o
end
section
variable{P:eT}{w:eU}{H H':Hp}{h h':Heap}{a:eR}{o:HO}
theorem ObjOk.lt(x:ObjOk P w H h a o):a<h.objs.size:=by
 cases o with
 |lst xs=>obtain⟨_,_,_,_,e⟩:=x;exact ul8 e
 |tup xs=>obtain⟨_,_,_,p⟩:=x;exact p.lt
 |dK kvs=>obtain⟨_,_,_,_,o,_,_,e,_⟩:=x;exact ul8 e
 |dT kvs=>obtain⟨_,_,_,_,o,_,_,e,_⟩:=x;exact ul8 e
 |set S n=>obtain⟨o,_,_,_,e,_⟩:=x;exact ul8 e
 |ins C dx fs=>obtain⟨_,_,_,e,_⟩:=x;exact ul8 e
 |own y=>obtain⟨_,e⟩:=x;exact ul8 e
 |xd fs=>obtain⟨_,⟨_,_,_,e,_⟩,_⟩:=x;exact ul8 e
 |rng lo hi=>obtain⟨_,_,_,e⟩:=x;exact ul8 e
 |frz ob u=>obtain⟨e,_⟩:=x;exact ul8 e
 |tbl ps=>exact ul8 (show h.get? a=some _ from x)
 |met f y=>exact ul8 (show h.get? a=some _ from x)
 |ext φ=>obtain⟨_,⟨_,e⟩,_⟩:=x;exact ul8 e
theorem Paired.mapP{α β:Type}{F G:α->β->Prop}:∀{l₁:List α}{l₂:List β},Paired F l₁ l₂->(∀a b,F a b->G a b)->Paired G l₁ l₂
 |_,_,.nil,_=>.nil
 |_,_,.cons r t,f=>.cons (f _ _ r) (Paired.mapP t f)
theorem ObjOk.stay(x:ObjOk P w H h a o)(k:∀b u,(b=a\/H b=some (.own a))->h.get? b=some u->h'.get? b=some u)
 (ho:∀b,H b=some (.own a)->H' b=some (.own a)) (ht:∀b xs,H b=some (.tup xs)->H' b=some (.tup xs)):ObjOk P w H' h' a o:=by
 induction o with
 |lst xs=>clear 5 x z its n r e;exact⟨z,its,n,r,k _ _ (.inl rfl) e⟩
 |tup xs=>clear 5 x z its r ob e c;exact⟨z,its,r,ob,k _ _ (.inl rfl) e,c⟩
 |dK kvs=>clear 5 x z y vs r ob es ep e c;exact⟨z,y,vs,r,ob,es,ep,k _ _ (.inl rfl) e,c⟩
 |dT kvs=>
   clear 5 x z y xs r ob es ep e c;exact⟨z,y,xs,Paired.mapP r λp q z=>⟨z.1,ht _ _ z.2.1,z.2.2⟩,ob,es,ep,k _ _ (.inl rfl) e,c⟩
 |set S n=>clear 5 x ob es ep t e c;exact⟨ob,es,ep,t,k _ _ (.inl rfl) e,c⟩
 |ins C dx fs=>
   obtain⟨d,z,ne,e,mA,⟨od,es,ep,e2,c⟩,r⟩:=x;exact⟨ho _ d,z,ne,k _ _ (.inl rfl) e,mA,⟨od,es,ep,k _ _ (.inr d) e2,c⟩,r⟩
 |own y=>clear 5 x ob e;exact⟨ob,k _ _ (.inl rfl) e⟩
 |xd fs=>obtain⟨mA,⟨od,es,ep,e,c⟩,r⟩:=x;exact⟨mA,⟨od,es,ep,k _ _ (.inl rfl) e,c⟩,r⟩
 |rng lo hi=>clear 5 x t u v e;exact⟨t,u,v,k _ _ (.inl rfl) e⟩
 |frz ob u ih=>clear 5 x e q;exact⟨k _ _ (.inl rfl) e,ih q⟩
 |tbl ps=>
   have e:h.get? a=some {cls:=.none,data:=.fields ps}:=x;show h'.get? a=some {cls:=.none,data:=.fields ps};exact k a _ (.inl rfl) e
 |met f y=>
   have e:h.get? a=some (PySem.W.methodObj (.ref f) (.ref y)):=x;show h'.get? a=some (PySem.W.methodObj (.ref f) (.ref y));exact k a _ (.inl rfl) e
 |ext φ=>obtain⟨p,⟨o,e⟩,st⟩:=x;exact⟨st _ _ p λo q=>k _ _ (.inl rfl) q,⟨o,k _ _ (.inl rfl) e⟩,st⟩
theorem HOk.lt(x:HOk P w H h)(e:H a=some o):a<h.objs.size:=(x a o e).lt
theorem HOk.fresh(x:HOk P w H h)(e:h.objs.size<=a):H a=none:=by
 cases q:H a with
 |none=>rfl
 |some u=>exact absurd (ue3 (x.lt q) e) (uk7 _)
theorem HOk.kept(x:HOk P w H h)(k:∀b u,h.get? b=some u->h'.get? b=some u):HOk P w H h':=λa o e=>
 (x a o e).stay (λb u _ q=>k b u q) (λ_ q=>q) λ_ _ q=>q
theorem HOk.laid(x:HOk P w H h)(k:∀b u,h.get? b=some u->h'.get? b=some u)(hp:h.objs.size<=a)(new:ObjOk P w (upd H a o) h' a o):HOk P w (upd H a o) h':=λb u e=>by
 have hn:=x.fresh hp
 by_cases hb:b=a
 .subst hb;rw[Am] at e;cases e;exact new
 .rw[Ai hb] at e;exact(x b u e).stay (λc v _ q=>k c v q) (λc q=>by rw[Ai (AA q hn)];exact q) λc xs q=>by rw[Ai (AA q hn)];exact q
end
noncomputable def Rd(H:Hp)(a:eR)(u:HO):Prop:=H a=some u\/∃o,H a=some (.frz o u)
variable{P:eT}{w:eU}{h:Heap}
theorem Rd.ok{u:HO}(r:Rd H a u)(x:HOk P w H h):ObjOk P w H h a u:=by
 rcases r with r|⟨o,r⟩
 .exact x a u r
 .obtain⟨_,q⟩:=x a _ r;exact q
def Mut:Option HO->Prop
 |some (.lst _)=>True
 |some (.dK _)=>True
 |some (.dT _)=>True
 |some (.set _ _)=>True
 |some (.ins _ _ _)=>True
 |some (.ext _)=>True
 |_=>False
section
variable{P:eT}{w:eU}{H:Hp}{h h':Heap}{x e:eR}{o':HO}
theorem HOk.write(ok:HOk P w H h)(mu:Mut (H x))(he:e=x\/H e=some (.own x))(k:∀b u,b≠e->h.get? b=some u->h'.get? b=some u)(heo:∃u,h'.get? e=some u)
 (new:ObjOk P w (upd H x o') h' x o'):HOk P w (upd H x o') h':=λb u q=>by
 have nown:∀c y,H c=some (.own y)->c≠x:=λc y r z=>by subst z;rw[r] at mu;exact mu
 have ntup:∀c xs,H c=some (.tup xs)->c≠x:=λc xs r z=>by subst z;rw[r] at mu;exact mu
 by_cases hb:b=x
 .subst hb;rw[Am] at q;cases q;exact new
 .rw[Ai hb] at q
  by_cases hbe:b=e
  .have q':H b=some (.own x):=by
    rcases he with z|z
    .exact absurd (hbe.trans z) hb
    .rw[hbe];exact z
   rw[q] at q';cases q'
   clear 5 heo v hv;exact⟨v,by rw[hbe];exact hv⟩
  .refine(ok b u q).stay (λc v hc r=>k c v ?_ r) (λc r=>by rw[Ai (nown c b r)];exact r) λc xs r=>by rw[Ai (ntup c xs r)];exact r
   rcases hc with rfl|hc
   .exact hbe
   .rintro rfl;rcases he with z|z
    .exact nown c b hc z
    .rw[hc] at z;cases z;exact hb rfl
end
structure Un(fs ex:List eR)(H H':Hp)(h h':Heap):Prop where
 keep:∀b o,h.get? b=some o->H b=none->b∉fs->b∉ex->h'.get? b=some o
 slot:∀b o,h.get? b=some o->H b=none->b∈fs->b∉ex->∃sl,h'.get? b=some {o with slots:=sl}
 free:∀b o,h.get? b=some o->H b=none->b∉ex->H' b=none
 there:∀b o,h.get? b=some o->b∉ex->∃o',h'.get? b=some o'
 tups:∀b xs,H b=some (.tup xs)->H' b=some (.tup xs)
 frzs:∀b o u,H b=some (.frz o u)->H' b=some (.frz o u)
 tbls:∀b ps,H b=some (.tbl ps)->∃more,H' b=some (.tbl (ps++more))
section
variable{fs fs' ex ex':List eR}{H H1 H2:Hp}{h h1 h2 h':Heap}{a x e:eR}{o:HO}
theorem Un.any(u:Un fs ex H H1 h h1){b:eR}{ob:Obj}(q:h.get? b=some ob)(n:H b=none)(hx:b∉ex):∃sl,h1.get? b=some {ob with slots:=sl}:=by
 by_cases hb:b∈fs
 .exact u.slot b ob q n hb hx
 .exact⟨ob.slots,u.keep b ob q n hb hx⟩
theorem Un.kept(k:∀b u,h.get? b=some u->h'.get? b=some u):Un fs ex H H h h':=
 ⟨λb ob q _ _ _=>k b ob q,λb ob q _ _ _=>⟨ob.slots,k b ob q⟩,λ_ _ _ n _=>n,λb ob q _=>⟨ob,k b ob q⟩,λ_ _ q=>q,λ_ _ _ q=>q,λ_ ps q=>⟨#[],by rw[q];simp⟩⟩
theorem Un.refl:Un fs ex H H h h:=Un.kept λ_ _ q=>q
theorem Un.laid(k:∀b u,h.get? b=some u->h'.get? b=some u)(hp:h.objs.size<=a)(hn:H a=none):Un fs ex H (upd H a o) h h' where
 keep:=λb u q _ _ _=>k b u q
 slot:=λb u q _ _ _=>⟨u.slots,k b u q⟩
 free:=λb u q n _=>by rw[Ai (ul9 (ue3 (ul8 q) hp))];exact n
 there:=λb u q _=>⟨u,k b u q⟩
 tups:=λb xs q=>by rw[Ai (AA q hn)];exact q
 frzs:=λb u xs q=>by rw[Ai (AA q hn)];exact q
 tbls:=λb ps q=>⟨#[],by rw[Ai (AA q hn),q];simp⟩
theorem Un.write(mu:Mut (H x))(he:e=x\/H e=some (.own x))(k:∀b u,b≠e->h.get? b=some u->h'.get? b=some u)(heo:∃u,h'.get? e=some u):Un fs ex H (upd H x o) h h':=by
 have hx:∀b,H b=none->b≠x:=λb n z=>by subst z;rw[n] at mu;exact mu
 have hb:∀b,H b=none->b≠e:=λb n z=>by
  subst z;rcases he with r|r
  .exact hx b n r
  .rw[n] at r;cases r
 have hm:∀b u,H b=some u->¬Mut (some u)->b≠x:=λb u q nm z=>by subst z;rw[q] at mu;exact nm mu
 refine⟨λb u q n _ _=>k b u (hb b n) q,λb u q n _ _=>⟨u.slots,k b u (hb b n) q⟩,λb u q n _=>by rw[Ai (hx b n)];exact n,λb u q _=>?_,
  λb xs q=>by rw[Ai (hm b _ q λz=>z)];exact q,λb u xs q=>by rw[Ai (hm b _ q λz=>z)];exact q,λb ps q=>⟨#[],by rw[Ai (hm b _ q λz=>z),q];simp⟩⟩
 by_cases hbe:b=e
 .subst hbe;exact heo
 .exact⟨u,k b u hbe q⟩
end
noncomputable def trk(h:Heap)(H:Hp):List eR:=(List.range h.objs.size).filter λa=>(H a).isSome
def Gn(h:Heap)(H:Hp):Heap:=PySem.W.hideAll h (trk h H)
theorem PY(h:Heap)(H:Hp):(Gn h H).objs.size=h.objs.size:=PySem.W.hideAll_size _ _
theorem Se{o:Obj}(e:h.get? b=some o)(n:H b=none):(Gn h H).get? b=some o:=
 PySem.W.hideAll_get _ e λhm=>by
  have q:(H b).isSome=true:=(List.mem_filter.mp hm).2;rw[n] at q;simp at q
theorem Vp{o:Obj}(e:(Gn h H).get? b=some o):h.get? b=some o/\H b=none:=by
 have e':h.get? b=some o:=PySem.W.of_hideAll (trk h H) e;refine⟨e',?_⟩
 cases q:H b with
 |none=>rfl
 |some x=>
   have hm:b∈trk h H:=List.mem_filter.mpr ⟨uk2.mpr (ul8 e'),by simp[q]⟩;have z:(Gn h H).get? b=none:=PySem.W.hideAll_none (trk h H) hm;rw[z] at e;cases e
noncomputable def Um(g h:Heap)(L:eR):List (eR×Obj):=(List.range h.objs.size).filterMap λa=>if a=L\/(g.get? a).isSome=true then none else(h.get? a).map λo=>(a,o)
def rest(g h:Heap)(L d:eR):List (eR×Obj):=(Um g h L).filter λp=>decide (p.1≠d)
structure Mod(K:eh)(mg:Str->Option eo)(base:Heap):Prop where
 kin:K.In base
 glob:base.Ns mainGlobals mg
 blt:∃mb,base.Ns builtinsNs mb/\∀x:Str,x≠"__name__"->mb x=bootBuiltins x
 nolimit:base.NoLimit
structure Cx where
 prog:eT
 w:eU
 K:eh
 mg:Str->Option eo
 base:Heap
 A:Around
 N:List Str
 s₀:eS
 H₀:Hp
 env:Env
 outer:List Env
 stack:List Env
 ex:List eR
 fn:Str->Bool
 calm:Bool
 pn:List (eR×Obj)
 xe:eo->eS->Prop
noncomputable def frs(l:List Env):List eR:=l.filterMap (·.frame)
abbrev Cx.fs(X:Cx):List eR:=frs X.outer
def Vis(sc:Scope)(x:Str):Prop:=sc.names.lookup x=some .local\/sc.names.lookup x=some .cell\/sc.names.lookup x=some .free
def Loc(sc:Scope)(x:Str):Prop:=sc.names.lookup x=some .local\/sc.names.lookup x=some .cell
def aO(env:Env)(h:Heap)(m:Str->Option eo)(x:Str)(u:eo):Prop:=
 (env.kindOf x=some .local/\m x=some u)\/((env.kindOf x=some .cell\/env.kindOf x=some .free)/\∃c,env.cells.lookup x=some c/\h.IsCell c (some u))
structure Cx.Ok(X:Cx):Prop where
 mod:Mod X.K X.mg X.base
 kind:X.env.scope.kind=.function
 glob:X.env.globals=mainGlobals
 blt:X.env.builtins=builtinsNs
 above:X.s₀.heap.objs.size<=X.env.locals
 inj:∀x y c,X.env.cells.lookup x=some c->X.env.cells.lookup y=some c->x=y
 has:∀x,(X.env.kindOf x=some .cell\/X.env.kindOf x=some .free)->∃c,X.env.cells.lookup x=some c
 cab:∀x c,X.fn x=true->X.env.cells.lookup x=some c->X.s₀.heap.objs.size<=c
 hd:X.calm=true->X.A.handled=none
 frames:X.A.frames=some X.stack
 stk:X.stack=X.outer\/(X.stack=X.env::X.outer/\X.env.frame=some X.env.locals)
 exf:∀b∈X.ex,b≠X.env.locals/\∀x c,X.env.cells.lookup x=some c->c≠b
 bs:∀b o,X.base.get? b=some o->X.s₀.heap.get? b=some o/\X.H₀ b=none
 bsz:X.base.objs.size<=X.s₀.heap.objs.size
 noex:∀b o,X.base.get? b=some o->b∉X.ex
 exfs:∀b∈X.ex,b∉X.fs
 funs:X.s₀.heap.FunFrames X.base X.outer
 frf:∀b∈X.fs,X.H₀ b=none
structure Inv(X:Cx)(ei:List (eR×Obj))(σ:List (Option V))(H:Hp)(s:eS):Prop where
 ok:X.Ok
 os:s.os=X.s₀.os
 bare:AllBare s.gens
 base:Un X.fs X.ex X.H₀ H X.s₀.heap s.heap
 loc:∃m,s.heap.Ns X.env.locals m/\∀(i:Nat) (x:Str) (v:V),X.N[i]?=some x->σ[i]?=some (some v)->Vis X.env.scope x->∃u,RelV v u/\aO X.env s.heap m x u
 cell:∀x c,X.env.cells.lookup x=some c->∃v,s.heap.IsCell c v
 free:H X.env.locals=none
 freeC:∀x c,X.env.cells.lookup x=some c->H c=none
 pin:∀p∈X.pn++ei,s.heap.get? p.1=some p.2/\H p.1=none/\p.1≠X.env.locals/\p.1∉X.fs/\∀v,p.2.data≠.cell v
 hok:HOk X.prog X.w H s.heap
 len:σ.length=X.N.length
variable{t' i:Nat}{E:eo->eS->Prop}{x:Str}{v:V}{u:eo}{Q:Unit->eS->Prop}
section
variable{X:Cx}{ei:List (eR×Obj)}{σ:List (Option V)}{H H':Hp}{s:eS}{h':Heap}
theorem Cx.Ok.nofr(ok:X.Ok){b:eR}{o:Obj}(e:X.base.get? b=some o):b∉X.fs:=λhb=>by
 have:=(ok.funs.mem hb).1;rw[e] at this;cases this
theorem Inv.bs(I:Inv X ei σ H s):∀b o,X.base.get? b=some o->s.heap.get? b=some o/\H b=none:=λb o e=>
 ⟨I.base.keep b o (I.ok.bs b o e).1 (I.ok.bs b o e).2 (I.ok.nofr e) (I.ok.noex b o e),I.base.free b o (I.ok.bs b o e).1 (I.ok.bs b o e).2 (I.ok.noex b o e)⟩
theorem Inv.bk(I:Inv X ei σ H s):∀b o,X.base.get? b=some o->s.heap.get? b=some o:=λb o e=>(I.bs b o e).1
theorem Inv.mod(I:Inv X ei σ H s):Mod X.K X.mg X.base:=I.ok.mod
theorem Inv.kIn(I:Inv X ei σ H s):X.K.In s.heap:=I.ok.mod.kin.keeps I.bk
theorem Inv.lt(I:Inv X ei σ H s):X.env.locals<s.heap.objs.size:=let ⟨_,hn,_⟩:=I.loc;hn.lt
theorem Inv.sz(I:Inv X ei σ H s):X.s₀.heap.objs.size<=s.heap.objs.size:=um0 I.ok.above (um1 I.lt)
theorem Inv.nofs(I:Inv X ei σ H s){a:eR}(h:s.heap.objs.size<=a):a∉X.fs:=λhb=>by
 obtain⟨_,o,ho,_⟩:=I.ok.funs.mem hb;exact absurd (ue3 (ul8 ho) (um0 I.sz h)) (uk7 _)
theorem Inv.cne(I:Inv X ei σ H s):∀x c,X.env.cells.lookup x=some c->c≠X.env.locals:=λx c e z=>by
 clear 5(I.cell x c e)v o ho hd;obtain⟨m,⟨o',es,ep,ho',hd',_⟩,_⟩:=I.loc;rw[z,ho'] at ho;cases ho;rw[hd'] at hd;cases hd
theorem Inv.funs(I:Inv X ei σ H s):s.heap.FunFrames X.base X.outer:=by
 have all:∀(l:List Env),(∀b∈frs l,b∈X.fs)->X.s₀.heap.FunFrames X.base l->s.heap.FunFrames X.base l:=by
  intro l
  induction l with
  |nil=>intro _ _;trivial
  |cons env r ih=>
    intro hs hl;obtain⟨hk,⟨L,o,hf,hn,ho,hd⟩,hr⟩:=hl;have hL:L∈X.fs:=hs L (by unfold frs;rw[ud8,hf];exact ue4);obtain⟨sl,e⟩:=I.base.slot L o ho (I.ok.frf L hL) hL λz=>I.ok.exfs L z hL;exact⟨hk,⟨L,_,hf,hn,e,hd⟩,ih (λb hb=>hs b (by unfold frs;rw[ud8,hf];exact ud3 _ hb)) hr⟩
 exact all X.outer (λ_ hb=>hb) I.ok.funs
theorem Inv.stack(I:Inv X ei σ H s):s.heap.FunFrames X.base X.stack:=by
 rcases I.ok.stk with e|⟨e,hf⟩
 .rw[e];exact I.funs
 .rw[e];obtain⟨m,hn,_⟩:=I.loc;refine .cons (by rw[I.ok.kind];decide) hf hn ?_ I.funs;exact Heap.get?_none_of_le (um0 I.ok.bsz I.ok.above)
theorem Inv.stkSub(I:Inv X ei σ H s):∀b∈frs X.stack,b∈X.env.locals::X.fs:=λb hb=>by
 rcases I.ok.stk with e|⟨e,hf⟩
 .rw[e] at hb;exact ud3 _ hb
 .rw[e] at hb;unfold frs at hb;rw[ud8,hf] at hb;exact hb
theorem Inv.stkFree(I:Inv X ei σ H s):∀b∈frs X.stack,H b=none:=λb hb=>by
 rcases uk8.mp (I.stkSub b hb) with e|hb
 .rw[e];exact I.free
 .obtain⟨_,o,ho,_⟩:=I.ok.funs.mem hb;exact I.base.free b o ho (I.ok.frf b hb) λz=>I.ok.exfs b z hb
theorem Inv.step{g':Array GenState}{t':Nat}{d':Drawn}{ch:List eR}(I:Inv X ei σ H s)
 (hch:∀b∈ch,(b∈X.ex\/X.s₀.heap.objs.size<=b)/\b≠X.env.locals/\(∀x c,X.env.cells.lookup x=some c->c≠b)/\∀p∈X.pn++ei,p.1≠b)
 (keep:∀b o,b≠X.env.locals->b∉X.fs->b∉ch->s.heap.get? b=some o->H b=none->h'.get? b=some o)
 (slot:∀b o,b≠X.env.locals->b∈X.fs->b∉ch->s.heap.get? b=some o->H b=none->∃sl,h'.get? b=some {o with slots:=sl}) (free:∀b o,b∉ch->s.heap.get? b=some o->H b=none->H' b=none)
 (there:∀b o,b∉ch->s.heap.get? b=some o->∃o',h'.get? b=some o')
 (tups:∀b xs,H b=some (.tup xs)->H' b=some (.tup xs)) (frzs:∀b o u,H b=some (.frz o u)->H' b=some (.frz o u)) (tbls:∀b ps,H b=some (.tbl ps)->∃more,H' b=some (.tbl (ps++more)))
 (ns:∀m,s.heap.Ns X.env.locals m->h'.Ns X.env.locals m) (hok:HOk X.prog X.w H' h') (hg:AllBare g') :
 Inv X ei σ H' {s with heap:=h',gens:=g',drawn:=d',toks:=t'}:=by
 have neL:∀b o,X.s₀.heap.get? b=some o->b≠X.env.locals:=λb o e=>ul9 (ue3 (ul8 e) I.ok.above);have neC:∀b o,X.s₀.heap.get? b=some o->b∉X.ex->b∉ch:=λb o e hx hb=>by
  rcases (hch b hb).1 with z|z
  .exact hx z
  .exact absurd (ue3 (ul8 e) z) (uk7 _)
 have cellK:∀x c,X.env.cells.lookup x=some c->∀v,s.heap.IsCell c v->h'.IsCell c v:=λx c e v z9=>by
  clear 5 z9 o ho hd;have nch:c∉ch:=λz=>(hch c z).2.2.1 x c e rfl
  by_cases hc:c∈X.fs
  .clear 5(slot c o (I.cne x c e) hc nch ho (I.freeC x c e))sl q;exact⟨_,q,hd⟩
  .exact⟨o,keep c o (I.cne x c e) hc nch ho (I.freeC x c e),hd⟩
 refine⟨I.ok,I.os,hg,⟨λb o e n hb hx=>?_,λb o e n hb hx=>?_,λb o e n hx=>?_,λb o e hx=>?_,λb xs e=>tups b xs (I.base.tups b xs e),λb o xs e=>frzs b o xs (I.base.frzs b o xs e),λb ps e=>?_⟩,?_,λx c e=>?_,?_,λx c e=>?_,λp hp=>?_,hok,I.len⟩
 .exact keep b o (neL b o e) hb (neC b o e hx) (I.base.keep b o e n hb hx) (I.base.free b o e n hx)
 .clear 5(I.base.slot b o e n hb hx)sl e1;clear 5(slot b _ (neL b o e) hb (neC b o e hx) e1 (I.base.free b o e n hx))sl' e2;exact⟨sl',e2⟩
 .clear 5(I.base.there b o e hx)o' e1;exact free b o' (neC b o e hx) e1 (I.base.free b o e n hx)
 .clear 5(I.base.there b o e hx)o' e1;exact there b o' (neC b o e hx) e1
 .clear 5(I.base.tbls b ps e)m1 e1;clear 5(tbls b _ e1)m2 e2;exact⟨m1++m2,by rw[e2,Array.append_assoc]⟩
 .clear 5 I.loc m hn hl;refine⟨m,ns m hn,λi x v e1 e2 e3=>?_⟩;clear 5(hl i x v e1 e2 e3)u r l;refine⟨u,r,?_⟩;rcases l with l|⟨k,c,e,z⟩
  .exact .inl l
  .exact .inr ⟨k,c,e,cellK x c e _ z⟩
 .clear 5(I.cell x c e)v z;exact⟨v,cellK x c e v z⟩
 .obtain⟨m,⟨o,_,_,ho,_⟩,_⟩:=I.loc;exact free _ o (λz=>(hch _ z).2.1 rfl) ho I.free
 .clear 5(I.cell x c e)v o ho hd;exact free c o (λz=>(hch c z).2.2.1 x c e rfl) ho (I.freeC x c e)
 .clear 5(I.pin p hp)e n ne nf d;have nch:p.1∉ch:=λz=>(hch p.1 z).2.2.2 p hp rfl;exact⟨keep p.1 p.2 ne nf nch e n,free p.1 p.2 nch e n,ne,nf,d⟩
theorem Inv.un(I:Inv X ei σ H s)(u:Un X.fs [] H H' s.heap h')(hok:HOk X.prog X.w H' h'):Inv X ei σ H' {s with heap:=h',toks:=t'}:=by
 obtain⟨m,⟨o,es,ep,ho,r⟩,_⟩:=id I.loc;clear 5(u.any ho I.free (by simp))sl hL;exact I.step (g':=s.gens) (d':=s.drawn) (ch:=[]) (λ_ z=>nomatch z) (λb o _ hb _ e n=>u.keep b o e n hb (by simp)) (λb o _ hb _ e n=>u.slot b o e n hb (by simp)) (λb o _ e n=>u.free b o e n (by simp)) (λb o _ e=>u.there b o e (by simp)) u.tups u.frzs u.tbls (λm' hm=>by
  clear 5 hm o' es' ep' ho' r';rw[ho] at ho';cases ho'
  exact⟨_,es',ep',hL,r'⟩) hok I.bare
theorem Inv.call{g':Array GenState}{d':Drawn}{ch:List eR}(I:Inv X ei σ H s)(u:Un (frs X.stack) ch H H' s.heap h')(hok:HOk X.prog X.w H' h')(hg:AllBare g')
 (hch:∀b∈ch,(b∈X.ex\/X.s₀.heap.objs.size<=b)/\b≠X.env.locals/\(∀x c,X.env.cells.lookup x=some c->c≠b)/\∀p∈X.pn++ei,p.1≠b) :
 Inv X ei σ H' {s with heap:=h',gens:=g',drawn:=d',toks:=t'}:=by
 obtain⟨m,⟨o,es,ep,ho,r⟩,_⟩:=id I.loc;obtain⟨sl,hL⟩:=u.any ho I.free λz=>(hch _ z).2.1 rfl;exact I.step (ch:=ch) hch (λb o hL hb hc e n=>u.keep b o e n (λz=>(uk8.mp (I.stkSub b z)).elim hL hb) hc) (λb o _ _ hc e n=>u.any e n hc) (λb o hc e n=>u.free b o e n hc) (λb o hc e=>u.there b o e hc) u.tups u.frzs u.tbls (λm' hm=>by
  clear 5 hm o' es' ep' ho' r';rw[ho] at ho';cases ho'
  exact⟨_,es',ep',hL,r'⟩) hok hg
theorem Inv.turned{it:eR}(I:Inv X ei σ H s)(k:∀b o,b≠it->s.heap.get? b=some o->h'.get? b=some o)(hn:H it=none)(hL:it≠X.env.locals)
 (h1:it∈X.ex\/X.s₀.heap.objs.size<=it) (h2:∀x c,X.env.cells.lookup x=some c->c≠it) (h3:∀p∈X.pn++ei,p.1≠it):Inv X ei σ H {s with heap:=h',toks:=t'}:=by
 have nit:∀b u,H b=some u->b≠it:=λb u e z=>by rw[z,hn] at e;cases e
 refine I.step (g':=s.gens) (d':=s.drawn) (ch:=[it]) (λb hb=>?_) (λb o _ _ hc e _=>k b o (λz=>hc (by simp[z])) e) (λb o _ _ hc e _=>⟨o.slots,k b o (λz=>hc (by simp[z])) e⟩) (λ_ _ _ _ n=>n)
  (λb o hc e=>⟨o,k b o (λz=>hc (by simp[z])) e⟩) (λ_ _ e=>e) (λ_ _ _ e=>e) (λb ps e=>⟨#[],by rw[e];simp⟩) (λm hm=>?_) (λb u e=>?_) I.bare
 .have e:b=it:=by simpa using hb
  subst e;exact⟨h1,hL,h2,h3⟩
 .clear 5 hm o es ep ho r;exact⟨o,es,ep,k _ o (Ne.symm hL) ho,r⟩
 .refine(I.hok b u e).stay (λc v hc q=>k c v ?_ q) (λ_ q=>q) λ_ _ q=>q;rcases hc with z|z
  .rw[z];exact nit b u e
  .exact nit c _ z
theorem Inv.tok(I:Inv X ei σ H s)(t:Nat):Inv X ei σ H {s with toks:=t}:=I.un (h':=s.heap) (t':=t) Un.refl I.hok
theorem Inv.kept{t':Nat}(I:Inv X ei σ H s)(k:∀b u,s.heap.get? b=some u->h'.get? b=some u):Inv X ei σ H {s with heap:=h',toks:=t'}:=I.un (Un.kept k) (I.hok.kept k)
theorem Inv.laid{a:eR}{o:HO}{t':Nat}(I:Inv X ei σ H s)(k:∀b u,s.heap.get? b=some u->h'.get? b=some u)(hp:s.heap.objs.size<=a)(new:ObjOk X.prog X.w (upd H a o) h' a o) :
 Inv X ei σ (upd H a o) {s with heap:=h',toks:=t'}:=I.un (Un.laid k hp (I.hok.fresh hp)) (I.hok.laid k hp new)
theorem Inv.write{x e:eR}{o:HO}{t':Nat}(I:Inv X ei σ H s)(mu:Mut (H x))(he:e=x\/H e=some (.own x))(k:∀b u,b≠e->s.heap.get? b=some u->h'.get? b=some u)(heo:∃u,h'.get? e=some u)
 (new:ObjOk X.prog X.w (upd H x o) h' x o):Inv X ei σ (upd H x o) {s with heap:=h',toks:=t'}:=I.un (Un.write mu he k heo) (I.hok.write mu he k heo new)
theorem Inv.pins_of{pins':List (eR×Obj)}(I:Inv X ei σ H s)(h:∀p∈pins',s.heap.get? p.1=some p.2/\H p.1=none/\p.1≠X.env.locals/\p.1∉X.fs/\∀v,p.2.data≠.cell v):Inv X pins' σ H s:=
 ⟨I.ok,I.os,I.bare,I.base,I.loc,I.cell,I.free,I.freeC,λp hp=>(ui4.mp hp).elim (λz=>I.pin p (ud4 _ z)) (h p),I.hok,I.len⟩
theorem Gx{N:List Str}(hN:N.Nodup){i j:Nat}{x:Str}(a:N[i]?=some x)(b:N[j]?=some x):i=j:=by
 clear 5(ub0.mp a)h1 e1;clear 5(ub0.mp b)h2 e2;exact(ug8 hN).mp (e1.trans e2.symm)
theorem Ho{M:Model}{A:Around}(I:Inv X ei σ H s)(hN:X.N.Nodup)(hi:X.N[i]?=some x)(hx:Loc X.env.scope x)(r:RelV v u)
 (h:∀s',Inv X ei (σ.set i (some v)) H s'->(∃a,Heap.SameBut a s.heap s'.heap/\(a=X.env.locals\/X.env.cells.lookup x=some a))->Q () s') (hf:autoParam (X.fn x=true\/X.env.scope.names.lookup x=some .local) q0T):wpAny M A (storeName X.env x u) Q E s:=by
 clear 5(id I.loc)m hn hl;have hcls:(X.env.scope.kind==.class||(X.env.scope.kind==.module&&X.env.locals != X.env.globals))=false:=by rw[I.ok.kind];rfl
 have hiσ:i < σ.length:=by rw[I.len];exact(ub0.mp hi).1
 have cne:=I.cne;have tracked:∀{a:eR}{h':Heap},(∃o,s.heap.get? a=some o/\H a=none)->Heap.SameBut a s.heap h'->HOk X.prog X.w H h':=λ{a h'} ha hs b ob e=>by
  obtain⟨_,_,hfree⟩:=ha;refine(I.hok b ob e).stay (λc w' hc q=>(hs.2 c ?_).trans q) (λ_ q=>q) λ_ _ q=>q;rintro rfl;rcases hc with rfl|hc
  .rw[hfree] at e;cases e
  .rw[hfree] at hc;cases hc
 rcases hx with hk|hk
 .refine wpAny_storeName_local hk hn (λh' hn' hs=>?_) hcls;obtain⟨oL,_,_,hoL,_⟩:=id hn;refine h _ ⟨I.ok,I.os,I.bare,⟨λb o e n hb hx=>?_,λb o e n hb hx=>?_,I.base.free,λb o e hx=>?_,I.base.tups,I.base.frzs,I.base.tbls⟩,⟨_,hn',λj y v' e1 e2 e3=>?_⟩,λy c e=>?_,I.free,I.freeC,λp hp=>?_,tracked ⟨oL,hoL,I.free⟩ hs,by simpa using I.len⟩ ⟨_,hs,.inl rfl⟩
  .exact(hs.2 b (ul9 (ue3 (ul8 e) I.ok.above))).trans (I.base.keep b o e n hb hx)
  .clear 5(I.base.slot b o e n hb hx)sl e1;exact⟨sl,(hs.2 b (ul9 (ue3 (ul8 e) I.ok.above))).trans e1⟩
  .clear 5(I.base.there b o e hx)o' e1;exact⟨o',(hs.2 b (ul9 (ue3 (ul8 e) I.ok.above))).trans e1⟩
  .by_cases hj:j=i
   .subst hj;rw[hi] at e1;cases e1
    rw[uc0 hiσ] at e2
    cases e2
    exact⟨u,r,.inl ⟨hk,by simp⟩⟩
   .rw[ud5 (Ne.symm hj)] at e2;clear 5(hl j y v' e1 e2 e3)u' r' q;refine⟨u',r',?_⟩;rcases q with⟨k,e⟩|⟨k,c,e,z⟩
    .refine .inl ⟨k,?_⟩;have:y≠x:=λe=>hj (Gx hN e1 (e ▸ hi));simp[this,e]
    .exact .inr ⟨k,c,e,z.sameBut hs (cne y c e)⟩
  .clear 5(I.cell y c e)w' z;exact⟨w',z.sameBut hs (cne y c e)⟩
  .clear 5(I.pin p hp)e n ne nf d;exact⟨(hs.2 p.1 ne).trans e,n,ne,nf,d⟩
 .have hfn:X.fn x=true:=by
   rcases hf with z|z
   .exact z
   .rw[z] at hk;cases hk
  clear 5(I.ok.has x (.inl hk))c hc;clear 5(I.cell x c hc)w' z;refine wpAny_storeName_cell I.ok.kind hk hc z (λh' hc' hs=>?_);clear 5(id z)oc hoc hocd;refine h {s with heap:=h'} ⟨I.ok,I.os,I.bare,⟨λb o e n hb hx=>?_,λb o e n hb hx=>?_,I.base.free,λb o e hx=>?_,I.base.tups,I.base.frzs,I.base.tbls⟩,⟨m,hn.sameBut hs (Ne.symm (cne x c hc)),λj y v' e1 e2 e3=>?_⟩,λy c' e=>?_,I.free,I.freeC,λp hp=>?_,tracked ⟨oc,hoc,I.freeC x c hc⟩ hs,by simpa using I.len⟩ ⟨c,hs,.inr hc⟩
  .exact(hs.2 b (ul9 (ue3 (ul8 e) (I.ok.cab x c hfn hc)))).trans (I.base.keep b o e n hb hx)
  .clear 5(I.base.slot b o e n hb hx)sl e1;exact⟨sl,(hs.2 b (ul9 (ue3 (ul8 e) (I.ok.cab x c hfn hc)))).trans e1⟩
  .clear 5(I.base.there b o e hx)o' e1;exact⟨o',(hs.2 b (ul9 (ue3 (ul8 e) (I.ok.cab x c hfn hc)))).trans e1⟩
  .by_cases hj:j=i
   .subst hj;rw[hi] at e1;cases e1
    rw[uc0 hiσ] at e2
    cases e2
    exact⟨u,r,.inr ⟨.inl hk,c,hc,hc'⟩⟩
   .rw[ud5 (Ne.symm hj)] at e2;clear 5(hl j y v' e1 e2 e3)u' r' q;refine⟨u',r',?_⟩;rcases q with q|⟨k,c',e,z'⟩
    .exact .inl q
    .refine .inr ⟨k,c',e,z'.sameBut hs ?_⟩;rintro rfl;exact hj (Gx hN e1 (I.ok.inj _ _ _ e hc ▸ hi))
  .by_cases hcc:c'=c
   .subst hcc;exact⟨_,hc'⟩
   .clear 5(I.cell y c' e)w2 z2;exact⟨w2,z2.sameBut hs hcc⟩
  .clear 5(I.pin p hp)e n ne nf d;refine⟨(hs.2 p.1 ?_).trans e,n,ne,nf,d⟩;intro q;rw[q,hoc] at e;have q':oc=p.2:=ui5 e;exact d w' (by rw[<-q'];exact hocd)
theorem Fz{M:Model}{A:Around}(I:Inv X ei σ H s)(hN:X.N.Nodup)(hi:X.N[i]?=some x)(hx:Loc X.env.scope x)(r:RelV v u)
 (h:∀s',Inv X ei (σ.set i (some v)) H s'->Q () s') (hf:autoParam (X.fn x=true\/X.env.scope.names.lookup x=some .local) q0T):wpAny M A (storeName X.env x u) Q E s:=
 Ho I hN hi hx r (λs' I' _=>h s' I') hf
theorem Inv.call'{s':eS}{ch:List eR}(I:Inv X ei σ H s)(ho:s'.os=s.os)(u:Un (frs X.stack) ch H H' s.heap s'.heap)(hok:HOk X.prog X.w H' s'.heap)(hg:AllBare s'.gens)
 (hch:∀b∈ch,(b∈X.ex\/X.s₀.heap.objs.size<=b)/\b≠X.env.locals/\(∀x c,X.env.cells.lookup x=some c->c≠b)/\∀p∈X.pn++ei,p.1≠b):Inv X ei σ H' s':=by
 clear 5 s' h' g' d' t' o';have e:o'=s.os:=ho;subst e;exact I.call (g':=g') (t':=t') (d':=d') u hok hg hch
end
abbrev XK:=eo->Option eR->Hp->Prop
abbrev St:=List (Option V)
abbrev VK:=V->Hp->Prop
abbrev TE:=St->Hp->VK->Prop
abbrev TT:=St->Hp->(Bool->Hp->Prop)->Prop
abbrev TA:=St->Hp->(List V->Hp->Prop)->Prop
structure Ends where
 nx:St->Hp->Prop
 rt:VK
 bk:St->Hp->Prop:=λ_ _=>False
 ct:St->Hp->Prop:=λ_ _=>False
abbrev TS:=Ends->St->Hp->Prop
inductive EP(X:Cx)(ei:List (eR×Obj))(σ:St)(Q:VK)(u:eo)(s':eS):Prop where
 |mk (v:V) (H':Hp) (i:Inv X ei σ H' s') (r:RelV v u) (q:Q v H'):EP X ei σ Q u s'
inductive TP(X:Cx)(ei:List (eR×Obj))(σ:St)(Q:Bool->Hp->Prop)(b:Bool)(s':eS):Prop where
 |mk (H':Hp) (i:Inv X ei σ H' s') (q:Q b H'):TP X ei σ Q b s'
inductive AP(X:Cx)(ei:List (eR×Obj))(σ:St)(Q:List V->Hp->Prop)(us:List eo)(s':eS):Prop where
 |mk (vs:List V) (H':Hp) (i:Inv X ei σ H' s') (r:Vals vs us) (q:Q vs H'):AP X ei σ Q us s'
def SP(X:Cx)(ei:List (eR×Obj))(D:Ends)(f:Flow)(s':eS):Prop:=
 match f with
 |.next=>∃σ' H',Inv X ei σ' H' s'/\D.nx σ' H'
 |.brk=>∃σ' H',Inv X ei σ' H' s'/\D.bk σ' H'
 |.cont=>∃σ' H',Inv X ei σ' H' s'/\D.ct σ' H'
 |.ret u=>∃v σ' H',Inv X ei σ' H' s'/\RelV v u/\D.rt v H'
def PE(X:Cx)(e:Expr)(t:TE):Prop:=
 ∀(ei:List (eR×Obj)) (s:eS) (σ:St) (H:Hp) (Q:VK),Inv X ei σ H s->t σ H Q->wpAny (model X.prog X.w) X.A (eval e X.env) (EP X ei σ Q) X.xe s
def PT(X:Cx)(e:Expr)(t:TT):Prop:=
 ∀(ei:List (eR×Obj)) (s:eS) (σ:St) (H:Hp) (Q:Bool->Hp->Prop),Inv X ei σ H s->t σ H Q->wpAny (model X.prog X.w) X.A (isTrue e X.env (eval e X.env)) (TP X ei σ Q) X.xe s
def PW(X:Cx)(e:Expr)(t:TT):Prop:=
 ∀(whole:Sem eo) (ei:List (eR×Obj)) (s:eS) (σ:St) (H:Hp) (Q:Bool->Hp->Prop),Inv X ei σ H s->t σ H Q->wpAny (model X.prog X.w) X.A (isTrue e X.env whole) (TP X ei σ Q) X.xe s
variable{X:Cx}{e:Expr}
theorem PW.pt{t:TT}(h:PW X e t):PT X e t:=h _
def PA(X:Cx)(es:List Expr)(t:TA):Prop:=
 ∀(pos:Pos) (ei:List (eR×Obj)) (s:eS) (σ:St) (H:Hp) (Q:List V->Hp->Prop),Inv X ei σ H s->t σ H Q->wpAny (model X.prog X.w) X.A (spliced (backTo pos (starEach es X.env))) (AP X ei σ Q) X.xe s
def PS(X:Cx)(st:Stmt)(t:TS):Prop:=
 ∀(ei:List (eR×Obj)) (s:eS) (σ:St) (H:Hp) (D:Ends),Inv X ei σ H s->t D σ H->wpAny (model X.prog X.w) X.A (exec st X.env) (SP X ei D) X.xe s
def PSs(X:Cx)(st:List Stmt)(t:TS):Prop:=
 ∀(ei:List (eR×Obj)) (s:eS) (σ:St) (H:Hp) (D:Ends),Inv X ei σ H s->t D σ H->wpAny (model X.prog X.w) X.A (execs st X.env) (SP X ei D) X.xe s
variable{s:eS}
theorem thn{α:Type}{t:Sem α}{Q Q':α->eS->Prop}{M:Model}{A:Around}(h:wpAny M A t Q E s)(hQ:∀a s,Q a s->Q' a s):wpAny M A t Q' E s:=un8 h hQ λ_ _ x=>x
variable{ei:List (eR×Obj)}{σ:St}{c:Expr}
section
variable{X:Cx}
def YR(i:Nat):TE:=λσ H Q=>∃v,σ[i]?=some (some v)/\Q v H
def tC(v:V):TE:=λ_ H Q=>Q v H
theorem CT{pos:Pos}(hN:X.N[i]?=some x)(hv:Vis X.env.scope x)(hd:autoParam ((x==("__debug__":Str))=false) q1T)(hcd:autoParam ((x==("__classdict__":Str))=false) q1T):PE X (.Name x pos) (YR i):=by
 intro ei s σ H Q I h;clear 5 h v e h;clear 5 I.loc m hn hl;clear 5(hl i x v hN e hv)u r l;have fin:EP X ei σ Q u s:=⟨v,H,I,r,h⟩;rcases l with⟨hk,hm⟩|⟨hk,c,hc,hcell⟩
 .exact wpAny_Name (wpAny_loadName_local I.ok.kind hk hn hm fin) hd
 .rcases hk with hk|hk
  .exact wpAny_Name (wpAny_loadName_cell I.ok.kind hk hc hcell fin) hd
  .exact wpAny_Name (wpAny_loadName_free I.ok.kind hk hc hcell fin hcd) hd
theorem Yc{i j pos}:PE X (.Constant (.int i) j pos) (tC (.int i)):=λ_ _ _ H _ I h=>wpAny_Constant_int ⟨.int i,H,I.tok _,⟨_,rfl⟩,h⟩
theorem Zy{b j pos}:PE X (.Constant (.bool b) j pos) (tC (.bl b)):=λ_ _ _ H _ I h=>Constant_bool ⟨.bl b,H,I,rfl,h⟩
theorem Ye{j pos}:PE X (.Constant .none j pos) (tC .non):=λ_ _ _ H _ I h=>Constant_none ⟨.non,H,I,rfl,h⟩
theorem Qz{x j pos}:PE X (.Constant (.str x) j pos) (tC (.str x)):=λ_ _ _ H _ I h=>Calls.Constant_str ⟨.str x,H,I.tok _,⟨_,rfl⟩,h⟩
def Gl(X:Cx)(x:Str):Prop:=X.env.kindOf x=some .globalImplicit
theorem CY{pos:Pos}{Q:eo->eS->Prop}(I:Inv X ei σ H s)(hg:Gl X x)(hm:X.mg x=some u)(h:Q u s)
 (hd:autoParam ((x==("__debug__":Str))=false) q1T):wpAny (model X.prog X.w) X.A (eval (.Name x pos) X.env) Q E s:=
 eX I.ok.kind hg (Calls.loadGlobal_global (by rw[I.ok.glob];exact I.mod.glob.keeps I.bk) hm h) hd
theorem GZ{pos:Pos}{Q:eo->eS->Prop}(I:Inv X ei σ H s)(hg:Gl X x)(hm:X.mg x=none)(hv:bootBuiltins x=some u)(h:Q u s)
 (hn:autoParam (x≠"__name__") q1T) (hd:autoParam ((x==("__debug__":Str))=false) q1T):wpAny (model X.prog X.w) X.A (eval (.Name x pos) X.env) Q E s:=by
 clear 5 I.mod.blt mb h1 h2;exact eX I.ok.kind hg (Calls.loadGlobal_builtin (by rw[I.ok.glob];exact I.mod.glob.keeps I.bk) hm (by rw[I.ok.blt];exact h1.keeps I.bk) ((h2 x hn).trans hv) h) hd
theorem HG{pos:Pos}(hg:Gl X x)(hm:X.mg x=some u)(r:RelV v u)(hd:autoParam ((x==("__debug__":Str))=false) q1T):PE X (.Name x pos) (tC v):=
 λ_ _ _ H _ I h=>CY I hg hm ⟨v,H,I,r,h⟩ hd
theorem ND{pos:Pos}(hg:Gl X x)(hm:X.mg x=none)(hv:bootBuiltins x=some u)(r:RelV v u)(hn:autoParam (x≠"__name__") q1T)(hd:autoParam ((x==("__debug__":Str))=false) q1T):PE X (.Name x pos) (tC v):=
 λ_ _ _ H _ I h=>GZ I hg hm hv ⟨v,H,I,r,h⟩ hn hd
variable{a b:Expr}{ta tb:TE}{pos:Pos}
def tB(t:TE):TT:=λσ H Q=>t σ H λx H1=>∃c,x=.bl c/\Q c H1
theorem Ym{t:TE}(h:PE X e t)(he:autoParam (∀whole,isTrue e X.env whole=(do let v <-whole;standAt e.pos;holding [v] (truthy v))) q2T):PT X e (tB t):=by
 intro ei s σ H Q I hw;refine isTrue_plain (thn (h ei s σ H _ I hw) λv s1 z9=>?_) (he _);clear 5 z9 x H1 I1 r1 q1;clear 5 q1 d rfl q
 cases r1
 exact fL ⟨H1,I1,q⟩
variable{tA tB':TT}{rest:List Expr}
def bx(t u:TT):TT:=λσ H Q=>t σ H λc H1=>if c=true then u σ H1 Q else Q false H1
def tOr(t u:TT):TT:=λσ H Q=>t σ H λc H1=>if c=true then Q true H1 else u σ H1 Q
def bF(t:TT):TT:=λσ H Q=>t σ H λc H1=>Q (!c) H1
theorem VQ(ha:PT X a tA):PW X (.BoolOp .And [a] pos) tA:=by
 intro wh ei s σ H Q I h;refine isTrue_and (thn (ha ei s σ H Q I h) λc s1 e=>?_)
 cases c with
 |true=>exact isTrue_and_nil e
 |false=>exact e
theorem Yo(ha:PT X a tA):PW X (.BoolOp .Or [a] pos) tA:=by
 intro wh ei s σ H Q I h;refine isTrue_or (thn (ha ei s σ H Q I h) λc s1 e=>?_)
 cases c with
 |false=>exact isTrue_or_nil e
 |true=>exact e
theorem Yn(ha:PT X a tA)(hb:PW X (.BoolOp .And (b::rest) pos) tB'):PW X (.BoolOp .And (a::b::rest) pos) (bx tA tB'):=by
 intro wh ei s σ H Q I h;refine isTrue_and (thn (ha ei s σ H _ I h) λc s1 z9=>?_);clear 5 z9 H1 I1 q1
 cases c with
 |true=>exact hb wh ei s1 σ H1 Q I1 q1
 |false=>exact⟨H1,I1,q1⟩
theorem ZH(ha:PT X a tA)(hb:PW X (.BoolOp .Or (b::rest) pos) tB'):PW X (.BoolOp .Or (a::b::rest) pos) (tOr tA tB'):=by
 intro wh ei s σ H Q I h;refine isTrue_or (thn (ha ei s σ H _ I h) λc s1 z9=>?_);clear 5 z9 H1 I1 q1
 cases c with
 |true=>exact⟨H1,I1,q1⟩
 |false=>exact hb wh ei s1 σ H1 Q I1 q1
theorem Yl(ha:PT X a tA):PT X (.UnaryOp .Not a pos) (bF tA):=by
 intro ei s σ H Q I h;refine isTrue_not (thn (ha ei s σ H (λc H1=>Q (!c) H1) I h) λc s1 z=>?_);clear 5 z H1 I1 q1;exact⟨H1,I1,q1⟩
def ZQ(ta tb:TE):TE:=λσ H Q=>ta σ H λx H1=>∃c,x=.bl c/\if c=true then tb σ H1 Q else Q (.bl false) H1
def bG(ta tb:TE):TE:=λσ H Q=>ta σ H λx H1=>∃c,x=.bl c/\if c=true then Q (.bl true) H1 else tb σ H1 Q
def ZW(ta:TE):TE:=λσ H Q=>ta σ H λx H1=>∃c,x=.bl c/\Q (.bl (!c)) H1
theorem Yg{op}{t:TE}(h:PE X a t):PE X (.BoolOp op [a] pos) t:=λei s σ H Q I hw=>BoolOp_one (h ei s σ H Q I hw)
theorem Ya(ha:PE X a ta)(hb:PE X (.BoolOp .And (b::rest) pos) tb):PE X (.BoolOp .And (a::b::rest) pos) (ZQ ta tb):=by
 intro ei s σ H Q I h;refine BoolOp_and (thn (ha ei s σ H _ I h) λv s1 z9=>?_);clear 5 z9 x H1 I1 r1 q1;clear 5 q1 c rfl q1
 cases r1
 refine fL ?_
 cases c with
 |true=>exact hb ei s1 σ H1 Q I1 q1
 |false=>exact⟨.bl false,H1,I1,rfl,q1⟩
theorem Zz(ha:PE X a ta)(hb:PE X (.BoolOp .Or (b::rest) pos) tb):PE X (.BoolOp .Or (a::b::rest) pos) (bG ta tb):=by
 intro ei s σ H Q I h;refine BoolOp_or (thn (ha ei s σ H _ I h) λv s1 z9=>?_);clear 5 z9 x H1 I1 r1 q1;clear 5 q1 c rfl q1
 cases r1
 refine fL ?_
 cases c with
 |false=>exact hb ei s1 σ H1 Q I1 q1
 |true=>exact⟨.bl true,H1,I1,rfl,q1⟩
theorem Yf(ha:PE X a ta):PE X (.UnaryOp .Not a pos) (ZW ta):=by
 intro ei s σ H Q I h;refine UnaryOp_ (thn (ha ei s σ H _ I h) λv s1 z9=>?_);clear 5 z9 x H1 I1 r1 q1;clear 5 q1 c rfl q1
 cases r1
 exact not_of (fL ⟨.bl (!c),H1,I1,rfl,q1⟩)
def tIf(t:TT)(ta tb:TE):TE:=λσ H Q=>t σ H λc H1=>if c=true then ta σ H1 Q else tb σ H1 Q
theorem SK(hc:PT X c tA)(ha:PE X a ta)(hb:PE X b tb):PE X (.IfExp c a b pos) (tIf tA ta tb):=by
 intro ei s σ H Q I h;refine wpAny_IfExp (thn (hc ei s σ H _ I h) λd s1 z9=>?_);clear 5 z9 H1 I1 q1
 cases d with
 |true=>exact ha ei s1 σ H1 Q I1 q1
 |false=>exact hb ei s1 σ H1 Q I1 q1
end
noncomputable def SqL(K:eh)(H:Hp)(a:eR)(xs:List V):Prop:=
 Rd H a (.lst xs)\/
  ∃(o:Obj) (its:Array eo) (n:Nat),K.lookup a=some o/\o.cls=.type "list"/\o.dict=none/\o.data=.seq its n/\its.size<=sizeLine/\Vals xs its.toList
noncomputable def SqT(K:eh)(H:Hp)(a:eR)(xs:List V):Prop:=
 Rd H a (.tup xs)\/
  ∃(o:Obj) (its:Array eo) (n:Nat),K.lookup a=some o/\o.cls=.type "tuple"/\o.data=.seq its n/\its.size<=sizeLine/\Vals xs its.toList
noncomputable def aY:eo->Option V
 |.none=>some .non
 |.bool b=>some (.bl b)
 |.int i _=>some (.int i)
 |.str x _=>some (.str x)
 |.bytes b _=>some (.byt b)
 |.float b _=>some (.flt b)
 |.ref a=>some (.ref a)
 |.type n=>some (.ty n)
 |_=>none
theorem RelV.abs{x:V}(r:RelV x u):aY u=some x:=by
 cases x with
 |non=>cases r;rfl
 |bl _=>cases r;rfl
 |int _=>clear 5 r t rfl;rfl
 |str _=>clear 5 r t rfl;rfl
 |byt _=>clear 5 r t rfl;rfl
 |flt _=>clear 5 r t rfl;rfl
 |ref _=>cases r;rfl
 |ty _=>cases r;rfl
theorem RelV.inj{x y:V}{u:eo}(r:RelV x u)(q:RelV y u):x=y:=ui5 (r.abs.symm.trans q.abs)
theorem Vals.inj{xs ys:List V}{us:List eo}(a:Vals xs us)(b:Vals ys us):xs=ys:=by
 cases a with
 |nil=>
   cases b
   rfl
 |cons r t=>
   cases b with
   |cons r' t'=>rw[r.inj r',Vals.inj t t']
variable{K:eh}
section
variable{X:Cx}{ei:List (eR×Obj)}{σ:St}{H:Hp}{s:eS}{a:eR}{xs ys:List V}
theorem SqL.of(h:H a=some (.lst xs)):SqL K H a xs:=.inl (.inl h)
theorem SqT.of(h:H a=some (.tup xs)):SqT K H a xs:=.inl (.inl h)
theorem Inv.list(I:Inv X ei σ H s)(h:SqL X.K H a xs):∃its:List eo,Vals xs its/\PlainL s.heap a its.toArray/\xs.length<=sizeLine:=by
 rcases h with h|⟨o,its,n,hk,hc,hd,hs,hz,r⟩
 .clear 5(h.ok I.hok)z its n r e;exact⟨its,r,⟨_,n,e,rfl,rfl,rfl⟩,z⟩
 .refine⟨its.toList,r,⟨o,n,I.kIn a o hk,hc,hd,by simpa using hs⟩,?_⟩;have e:=r.length;simp only[Array.length_toList] at e;lia
theorem Inv.tuple(I:Inv X ei σ H s)(h:SqT X.K H a xs):∃its:List eo,Vals xs its/\IsTup s.heap a its.toArray/\xs.length<=sizeLine:=by
 rcases h with h|⟨o,its,n,hk,hc,hs,hz,r⟩
 .clear 5(h.ok I.hok)z its r p;exact⟨its,r,p,z⟩
 .refine⟨its.toList,r,⟨o,I.kIn a o hk,hc,n,by simpa using hs⟩,?_⟩;have e:=r.length;simp only[Array.length_toList] at e;lia
theorem Inv.list_inj(I:Inv X ei σ H s)(h:SqL X.K H a xs)(h':SqL X.K H a ys):xs=ys:=by
 obtain⟨its,r,⟨o,n,e,_,_,d⟩,_⟩:=I.list h;obtain⟨its',r',⟨o',n',e',_,_,d'⟩,_⟩:=I.list h';rw[e] at e';cases e'
 rw[d] at d';injection d' with d1 _
 have:its=its':=by simpa using gu Array.toList d1
 subst this;exact r.inj r'
theorem Inv.tuple_inj(I:Inv X ei σ H s)(h:SqT X.K H a xs)(h':SqT X.K H a ys):xs=ys:=by
 obtain⟨its,r,⟨o,e,_,n,d⟩,_⟩:=I.tuple h;obtain⟨its',r',⟨o',e',_,n',d'⟩,_⟩:=I.tuple h';rw[e] at e';cases e'
 rw[d] at d';injection d' with d1 _
 have:its=its':=by simpa using gu Array.toList d1
 subst this;exact r.inj r'
end
abbrev Cx.wish(X:Cx)(E:eo->eS->Prop):Cx:={X with xe:=E}
abbrev Cx.nox(X:Cx):Cx:=X.wish λ_ _=>False
theorem Cx.Ok.wish{X:Cx}(ok:X.Ok)(E:eo->eS->Prop):(X.wish E).Ok:=
 ⟨ok.mod,ok.kind,ok.glob,ok.blt,ok.above,ok.inj,ok.has,ok.cab,ok.hd,ok.frames,ok.stk,ok.exf,ok.bs,ok.bsz,ok.noex,ok.exfs,ok.funs,ok.frf⟩
theorem Cx.Ok.unwish(ok:(X.wish E).Ok):X.Ok:=
 ⟨ok.mod,ok.kind,ok.glob,ok.blt,ok.above,ok.inj,ok.has,ok.cab,ok.hd,ok.frames,ok.stk,ok.exf,ok.bs,ok.bsz,ok.noex,ok.exfs,ok.funs,ok.frf⟩
section
variable{X:Cx}{ei:List (eR×Obj)}{σ:St}{H:Hp}{s:eS}{E:eo->eS->Prop}
theorem Inv.wish(I:Inv X ei σ H s)(E:eo->eS->Prop):Inv (X.wish E) ei σ H s:=⟨I.ok.wish E,I.os,I.bare,I.base,I.loc,I.cell,I.free,I.freeC,I.pin,I.hok,I.len⟩
theorem Inv.unwish(I:Inv (X.wish E) ei σ H s):Inv X ei σ H s:=⟨I.ok.unwish,I.os,I.bare,I.base,I.loc,I.cell,I.free,I.freeC,I.pin,I.hok,I.len⟩
theorem SP.unwish{D:Ends}{f:Flow}{s':eS}(h:SP (X.wish E) ei D f s'):SP X ei D f s':=by
 cases f with
 |next=>clear 5 h σ' H' I q;exact⟨σ',H',I.unwish,q⟩
 |brk=>clear 5 h σ' H' I q;exact⟨σ',H',I.unwish,q⟩
 |cont=>clear 5 h σ' H' I q;exact⟨σ',H',I.unwish,q⟩
 |ret u=>clear 5 h v σ' H' I r q;exact⟨v,σ',H',I.unwish,r,q⟩
theorem PSs.nox{st:List Stmt}{t:TS}(h:PSs X.nox st t):PSs X st t:=λei s σ H D I hw=>
 un8 (h ei s σ H D (I.wish _) hw) (λ_ _ q=>q.unwish) λ_ _ z=>False.elim z
end
section
variable{X:Cx}{st:Stmt}{rest:List Stmt}{t u:TS}{e:Expr}{te:TE}{pos:Pos}
def Uf:TS:=λD σ H=>D.nx σ H
def bI(t u:TS):TS:=λD σ H=>t {D with nx:=u D} σ H
theorem VO:PSs X [] Uf:=λ_ _ σ H _ I h=>fR ⟨σ,H,I,h⟩
theorem Il(h1:PS X st t)(h2:PSs X rest u):PSs X (st::rest) (bI t u):=by
 intro ei s σ H D I h;refine fO (thn (h1 ei s σ H {D with nx:=u D} I h) λf s1 q=>?_)
 cases f with
 |next=>
   clear 5 q σ' H' I' q;exact h2 ei s1 σ' H' D I' q
 |ret v=>exact q
 |brk=>exact q
 |cont=>exact q
theorem HH(h1:PS X st t):PSs X [st] t:=by
 intro ei s σ H D I h;refine fO (thn (h1 ei s σ H D I h) λf s1 q=>?_)
 cases f with
 |next=>exact fR q
 |ret v=>exact q
 |brk=>exact q
 |cont=>exact q
theorem VN:PS X (.Pass pos) Uf:=λ_ _ σ H _ I h=>wpAny_Pass ⟨σ,H,I,h⟩
theorem Inv.quiet(I:Inv X ei σ H s):interactive X.env=false:=by simp[interactive,I.ok.kind]
def Ue(te:TE):TS:=λD σ H=>te σ H λ_ H1=>D.nx σ H1
theorem JY(he:PE X e te)(hs:autoParam (swapsWith e none pos.line X.env=pure false) q3T):PS X (.Expr e pos) (Ue te):=by
 intro ei s σ H D I h;exact wpAny_Expr_any (thn (he ei s σ H _ I h) λv s1 z9=>by clear 5 z9 x H1 I1 r1 q1;exact⟨σ,H1,I1,q1⟩) I.quiet hs
def bH(te:TE):TS:=λD σ H=>te σ H D.rt
theorem Ml(he:PE X e te):PS X (.Return (some e) pos) (bH te):=by
 intro ei s σ H D I h;exact wpAny_Return_some (thn (he ei s σ H _ I h) λv s1 z9=>by clear 5 z9 x H1 I1 r1 q1;exact⟨x,σ,H1,I1,r1,q1⟩)
def bD(c:TT)(t u:TS):TS:=λD σ H=>c σ H λb H1=>if b=true then t D σ H1 else u D σ H1
theorem ZG{a b:List Stmt}{tc:TT}(hc:PT X c tc)(ha:PSs X a t)(hb:PSs X b u):PS X (.If c a b pos) (bD tc t u):=by
 intro ei s σ H D I h;refine wpAny_If (thn (hc ei s σ H _ I h) λd s1 z9=>?_);clear 5 z9 H1 I1 q1
 cases d with
 |true=>exact ha ei s1 σ H1 D I1 q1
 |false=>exact hb ei s1 σ H1 D I1 q1
end
abbrev TG:=V->St->Hp->(St->Hp->Prop)->Prop
abbrev TGs:=List V->St->Hp->(St->Hp->Prop)->Prop
def PG(X:Cx)(target:Expr)(t:TG):Prop:=
 ∀(ei:List (eR×Obj)) (s:eS) (σ:St) (H:Hp) (v:V) (u:eo) (Q:St->Hp->Prop),Inv X ei σ H s->RelV v u->t v σ H Q->
  wpAny (model X.prog X.w) X.A (assign target X.env u) (λ_ s'=>∃σ' H',Inv X ei σ' H' s'/\Q σ' H') X.xe s
def PGs(X:Cx)(ts:List Expr)(t:TGs):Prop:=
 ∀(ei:List (eR×Obj)) (s:eS) (σ:St) (H:Hp) (vs:List V) (us:List eo) (Q:St->Hp->Prop),Inv X ei σ H s->Vals vs us->t vs σ H Q->
  wpAny (model X.prog X.w) X.A (assignInOrder ((assignEach ts X.env).map (·.2)) us) (λ_ s'=>∃σ' H',Inv X ei σ' H' s'/\Q σ' H') X.xe s
abbrev Rm:=V->V->V->Hp->(Hp->Prop)->Prop
def Rj(X:Cx)(t:Rm):Prop:=
 ∀(ei:List (eR×Obj)) (s:eS) (σ:St) (H:Hp) (o i v:V) (ov iv u:eo) (Q:Hp->Prop),Inv X ei σ H s->RelV o ov->RelV i iv->RelV v u->t o i v H Q->
  wpAny (model X.prog X.w) X.A (setItem ov iv u) (λ_ s'=>∃H',Inv X ei σ H' s'/\Q H') X.xe s
variable{tg:Expr}
section
variable{X:Cx}{pos:Pos}
def Ja(i:Nat):TG:=λv σ H Q=>Q (σ.set i (some v)) H
theorem VD(hN:X.N.Nodup)(hi:X.N[i]?=some x)(hx:Loc X.env.scope x)(hf:autoParam (X.fn x=true\/X.env.scope.names.lookup x=some .local) q0T):PG X (.Name x pos) (Ja i):=by
 intro ei s σ H v u Q I r h;exact wpAny_assign_Name (Fz I hN hi hx r (λs' I'=>⟨_,H,I',h⟩) hf)
def bh:TGs:=λvs σ H Q=>vs=[]/\Q σ H
def TZ(t:TG)(u:TGs):TGs:=λvs σ H Q=>∃v r,vs=v::r/\t v σ H λσ' H'=>u r σ' H' Q
theorem VF:PGs X [] bh:=by
 intro ei s σ H vs us Q I r h;clear 5 h e h;subst e
 cases r
 exact assignInOrder_nil ⟨σ,H,I,h⟩
theorem SN{es:List Expr}{t:TG}{u:TGs}(h1:PG X e t)(h2:PGs X es u)
 (hs:autoParam ((assignEach (e::es) X.env).map (·.2)=assign e X.env::(assignEach es X.env).map (·.2)) q3T):PGs X (e::es) (TZ t u):=by
 intro ei s σ H vs us Q I r h;clear 5 h v vr e1 h;subst e1
 cases r with
 |cons r rr=>
   rw[hs];refine assignInOrder_cons (thn (h1 ei s σ H _ _ _ I r h) λ_ s1 z9=>?_);clear 5 z9 σ1 H1 I1 q1;exact h2 ei s1 σ1 H1 _ _ Q I1 rr q1
def bj(K:eh)(n:Nat)(t:TGs):TG:=λv σ H Q=>∃a xs,v=.ref a/\SqT K H a xs/\xs.length=n/\t xs σ H Q
theorem Yh{es:List Expr}{k:Nat}{t:TGs}{n:Nat}(hc:X.calm=true)(h:PGs X es t)
 (hn:autoParam ((assignEach es X.env).length=n) q3T) (hst:autoParam ((assignEach es X.env).findIdx? (·.1)=none) q3T):PG X (.Tuple es k pos) (bj X.K n t):=by
 intro ei s σ H v u Q I r hw;clear 5 hw a xs e1 hq hl hw;subst e1
 cases r
 clear 5(I.tuple hq)its rv ht hz;refine assign_Tuple_tuple (I.ok.hd hc) ht (by simp[hn,<-hl,rv.length]) hst λh' hx=>?_;have I1:Inv X ei σ H {s with heap:=h'}:=I.kept (t':=s.toks) λb o e=>hx b o (ul9 (ul8 e)) e;exact h ei _ σ H xs _ Q I1 (by simpa using rv) hw
def bi(to ti:TE)(t:Rm):TG:=λv σ H Q=>to σ H λo H1=>ti σ H1 λi H2=>t o i v H2 λH3=>Q σ H3
theorem Mi{o i:Expr}{to ti:TE}{t:Rm}(ho:PE X o to)(hi:PE X i ti)(hs:Rj X t)
 (ha:∀v,assign (.Subscript o i pos) X.env v=(do
   let ov <-holding [v] (eval o X.env)
   let iv <-holding [v,ov] (eval i X.env)
   standAt pos
   holding [v,ov,iv] (setItem ov iv v)
   release [v,ov,iv] []):=by intro _;rfl):PG X (.Subscript o i pos) (bi to ti t):=by
 intro ei s σ H v u Q I r h;rw[ha];refine un6 (ul7 (thn (ho ei s σ H _ I h) λov s1 z9=>?_));clear 5 z9 x H1 I1 r1 q1;refine un6 (ul7 (thn (hi ei s1 σ H1 _ I1 q1) λiv s2 z9=>?_));clear 5 z9 y H2 I2 r2 q2;refine un6 (fX (un6 (ul7 (thn (hs ei s2 σ H2 x y v ov iv u _ I2 r1 r2 r q2) λ_ s3 z9=>?_))));clear 5 z9 H3 I3 q3;exact wpAny_release ⟨σ,H3,I3,q3⟩
def MF(te:TE)(g:TG):TS:=λD σ H=>te σ H λx H1=>g x σ H1 D.nx
theorem QF{te:TE}{g:TG}(he:PE X e te)(hg:PG X tg g)(hs:autoParam (swapsWithSole [tg] e pos.line X.env=pure false) q3T)(hw:autoParam (swappedStores [tg] e X.env=pure none) q3T)
 (h1:autoParam ((assignEach [tg] X.env).map (·.2)=[assign tg X.env]) q3T):PS X (.Assign [tg] e pos) (MF te g):=by
 intro ei s σ H D I h;refine wpAny_Assign_stores (thn (he ei s σ H _ I h) λv s1 z9=>?_) hs hw;clear 5 z9 x H1 I1 r1 q1;rw[h1];exact thn (hg ei s1 σ H1 x v _ I1 r1 q1) λ_ s2 q=>q
theorem Mm{te:TE}{pos':Pos}(hN:X.N.Nodup)(hi:X.N[i]?=some x)(hx:Loc X.env.scope x)(he:PE X e te)(hs:autoParam (swapsWith e (some (.Name x pos')) pos.line X.env=pure false) q3T)(hf:autoParam (X.fn x=true\/X.env.scope.names.lookup x=some .local) q0T) :
 PS X (.Assign [.Name x pos'] e pos) (MF te (Ja i)):=by
 intro ei s σ H D I h;refine wpAny_Assign_Name (thn (he ei s σ H _ I h) λv s1 z9=>?_) hs;clear 5 z9 y H1 I1 r1 q1;exact Fz I1 hN hi hx r1 (λs2 I2=>⟨_,H1,I2,q1⟩) hf
end
section
variable{X:Cx}{pos:Pos}
def Q3(c:TT)(tb:TS):TS:=λD σ H=>∃W:Nat->St->Hp->Prop,(∃m,W m σ H)/\∀m σ H,W m σ H->
 c σ H λb H1=>if b=true then ∃N:St->Hp->Prop,(∀σ' H',N σ' H'->∃m',m'<m/\W m' σ' H')/\tb {D with nx:=N,ct:=N,bk:=D.nx} σ H1 else D.nx σ H1
theorem SQ{body:List Stmt}{tc:TT}{tb:TS}(hp:PassesOwn (model X.prog X.w) X.A X.env X.xe)(hc:PT X c tc)(hb:PSs X body tb):PS X (.While c body [] pos) (Q3 tc tb):=by
 intro ei s σ H D I h;obtain⟨W,⟨m0,w0⟩,turn⟩:=h;refine wpAny_While (codeAny_whileLoop (λn s'=>∃σ' H',Inv X ei σ' H' s'/\W n σ' H') ?_ m0 ⟨σ,H,I,w0⟩);rintro n s1 ⟨σ1,H1,I1,w1⟩;refine fS hp (thn (hc ei s1 σ1 H1 _ I1 (turn n σ1 H1 w1)) λb s2 z9=>?_);clear 5 z9 H2 I2 q2
 cases b with
 |true=>
   clear 5 q2 N hN q2;rw[gE rfl];refine fS hp (thn (hb ei s2 σ1 H2 _ I2 q2) λf s3 q3=>?_)
   cases f with
   |next=>
     clear 5 q3 σ3 H3 I3 n3;clear 5(hN σ3 H3 n3)m' hm w3;exact⟨m',hm,σ3,H3,I3,w3⟩
   |cont=>
     clear 5 q3 σ3 H3 I3 n3;clear 5(hN σ3 H3 n3)m' hm w3;exact⟨m',hm,σ3,H3,I3,w3⟩
   |brk=>exact q3
   |ret v=>exact q3
 |false=>
   rw[gG ue5];exact fR ⟨σ1,H2,I2,q2⟩
end
structure It where
 go:Nat->Hp->Prop
 yld:Nat->Hp->V->Hp->Prop
 stop:Nat->Hp->Prop
def FpOk(X:Cx)(ei:List (eR×Obj))(H:Hp)(b:eR):Prop:=
 H b=none/\b≠X.env.locals/\b∉X.fs/\(b∈X.ex\/X.s₀.heap.objs.size<=b)/\(∀x c,X.env.cells.lookup x=some c->c≠b)/\∀p∈X.pn++ei,p.1≠b
theorem Inv.fpOk{H':Hp}(I:Inv X ei σ H s)(hb:s.heap.objs.size<=b)(hn:H' b=none):FpOk X ei H' b:=by
 refine⟨hn,um2 (ue3 I.lt hb),I.nofs hb,.inr (um0 I.sz hb),λx c e z=>?_,λp hp z=>?_⟩
 .clear 5(I.cell x c e)v q;exact absurd (ue3 q.lt (by rw[z];exact hb)) (uk7 _)
 .exact absurd (ue3 (ul8 (I.pin p hp).1) (by rw[z];exact hb)) (uk7 _)
structure Turn(P:eT)(w:eU)(K:eh)(tg:Expr)(J:It)(fp:List eR)(it:eR)(tn:Nat->Heap->Prop):Prop where
 mem:it∈fp
 obj:∀i h,tn i h->∀b∈fp,∃o,h.get? b=some o/\∀v,o.data≠.cell v
 keep:∀i h h',tn i h->(∀b∈fp,∀o,h.get? b=some o->h'.get? b=some o)->tn i h'
 item:∀(X:Cx),X.prog=P->X.w=w->X.K=K->X.calm=true->∀(i:Nat) (ei:List (eR×Obj)) (s:eS) (σ:St) (H:Hp) (E:eo->eS->Prop),Inv X ei σ H s->(∀b∈fp,FpOk X ei H b)->tn i s.heap->J.go i H->
  wpAny (model P w) X.A (pyNext (.ref it)) (λr s1=>∃u,r=some u/\
   wpAny (model P w) X.A (letOwnedTupleGo tg (.ref it) u) (λ_ s2=>∃x H',Inv X ei σ H' s2/\RelV x u/\J.yld i H x H'/\tn (i+1) s2.heap/\∀b∈fp,H' b=none) E s1) E s
 done:∀(X:Cx),X.prog=P->X.w=w->X.K=K->X.calm=true->∀(i:Nat) (ei:List (eR×Obj)) (s:eS) (σ:St) (H:Hp) (E:eo->eS->Prop),Inv X ei σ H s->(∀b∈fp,FpOk X ei H b)->tn i s.heap->J.stop i H->
  wpAny (model P w) X.A (pyNext (.ref it)) (λr s1=>r=none/\Inv X ei σ H s1) E s
 self:∀(A:Around) (i:Nat) (s:eS) (Q:eo->eS->Prop) (E:eo->eS->Prop),tn i s.heap->Q (.ref it) s->wpAny (model P w) A (pyIter (.ref it)) Q E s
abbrev TI:=St->Hp->(It->Hp->Prop)->Prop
def PIE(X:Cx)(ei:List (eR×Obj))(σ:St)(tg:Expr)(R:It->Hp->Prop)(itv:eo)(s2:eS):Prop:=
 ∃(it:eR) (fp:List eR) (tn:Nat->Heap->Prop) (J:It) (H':Hp),itv=.ref it/\Inv X ei σ H' s2/\Turn X.prog X.w X.K tg J fp it tn/\tn 0 s2.heap/\(∀b∈fp,FpOk X ei H' b)/\R J H'
def PI(X:Cx)(tg iter:Expr)(wi:TI):Prop:=
 ∀(ei:List (eR×Obj)) (s:eS) (σ:St) (H:Hp) (R:It->Hp->Prop),Inv X ei σ H s->wi σ H R->
  wpAny (model X.prog X.w) X.A (eval iter X.env) (λv s1=>wpAny (model X.prog X.w) X.A (pyIter v) (PIE X ei σ tg R) X.xe s1) X.xe s
theorem KZ{M:Model}{A:Around}{it:eR}{o:Obj}{n:String}{vs:Array eo}(ho:s.heap.get? it=some o)(hc:o.cls=.type n)(hd:o.data=.fields vs)
 (hn:["enumerate", "zip", "dict_itemiterator", "dict_reverseitemiterator", "odict_iterator", "itertools.zip_longest", "itertools.pairwise"].contains n=false) (hQ:Q () s):wpAny M A (letOwnedTupleGo tg (.ref it) u) Q E s:=by
 unfold letOwnedTupleGo
 cases tg<;>first
  |exact un7 hQ
  | (cases u <;> first
      |exact un7 hQ
      | (refine un6 (wpAny_load ho ?_)
         rw[hc,hd];show wpAny M A (if (["enumerate", "zip", "dict_itemiterator", "dict_reverseitemiterator", "odict_iterator", "itertools.zip_longest", "itertools.pairwise"].contains n&&vs[0]?==some (rawInt _))=true then _ else _) Q E s;rw[gG (by intro h;rw[hn,uk3] at h;cases h)]
         exact un7 hQ))
def Itl(K:eh)(a:eR):It:=
 ⟨λi H=>∃xs x,SqL K H a xs/\xs[i]?=some x,λi H x H'=>H'=H/\∀xs,SqL K H a xs->xs[i]?=some x,λi H=>∃xs,SqL K H a xs/\xs.length<=i⟩
def Itt(K:eh)(a:eR):It:=
 ⟨λi H=>∃xs x,SqT K H a xs/\xs[i]?=some x,λi H x H'=>H'=H/\∀xs,SqT K H a xs->xs[i]?=some x,λi H=>∃xs,SqT K H a xs/\xs.length<=i⟩
noncomputable def Itr(lo:Int)(n:Nat):It:=⟨λi _=>i<n,λi H x H'=>H'=H/\x=.int (lo+i),λi _=>n<=i⟩
theorem Q6(a it:eR):Turn P w K tg (Itl K a) [it] it (λi h=>h.IsListIter it a i) where
 mem:=by simp
 obj:=λi h st b hb=>by
  have e:b=it:=by simpa using hb
  subst e;clear 5 st o e c d;exact⟨o,e,λv z=>by rw[d] at z;cases z⟩
 keep:=λi h h' st k=>st.at λo e=>k it (by simp) o e
 item:=by
  intro X hP hw hK hc i ei s σ H E I hf st hg;subst hP hw hK;clear 5 hg xs x hq hx;clear 5(I.list hq)its rv p hz;clear 5(rv.get hx)u hu ru;clear 5(hf it (by simp))f0 f1 f2 f3 f4 f5;refine wpAny_pyNext_list_item st p.isList (x:=u) (by simpa using hu) λh' st' sb=>?_;have I1:Inv X ei σ H {s with heap:=h'}:=I.turned (t':=s.toks) (λb o hb e=>(sb.2 b hb).trans e) f0 f1 f3 f4 f5;clear 5(id st')o e c d;exact⟨u,rfl,KZ (s:={s with heap:=h'}) e c d (by decide) ⟨x,H,I1,ru,⟨rfl,λys hy=>by rw[I.list_inj hy hq];exact hx⟩,st',λb hb=>(hf b hb).1⟩⟩
 done:=by
  intro X hP hw hK hc i ei s σ H E I hf st hg;subst hP hw hK;clear 5 hg xs hq hx;clear 5(I.list hq)its rv p hz;clear 5(hf it (by simp))f0 f1 f2 f3 f4 f5;have hl:=rv.length;exact wpAny_pyNext_list_end (I.ok.hd hc) st p.isList (by simp;lia) λh' eb=>⟨rfl,I.turned (t':=s.toks) (λb o hb e=>eb b o hb e) f0 f1 f3 f4 f5⟩
 self:=λ_ _ _ _ _ st h=>wpAny_pyIter_listiter st h
theorem O2(a it:eR):Turn P w K tg (Itt K a) [it] it (λi h=>h.IsTupleIter it a i) where
 mem:=by simp
 obj:=λi h st b hb=>by
  have e:b=it:=by simpa using hb
  subst e;clear 5 st o e c d;exact⟨o,e,λv z=>by rw[d] at z;cases z⟩
 keep:=λi h h' st k=>st.at λo e=>k it (by simp) o e
 item:=by
  intro X hP hw hK hc i ei s σ H E I hf st hg;subst hP hw hK;clear 5 hg xs x hq hx;clear 5(I.tuple hq)its rv p hz;clear 5(rv.get hx)u hu ru;clear 5(hf it (by simp))f0 f1 f2 f3 f4 f5;refine wpAny_pyNext_tuple_item st (show s.heap.IsTuple a its.toArray from p) (x:=u) (by simpa using hu) λh' st' sb=>?_;have I1:Inv X ei σ H {s with heap:=h'}:=I.turned (t':=s.toks) (λb o hb e=>(sb.2 b hb).trans e) f0 f1 f3 f4 f5;clear 5(id st')o e c d;exact⟨u,rfl,KZ (s:={s with heap:=h'}) e c d (by decide) ⟨x,H,I1,ru,⟨rfl,λys hy=>by rw[I.tuple_inj hy hq];exact hx⟩,st',λb hb=>(hf b hb).1⟩⟩
 done:=by
  intro X hP hw hK hc i ei s σ H E I hf st hg;subst hP hw hK;clear 5 hg xs hq hx;clear 5(I.tuple hq)its rv p hz;clear 5(hf it (by simp))f0 f1 f2 f3 f4 f5;have hl:=rv.length;exact wpAny_pyNext_tuple_end (I.ok.hd hc) st (show s.heap.IsTuple a its.toArray from p) (by simp;lia) λh' eb=>⟨rfl,I.turned (t':=s.toks) (λb o hb e=>eb b o hb e) f0 f1 f3 f4 f5⟩
 self:=λ_ _ _ _ _ st h=>wpAny_pyIter_tupleiter st h
theorem O1(it:eR)(lo:Int)(n:Nat):Turn P w K tg (Itr lo n) [it] it (λi h=>IsRangeIter h it (lo+(i:Nat)*1) ((n:Int)-(i:Nat)) 1) where
 mem:=by simp
 obj:=λi h st b hb=>by
  have e:b=it:=by simpa using hb
  subst e;exact⟨_,st,λv z=>by
   have z':Data.fields _=Data.cell v:=z
   cases z'⟩
 keep:=λi h h' st k=>k it (by simp) _ st
 item:=by
  intro X hP hw hK hc i ei s σ H E I hf st hg;subst hP hw hK;clear 5(hf it (by simp))f0 f1 f2 f3 f4 f5;have W:=Walks.range (prog:=X.prog) (w:=X.w) (I.ok.hd hc) it lo 1 n;refine W.item i s _ _ hg st λv h' tk hv st' kk=>?_;clear 5 hv t rfl;have I1:Inv X ei σ H {s with heap:=h',toks:=tk}:=I.turned (λb o hb e=>kk b o (by simpa using hb) e) f0 f1 f3 f4 f5;refine⟨_,rfl,KZ (s:={s with heap:=h',toks:=tk}) (n:="range_iterator") st' rfl rfl (by decide) ⟨.int (lo+i),H,I1,⟨t,?_⟩,⟨rfl,rfl⟩,st',λb hb=>(hf b hb).1⟩⟩;rw[Int.mul_one]
 done:=by
  intro X hP hw hK hc i ei s σ H E I hf st hg;subst hP hw hK;clear 5(hf it (by simp))f0 f1 f2 f3 f4 f5;exact wpAny_pyNext_range_end (I.ok.hd hc) st (by have:n<=i:=hg;lia) λh' eb=>⟨rfl,I.turned (t':=s.toks) (λb o hb e=>eb b o hb e) f0 f1 f3 f4 f5⟩
 self:=λ_ _ _ _ _ st h=>wpAny_pyIter_rangeiter st h
variable{fp:List eR}
section
variable{X:Cx}{tg:Expr}
theorem Mn{R:It->Hp->Prop}{lo hi:Int}{t u v:Tok}{tk:Nat}(I:Inv X ei σ H s)(h1 : -(2 ^ 62)<=lo)(h2:lo<2 ^ 62)(h3 : -(2 ^ 62)<=hi)(h4:hi<2 ^ 62)
 (q:R (Itr lo (hi-lo).toNat) H):wpAny (model X.prog X.w) X.A (pyIter (.ref s.heap.objs.size)) (PIE X ei σ tg R) E {s with heap:=s.heap.push {cls:=.type "range",data:=.fields #[.int lo t,.int hi u,.int 1 v]},toks:=tk}:=by
 refine wpAny_pyIter_range (IsRange.new ..) (small_one h1 h2 h3 h4) ?_;have I1:Inv X ei σ H {s with heap:=s.heap.push {cls:=.type "range",data:=.fields #[.int lo t,.int hi u,.int 1 v]},toks:=tk}:=I.kept λb o e=>uc1 _ e;refine⟨(s.heap.push {cls:=.type "range",data:=.fields #[.int lo t,.int hi u,.int 1 v]}).objs.size,[(s.heap.push {cls:=.type "range",data:=.fields #[.int lo t,.int hi u,.int 1 v]}).objs.size],_,_,H,rfl,
  I1.kept (t':=tk) λb o e=>uc1 _ e,O1 _ lo (hi-lo).toNat,?_,λb hb=>?_,q⟩
 .have e1:lo+((0:Nat):Int)*1=lo:=by simp
  have e2:(((hi-lo).toNat:Nat):Int)-((0:Nat):Int)=Builtin.Range.rangeSize lo hi 1:=by rw[rangeSize_one];split<;>lia
  show IsRangeIter _ _ (lo+((0:Nat):Int)*1) ((((hi-lo).toNat:Nat):Int)-((0:Nat):Int)) 1;rw[e1,e2];exact ud9 _ rfl
 .have e:b=(s.heap.push {cls:=.type "range",data:=.fields #[.int lo t,.int hi u,.int 1 v]}).objs.size:=by simpa using hb
  subst e;exact I1.fpOk (un2 _) (I1.hok.fresh (un2 _))
def Zq(ta:TA):TI:=λσ H R=>ta σ H λvs H1=>∃j:Int,vs=[.int j]/\-(2 ^ 62)<=j/\j<2 ^ 62/\R (Itr 0 j.toNat) H1
def Zr(ta:TA):TI:=λσ H R=>ta σ H λvs H1=>∃i j:Int,vs=[.int i,.int j]/\(-(2 ^ 62)<=i/\i<2 ^ 62/\-(2 ^ 62)<=j/\j<2 ^ 62)/\R (Itr i (j-i).toNat) H1
theorem QC{a:Expr}{ta:TA}{p pos:Pos}(hg:Gl X "range")(hm:X.mg "range" = none)(ha:PA X [a] ta)(hs:autoParam (starEach [a] X.env=[(false,eval a X.env)]) q3T):PI X tg (.Call (.Name "range" p) [a] [] pos) (Zq ta):=by
 intro ei s σ H R I h;refine Call_ (GZ I hg hm boot_range (ua3 (thn (ha pos ei s σ H _ I h) λus s1 z9=>?_) hs rfl));clear 5 z9 vs H1 I1 r1 q1;clear 5 q1 j e q1 q2 q;subst e
 cases r1 with
 |cons r rr=>
   cases rr
   clear 5 r t rfl;exact call_range_1 (Mn I1 ∅ ∅ q1 q2 (by simpa using q))
theorem QD{a b:Expr}{ta:TA}{p pos:Pos}(hg:Gl X "range")(hm:X.mg "range" = none)(ha:PA X [a,b] ta)(hs:autoParam (starEach [a,b] X.env=[(false,eval a X.env),(false,eval b X.env)]) q3T)(hs2:autoParam (starEach [b] X.env=[(false,eval b X.env)]) q3T) :
 PI X tg (.Call (.Name "range" p) [a,b] [] pos) (Zr ta):=by
 intro ei s σ H R I h;refine Call_ (GZ I hg hm boot_range (ua3 (thn (ha pos ei s σ H _ I h) λus s1 z9=>?_) (by rw[hs,hs2]) (by rw[hs2];rfl)));clear 5 z9 vs H1 I1 r1 q1;obtain⟨i,j,e,⟨q1,q2,q3,q4⟩,q⟩:=q1;subst e
 cases r1 with
 |cons r rr=>
   cases rr with
   |cons r' rr=>
     cases rr
     clear 5 r t rfl;clear 5 r' t' rfl;exact call_range_2 (Mn I1 q1 q2 q3 q4 q)
def Tt(wi:TI)(g:TG)(tb:TS):TS:=λD σ H=>wi σ H λJ H1=>∃W:Nat->Nat->St->Hp->Prop,(∃m,W 0 m σ H1)/\∀i m σ H,W i m σ H->
 (J.stop i H/\D.nx σ H)\/(J.go i H/\∃N:St->Hp->Prop,(∀σ' H',N σ' H'->∃m',m'<m/\W (i+1) m' σ' H')/\∀x H',J.yld i H x H'->g x σ H' λσ2 H2=>tb {D with nx:=N,ct:=N,bk:=D.nx} σ2 H2)
noncomputable def Hi(fp:List eR)(h:Heap):List (eR×Obj):=fp.filterMap λb=>(h.get? b).map λo=>(b,o)
theorem E4{o:Obj}(hb:b∈fp)(e:h.get? b=some o):(b,o)∈Hi fp h:=List.mem_filterMap.mpr ⟨b,hb,by rw[e];rfl⟩
theorem Qq{p:eR×Obj}(hp:p∈Hi fp h):p.1∈fp/\h.get? p.1=some p.2:=by
 clear 5(List.mem_filterMap.mp hp)b hb e
 cases q:h.get? b with
 |none=>rw[q] at e;cases e
 |some o=>
   rw[q] at e;have e':(b,o)=p:=ui5 e;subst e';exact⟨hb,q⟩
theorem Inv.pinned(I:Inv X ei σ H s)(hf:∀b∈fp,FpOk X ei H b)(ho:∀b∈fp,∃o,s.heap.get? b=some o/\∀v,o.data≠.cell v):Inv X (ei++Hi fp s.heap) σ H s:=
 I.pins_of λp hp=>(ui4.mp hp).elim (λz=>I.pin p (uc6 _ z)) λz=>by
  clear 5(Qq z)hb e;obtain⟨f0,f1,f2,_⟩:=hf p.1 hb;clear 5(ho p.1 hb)o e' d;rw[e] at e';cases e'
  exact⟨e,f0,f1,f2,d⟩
theorem Inv.unpinned{pl:List (eR×Obj)}(I:Inv X (ei++pl) σ H s):Inv X ei σ H s:=I.pins_of λp hp=>I.pin p (uc6 _ (ud4 _ hp))
theorem QG{iter:Expr}{body:List Stmt}{wi:TI}{g:TG}{tb:TS}{pos:Pos}(hp:PassesOwn (model X.prog X.w) X.A X.env X.xe)(hc:X.calm=true)(hi:PI X tg iter wi)(hg:PG X tg g)(hb:PSs X body tb)
 (hs:autoParam (∀x,foldedSetIterable iter X.env x=pure x) q2T):PS X (.For tg iter body [] pos) (Tt wi g tb):=by
 intro ei s σ H D I h;refine wpAny_For (thn (hi ei s σ H _ I h) λv s1 h1=>thn h1 λitv s2 h2=>?_) hs;obtain⟨it,fp,tn,J,H2,e,I2,T,st2,f2,W,⟨m0,w0⟩,turn⟩:=h2;subst e
 -- what stays true of the iterator's objects through the loop
 have stat:∀{H':Hp},(∀b∈fp,H' b=none)->∀b∈fp,FpOk X ei H' b:=λhn b hb=>⟨hn b hb,(f2 b hb).2⟩;refine codeAny_forLoop_any (λn s'=>∃i σ' H',Inv X ei σ' H' s'/\tn i s'.heap/\(∀b∈fp,H' b=none)/\W i n σ' H') ?_ m0 ⟨0,σ,H2,I2,st2,λb hb=>(f2 b hb).1,w0⟩;rintro n s3 ⟨i,σ3,H3,I3,st3,fr3,w3⟩;rcases turn i n σ3 H3 w3 with⟨stop,qn⟩|⟨go,N,hN,step⟩
 .refine fS hp (thn (T.done X rfl rfl rfl hc i ei s3 σ3 H3 X.xe I3 (stat fr3) st3 stop) λr s4 z9=>?_);clear 5 z9 hr I4;subst hr;exact fR ⟨σ3,H3,I4,qn⟩
 .refine fS hp (thn (T.item X rfl rfl rfl hc i ei s3 σ3 H3 X.xe I3 (stat fr3) st3 go) λr s4 z9=>?_);clear 5 z9 u hr h4;subst hr;refine fS hp (thn h4 λ_ s5 z9=>?_);clear 5 z9 x H5 I5 r5 y5 st5 fr5;have I5':=I5.pinned (stat fr5) (T.obj _ _ st5);refine fS hp (thn (hg _ s5 σ3 H5 x u _ I5' r5 (step x H5 y5)) λ_ s6 z9=>?_);clear 5 z9 σ6 H6 I6 q6;refine fS hp (thn (hb _ s6 σ6 H6 _ I6 q6) λf s7 q7=>?_);have again:∀{σ7:St}{H7:Hp},Inv X (ei++Hi fp s5.heap) σ7 H7 s7->N σ7 H7->∃m,m<n/\∃i σ' H',Inv X ei σ' H' s7/\tn i s7.heap/\(∀b∈fp,H' b=none)/\W i m σ' H':=λ{σ7 H7} I7 n7=>by
   clear 5(hN σ7 H7 n7)m' hm w7;refine⟨m',hm,i+1,σ7,H7,I7.unpinned,T.keep _ _ _ st5 λb hb o e=>(I7.pin (b,o) (uc6 _ (uc6 _ (E4 hb e)))).1,λb hb=>?_,w7⟩;clear 5(T.obj _ _ st5 b hb)o e d;exact(I7.pin (b,o) (uc6 _ (uc6 _ (E4 hb e)))).2.1
  cases f with
  |next=>clear 5 q7 σ7 H7 I7 n7;exact again I7 n7
  |cont=>clear 5 q7 σ7 H7 I7 n7;exact again I7 n7
  |brk=>clear 5 q7 σ7 H7 I7 q7;exact⟨σ7,H7,I7.unpinned,q7⟩
  |ret v=>clear 5 q7 x7 σ7 H7 I7 r7 q7;exact⟨x7,σ7,H7,I7.unpinned,r7,q7⟩
end
abbrev R2:=V->V->Hp->VK->Prop
def OpR(X:Cx)(f:eo->eo->Sem eo)(r:R2):Prop:=
 ∀(ei:List (eR×Obj)) (s:eS) (σ:St) (H:Hp) (x y:V) (v u:eo) (Q:VK),Inv X ei σ H s->RelV x v->RelV y u->r x y H Q->
  wpAny (model X.prog X.w) X.A (f v u) (EP X ei σ Q) X.xe s
def UnR(X:Cx)(f:eo->Sem eo)(r:V->Hp->VK->Prop):Prop:=
 ∀(ei:List (eR×Obj)) (s:eS) (σ:St) (H:Hp) (x:V) (v:eo) (Q:VK),Inv X ei σ H s->RelV x v->r x H Q->
  wpAny (model X.prog X.w) X.A (f v) (EP X ei σ Q) X.xe s
def B4(X:Cx)(f:eo)(r:List V->Hp->VK->Prop):Prop:=
 ∀(ei:List (eR×Obj)) (s:eS) (σ:St) (H:Hp) (xs:List V) (us:List eo) (Q:VK),Inv X ei σ H s->Vals xs us->r xs H Q->
  wpAny (model X.prog X.w) X.A (call f us) (EP X ei σ Q) X.xe s
def tOp(r:R2)(ta tb:TE):TE:=λσ H Q=>ta σ H λx H1=>tb σ H1 λy H2=>r x y H2 Q
def tUn(r:V->Hp->VK->Prop)(ta:TE):TE:=λσ H Q=>ta σ H λx H1=>r x H1 Q
def rI(C:Int->Int->Prop)(g:Int->Int->V):R2:=λx y H Q=>∃i j,x=.int i/\y=.int j/\C i j/\Q (g i j) H
def rI0(g:Int->Int->V):R2:=λx y H Q=>∃i j,x=.int i/\y=.int j/\Q (g i j) H
def rU(g:Int->V):V->Hp->VK->Prop:=λx H Q=>∃i,x=.int i/\Q (g i) H
variable{r:R2}{f:eo->eo->Sem eo}
section
variable{X:Cx}{a b c:Expr}{ta tb tc:TE}{pos:Pos}
theorem Ru(ha:PE X a ta)(hb:PE X b tb){ei:List (eR×Obj)}{s:eS}{σ:St}{H:Hp}{R:V->V->Hp->Prop}(I:Inv X ei σ H s)
 (h:ta σ H λx H1=>tb σ H1 λy H2=>R x y H2){Q:eo->eS->Prop}{f:eo->eo->Sem eo}
 (hf:∀v u s2 x y H2,Inv X ei σ H2 s2->RelV x v->RelV y u->R x y H2->wpAny (model X.prog X.w) X.A (f v u) Q X.xe s2) :
 wpAny (model X.prog X.w) X.A (eval a X.env) (λv s₁=>wpAny (model X.prog X.w) X.A (eval b X.env) (λu s₂=>wpAny (model X.prog X.w) X.A (f v u) Q X.xe s₂) X.xe s₁) X.xe s:=by
 refine thn (ha ei s σ H _ I h) λv s1 z9=>?_;clear 5 z9 x H1 I1 r1 q1;refine thn (hb ei s1 σ H1 _ I1 q1) λu s2 z9=>?_;clear 5 z9 y H2 I2 r2 q2;exact hf v u s2 x y H2 I2 r1 r2 q2
theorem OL{op:Operator}(ho:OpR X (binaryOp op) r)(ha:PE X a ta)(hb:PE X b tb):PE X (.BinOp a op b pos) (tOp r ta tb):=by
 intro ei s σ H Q I h;exact wpAny_BinOp (Ru ha hb I h λv u s2 x y H2 I2 rx ry q=>ho ei s2 σ H2 x y v u Q I2 rx ry q)
theorem ZA{op:UnaryOp}{r:V->Hp->VK->Prop}(ho:UnR X (unaryOp op) r)(ha:PE X a ta):PE X (.UnaryOp op a pos) (tUn r ta):=by
 intro ei s σ H Q I h;exact UnaryOp_ (thn (ha ei s σ H _ I h) λv s1 z9=>by clear 5 z9 x H1 I1 r1 q1;exact ho ei s1 σ H1 x v Q I1 r1 q1)
theorem opI{C:Int->Int->Prop}{g:Int->Int->Int}
 (rule:∀(i j:Int) (t u:Tok) (s:eS) (Q:eo->eS->Prop) (E:eo->eS->Prop),C i j->Q (.int (g i j) s.toks) {s with toks:=s.toks+1}->wpAny (model X.prog X.w) X.A (f (.int i t) (.int j u)) Q E s) :
 OpR X f (rI C λi j=>.int (g i j)):=by
 intro ei s σ H x y v u Q I rx ry h;clear 5 h i j rfl rfl hc q;clear 5 rx t rfl;clear 5 ry t' rfl;exact rule i j t t' s _ _ hc ⟨.int (g i j),H,I.tok _,⟨_,rfl⟩,q⟩
theorem X1{g:Int->Int->Int}
 (rule:∀(i j:Int) (t u:Tok) (s:eS) (Q:eo->eS->Prop) (E:eo->eS->Prop),Q (.int (g i j) s.toks) {s with toks:=s.toks+1}->wpAny (model X.prog X.w) X.A (f (.int i t) (.int j u)) Q E s) :
 OpR X f (rI0 λi j=>.int (g i j)):=by
 intro ei s σ H x y v u Q I rx ry h;clear 5 h i j rfl rfl q;clear 5 rx t rfl;clear 5 ry t' rfl;exact rule i j t t' s _ _ ⟨.int (g i j),H,I.tok _,⟨_,rfl⟩,q⟩
theorem OI{g:Int->Int->Bool}
 (rule:∀(i j:Int) (t u:Tok) (s:eS) (Q:eo->eS->Prop) (E:eo->eS->Prop),Q (.bool (g i j)) s->wpAny (model X.prog X.w) X.A (f (.int i t) (.int j u)) Q E s) :
 OpR X f (rI0 λi j=>.bl (g i j)):=by
 intro ei s σ H x y v u Q I rx ry h;clear 5 h i j rfl rfl q;clear 5 rx t rfl;clear 5 ry t' rfl;exact rule i j t t' s _ _ ⟨.bl (g i j),H,I,rfl,q⟩
def WG(i j:Int):Prop:=0<j/\j<1073741824
def WH(i j:Int):Prop:=0<=j/\j<=1000000/\i.natAbs<2 ^ 64
def CMul(i j:Int):Prop:=(-(2 ^ 64)<i/\i<2 ^ 64)\/(-(2 ^ 64)<j/\j<2 ^ 64)
theorem CMul.ok{i j:Int}(h:CMul i j):IntMulOk i j:=by
 rcases h with⟨h1,h2⟩|⟨h1,h2⟩
 .exact .of_left (intBits_le_64 h1 h2)
 .exact .of_right (intBits_le_64 h1 h2)
theorem two_pow_nn(k:Nat):(0:Int)<=2 ^ k:=by
 rw[two_pow_cast];exact Int.natCast_nonneg _
theorem op_add:OpR X (binaryOp .Add) (rI0 λi j=>.int (i+j)):=X1 λ_ _ _ _ _ _ _ q=>add_int q
theorem X7:OpR X (binaryOp .Sub) (rI0 λi j=>.int (i-j)):=X1 λ_ _ _ _ _ _ _ q=>sub_int q
theorem op_mul:OpR X (binaryOp .Mult) (rI CMul λi j=>.int (i*j)):=opI λ_ _ _ _ _ _ _ hc q=>mul_int q hc.ok
theorem Vr:OpR X (binaryOp .FloorDiv) (rI WG λi j=>.int (i/j)):=opI λi j _ _ _ _ _ hc q=>by
 have h1:(0:Int)<j:=hc.1;have h2:j<1073741824:=hc.2;exact floordiv_int ∅ (by rw[ua5 i ∅];exact q) (.inl (PyProof.noPylong_small ∅))
theorem X4:OpR X (binaryOp .Mod) (rI (λ_ j=>0<j) λi j=>.int (i%j)):=opI λi j _ _ _ _ _ hc q=>by
 have h1:(0:Int)<j:=hc;exact mod_int' ∅ (by rw[Int.fmod_eq_emod_of_nonneg i ∅];exact q)
theorem X5:OpR X (binaryOp .Pow) (rI WH λi j=>.int (i ^ j.toNat)):=opI λ_ _ _ _ _ _ _ hc q=>pow_int_small hc.1 hc.2.1 hc.2.2 q
theorem X6:OpR X (binaryOp .RShift) (rI (λ_ j=>0<=j) λi j=>.int (i/2 ^ j.toNat)):=opI λi j _ _ _ _ _ hc q=>
 rshift_int hc (by rw[ua5 i (two_pow_nn _)];exact q)
theorem unI{f:eo->Sem eo}{g:Int->Int}
 (rule:∀(i:Int) (t:Tok) (s:eS) (Q:eo->eS->Prop) (E:eo->eS->Prop),Q (.int (g i) s.toks) {s with toks:=s.toks+1}->wpAny (model X.prog X.w) X.A (f (.int i t)) Q E s) :
 UnR X f (rU λi=>.int (g i)):=by
 intro ei s σ H x v Q I rx h;clear 5 h i rfl q;clear 5 rx t rfl;exact rule i t s _ _ ⟨.int (g i),H,I.tok _,⟨_,rfl⟩,q⟩
theorem YU:UnR X (unaryOp .USub) (rU λi=>.int (-i)):=unI λ_ _ _ _ _ q=>neg_int q
end
variable{r':R2}{op:CmpOp}{us:List eo}
section
variable{X:Cx}{a b c:Expr}{ta tb tc:TE}{pos:Pos}
theorem op_lt:OpR X (compareOp .Lt) (rI0 λi j=>.bl (decide (i<j))):=OI λ_ _ _ _ _ _ _ q=>lt_int q
theorem op_le:OpR X (compareOp .LtE) (rI0 λi j=>.bl (decide (i<=j))):=OI λ_ _ _ _ _ _ _ q=>le_int q
theorem op_gt:OpR X (compareOp .Gt) (rI0 λi j=>.bl (decide (j<i))):=OI λ_ _ _ _ _ _ _ q=>gt_int q
theorem op_ge:OpR X (compareOp .GtE) (rI0 λi j=>.bl (decide (j<=i))):=OI λ_ _ _ _ _ _ _ q=>ge_int q
theorem OpR.or(h:OpR X f r)(h':OpR X f r'):OpR X f (λx y H Q=>r x y H Q\/r' x y H Q):=by
 intro ei s σ H x y v u Q I rx ry q;rcases q with q|q
 .exact h ei s σ H x y v u Q I rx ry q
 .exact h' ei s σ H x y v u Q I rx ry q
theorem Ce(b:Expr){op:CmpOp}(h:autoParam (op≠.In) q1T)(h2:autoParam (op≠.NotIn) q1T):behindInMarks op b=false:=by
 have e1:(op==CmpOp.In)=false:=by cases op<;>first|rfl|exact absurd rfl h
 have e2:(op==CmpOp.NotIn)=false:=by cases op<;>first|rfl|exact absurd rfl h2
 cases b<;>simp[behindInMarks,e1,e2]
theorem Vz(ho:OpR X (compareOp op) r)(ha:PE X a ta)(hb:PE X b tb)(hm:behindInMarks op b=false):PE X (.Compare a [op] [b] pos) (tOp r ta tb):=by
 intro ei s σ H Q I h;exact wpAny_Compare1 (Ru ha hb I h λv u s2 x y H2 I2 rx ry q=>ho ei s2 σ H2 x y v u Q I2 rx ry q) hm
def Ug(t:TE):TT:=λσ H Q=>t σ H λx H'=>∃k,x=.bl k/\Q k H'
theorem VP(ho:OpR X (compareOp op) r)(ha:PE X a ta)(hb:PE X b tb)(hm:behindInMarks op b=false):PT X (.Compare a [op] [b] pos) (Ug (tOp r ta tb)):=by
 intro ei s σ H Q I h;refine wpAny_isTrue_Compare1 (thn (ha ei s σ H _ I h) λv s1 ⟨x,H1,I1,r1,q1⟩=>thn (hb ei s1 σ H1 _ I1 q1) λu s2 ⟨y,H2,I2,r2,q2⟩=>
  thn (ho ei s2 σ H2 x y v u _ I2 r1 r2 q2) λc s3 ⟨z,H3,I3,r3,k,e,q3⟩=>?_) hm
 subst e
 cases r3
 exact fL ⟨H3,I3,q3⟩
def MG(r r':R2)(ta tb tc:TE):TE:=λσ H Q=>ta σ H λx H1=>tb σ H1 λy H2=>r x y H2 λz H3=>∃k,z=.bl k/\
 (if k=true then tc σ H3 λw' H4=>r' y w' H4 Q else Q (.bl false) H3)
theorem SI{op':CmpOp}(ho:OpR X (compareOp op) r)(ho':OpR X (compareOp op') r')(ha:PE X a ta)(hb:PE X b tb)(hc:PE X c tc)
 (hm:autoParam (lastMarks [op,op'] [b,c]=false) q4T):PE X (.Compare a [op,op'] [b,c] pos) (MG r r' ta tb tc):=by
 intro ei s σ H Q I h;refine Compare_chain (thn (ha ei s σ H _ I h) λv s1 ⟨x,H1,I1,r1,q1⟩=>chain_link (thn (hb ei s1 σ H1 _ I1 q1) λu s2 ⟨y,H2,I2,r2,q2⟩=>
  thn (ho ei s2 σ H2 x y v u _ I2 r1 r2 q2) λd s3 ⟨z,H3,I3,r3,k,e,q3⟩=>?_)) hm
 subst e
 cases r3
 refine fL ?_
 cases k with
 |false=>exact ite_ff ⟨.bl false,H3,I3,rfl,q3⟩
 |true=>exact ite_tt (chain_last (thn (hc ei s3 σ H3 _ I3 q3) λw' s4 z9=>by clear 5 z9 z' H4 I4 r4 q4;exact ho' ei s4 σ H4 y z' u w' Q I4 r2 r4 q4))
theorem SR{op':CmpOp}(ho:OpR X (compareOp op) r)(ho':OpR X (compareOp op') r')(ha:PE X a ta)(hb:PE X b tb)(hc:PE X c tc)
 (hm:autoParam (lastMarks [op,op'] [b,c]=false) q4T):PT X (.Compare a [op,op'] [b,c] pos) (Ug (MG r r' ta tb tc)):=by
 intro ei s σ H Q I h;refine isTrue_chain (thn (ha ei s σ H _ I h) λv s1 ⟨x,H1,I1,r1,q1⟩=>test_link (thn (hb ei s1 σ H1 _ I1 q1) λu s2 ⟨y,H2,I2,r2,q2⟩=>
  thn (ho ei s2 σ H2 x y v u _ I2 r1 r2 q2) λd s3 ⟨z,H3,I3,r3,k,e,q3⟩=>?_)) hm
 subst e
 cases r3
 refine fL ?_
 cases k with
 |false=>
   clear 5 q3 k' e' q'
   cases e'
   exact ite_ff ⟨H3,I3,q'⟩
 |true=>
   refine ite_tt (test_last (thn (hc ei s3 σ H3 _ I3 q3) λw' s4 ⟨z',H4,I4,r4,q4⟩=>thn (ho' ei s4 σ H4 y z' u w' _ I4 r2 r4 q4) λd' s5 z9=>?_));clear 5 z9 z2 H5 I5 r5 k2 e2 q5;subst e2
   cases r5
   exact fL ⟨H5,I5,q5⟩
theorem G8:(sizeLine:Nat)<2 ^ 63:=by rw[gj];decide
theorem op_add_str:OpR X (binaryOp .Add) (λx y H Q=>∃i j,x=.str i/\y=.str j/\i.length+j.length<=sizeLine/\Q (.str (i++j)) H):=by
 intro ei s σ H x y v u Q I rx ry h;clear 5 h i j rfl rfl hz q;clear 5 rx t rfl;clear 5 ry t' rfl;exact add_str (λt' tk=>⟨.str (i++j),H,I.tok _,⟨_,rfl⟩,q⟩) hz
theorem FO{x:V}(r:Vals [x] us):∃u,us=[u]/\RelV x u:=by
 cases r with
 |cons r1 r2=>cases r2;exact⟨_,rfl,r1⟩
theorem HR{x y:V}(r:Vals [x,y] us):∃u w',us=[u,w']/\RelV x u/\RelV y w':=by
 cases r with
 |cons r1 r2=>
   cases r2 with
   |cons r3 r4=>cases r4;exact⟨_,_,rfl,r1,r3⟩
theorem Pq(hc:X.calm=true):B4 X (.builtin "min") (λxs H Q=>∃i j,xs=[.int i,.int j]/\Q (.int (if j<i then j else i)) H):=by
 intro ei s σ H xs us Q I r h;clear 5 h i j rfl q;obtain⟨u,w',rfl,⟨t,rfl⟩,⟨t',rfl⟩⟩:=HR r;refine min_two_ints (I.ok.hd hc) λh' tk k=>⟨_,H,I.kept k,?_,q⟩
 by_cases hj:j<i
 .rw[gE hj,gE hj];exact⟨_,rfl⟩
 .rw[gG hj,gG hj];exact⟨_,rfl⟩
theorem Pn:B4 X (.type "int") (λxs H Q=>(∃i,xs=[.int i]/\Q (.int i) H)\/∃k,xs=[.bl k]/\Q (.int (if k then 1 else 0)) H):=by
 intro ei s σ H xs us Q I r h;rcases h with⟨i,rfl,q⟩|⟨k,rfl,q⟩
 .clear 5(FO r)u rfl t rfl;exact call_int_int ⟨.int i,H,I,⟨_,rfl⟩,q⟩
 .obtain⟨u,rfl,r1⟩:=FO r
  cases r1
  exact call_int_bool ⟨.int (if k then 1 else 0),H,I.tok _,⟨_,rfl⟩,q⟩
theorem Rz:B4 X (.builtin "ord") (λxs H Q=>∃x,xs=[.str x]/\x.length=1/\Q (.int (x.cps.getD 0 0:Nat)) H):=by
 intro ei s σ H xs us Q I r h;clear 5 h x rfl hz q;clear 5(FO r)u rfl t rfl;exact ord_of_one hz ⟨.int _,H,I.tok _,⟨_,rfl⟩,q⟩
def WK(K:eh)(x:V)(H:Hp)(n:Nat):Prop:=
 match x with
 |.str y=>y.length<=sizeLine/\n=y.length
 |.byt y=>y.size<=sizeLine/\n=y.size
 |.ref p=>(∃xs,SqL K H p xs/\n=xs.length)\/∃xs,SqT K H p xs/\n=xs.length
 |_=>False
theorem Ry:B4 X (.builtin "len") (λxs H Q=>∃x n,xs=[x]/\WK X.K x H n/\Q (.int n) H):=by
 intro ei s σ H xs us Q I r h;clear 5 h x n rfl e q;clear 5(FO r)u rfl rx;have hl:=G8;have hs:sizeLine=16777216:=gj
 cases x with
 |str y=>
   clear 5 rx t rfl;obtain⟨hy,e'⟩:y.length<=sizeLine/\n=y.length:=e;subst e';exact len_str ∅ ⟨.int _,H,I.tok _,⟨_,rfl⟩,q⟩
 |byt y=>
   clear 5 rx t rfl;obtain⟨hy,e'⟩:y.size<=sizeLine/\n=y.size:=e;subst e';exact PySem.W.len_bytes ∅ ⟨.int _,H,I.tok _,⟨_,rfl⟩,q⟩
 |ref p=>
   cases rx
   have e':(∃xs,SqL X.K H p xs/\n=xs.length)\/∃xs,SqT X.K H p xs/\n=xs.length:=e;rcases e' with⟨xs,hx,e'⟩|⟨xs,hx,e'⟩
   .subst e';clear 5(I.list hx)its r' pl hz;have hlen:=r'.length;exact Calls.call_len_list pl.isList (by simp only[uf5];lia) ⟨.int xs.length,H,I.tok _,⟨_,by simp only[uf5];rw[hlen]⟩,q⟩
   .subst e';clear 5(I.tuple hx)its r' pl hz;have hlen:=r'.length;exact len_tuple pl (by simp only[uf5];lia) ⟨.int xs.length,H,I.tok _,⟨_,by simp only[uf5];rw[hlen]⟩,q⟩
 |_=>exact(show False from e).elim
end
structure ObjM(h:Heap)(x dx C:eR)(mA:Str->Option eo):Prop where
 obj:h.get? x=some (PySem.W.instObj C dx)
 ns:h.Ns1 dx mA
 ne:dx≠x
set_option tactic.hygienic true in
theorem FL{dx:eR}{mA:Str->Option eo}(n:h.Ns1 dx mA):∃od,h.get? dx=some od/\∀name,PySem.W.lookIn name od=some (mA name):=by
 obtain⟨o,es,ep,ho,hd,hk,_,hm⟩:=n;refine⟨o,ho,λname=>?_⟩;have e:=hm name;unfold nsFind findBy at e;rw[<-ue6] at e;unfold PySem.W.lookIn;rw[hd];dsimp only
 split
 .rename_i y q;rw[q] at e;exact gu some e
 .rename_i q;rw[q] at e;have a:es.toList.any (·.refKey)=false:=by
   rw[List.any_eq_false];intro y hy;clear 5(hk y (Array.mem_toList_iff.mp hy))z t hkey;simp[DictEntry.refKey,hkey]
  have a':¬es.toList.any (·.refKey)=true:=by rw[a];exact ue5
  rw[gG a'];exact gu some e
variable{C:eR}
theorem ObjM.look{x dx:eR}{mA:Str->Option eo}(I:ObjM h x dx C mA):∃od,PySem.W.InstAt h x (PySem.W.instObj C dx) C (some od)/\∀name,PySem.W.lookIn name od=some (mA name):=
 let ⟨od,ho,hl⟩:=FL I.ns
 ⟨od,⟨I.obj,rfl,rfl,ho⟩,hl⟩
variable{pl:Sem Bool}{kw:List (Str×eo)}
section
variable{prog:eT}{w:eU}{A:Around}{E:eo->eS->Prop}{s:eS}{K:eh}{x dx C f:eR}{mA:Str->Option eo}{name:Str}{v:eo}
theorem UY{expr:Bool}{Q:eo->eS->Prop}(X:K.In s.heap)(I:ObjM s.heap x dx C mA)(hg:PySem.W.plainGet K C name=true)(hh:PySem.W.hasDictIn K C=true)
 (ha:PySem.W.findIn K (.ref C) name=some none) (hv:mA name=some v) (hv':PySem.W.handedIn v=true) (h:Q v {s with toks:=s.toks+1}) :
 wpAny (model prog w) A (getAttr (.ref x) name expr) Q E s:=by
 clear 5 I.look od J hl;exact PySem.W.get_value X J (ue0 hg).1 (PySem.W.findObj_own hh ha rfl (by rw[hl,hv])) hv' h
theorem Sd{Q:eo×List eo->eS->Prop}(X:K.In s.heap)(I:ObjM s.heap x dx C mA)(hg:PySem.W.plainGet K C name=true)
 (hf:PySem.W.findIn K (.ref C) name=some (some (.ref f))) (ht:PySem.W.isFn K (.ref f)=true) (hv:mA name=none) (h:Q (.ref f,[.ref x]) s) :
 wpAny (model prog w) A (getMethod (.ref x) name pl) Q E s:=by
 clear 5 I.look od J hl;exact PySem.W.method_fn X J (ue0 hg).1 (ue0 hg).2 hf (gl.mp ht) (by show(PySem.W.lookIn name od).map (·.isSome)=some false;rw[hl,hv];rfl) h
theorem Wg{ns:List Str}(X:K.In s.heap)(I:ObjM s.heap x dx C mA)
 (hs:PySem.W.findIn K (.ref C) "__setattr__" = some (some (.builtin "object.__setattr__"))) (hp:PySem.W.plainOver K C=true) (ht:PySem.W.takerIn K C name=some none) (hh:PySem.W.hasDictIn K C=true)
 (hw:PySem.Within mA ns) (hsz:ns.length<=sizeLine)
 (h:∀h',ObjM h' x dx C (λy=>if y=name then some v else mA y)->Heap.SameBut dx s.heap h'->Q () {s with heap:=h',toks:=s.toks+2}) :
 wpAny (model prog w) A (setAttr (.ref x) name v) Q E s:=by
 clear 5 I.look od J hl;refine PySem.W.set_plain X J hs (PySem.W.osa_open (s:={s with toks:=s.toks+1}) (r:=none) X J hp ht λb=>?_);clear 5(PySem.W.any_some hh)cd hc hd';have hx:s.heap.get? x=some ⟨.ref C,some dx,.plain,#[]⟩:=I.obj;refine un6 (un7 (un6 (un6 (fU hx (un6 (PySem.W.Looks.here (s:={s with toks:=s.toks+1}) (PySem.W.looks_clsIn X hc) ?_))))));rw[hd'];refine un7 (a:=some dx) (un6 (un7 (un6 ?_)));refine wpAny_nsSet1 (s:={s with toks:=s.toks+1}) I.ns λh' hn2 hs2=>?_;clear 5(hn2.count (fM name v hw))oD esD epD hoD hdD hcD;refine un6 (fP hoD (by rw[hdD];exact fQ (um0 hcD (by rw[ug9];lia))) ?_);exact un7 (h _ ⟨(hs2.2 _ (Ne.symm I.ne)).trans I.obj,hn2,I.ne⟩ hs2)
theorem Sv{R:Result->eS->Prop}{vs:List eo}(X:K.In s.heap)(hm:PySem.W.makesIn K C=true)
 (hi:PySem.W.findIn K (.ref C) "__init__" = some (some (.ref f))) (hf:PySem.W.typeIn K (.ref f)=some (.type "function"))
 (h:codeAny (model prog w) (A.under (.builtin "type.__call__" ⟨.ref C :: vs,kw⟩)) (.call (.ref f) ⟨.ref (s.heap.objs.size + 1) :: vs,kw⟩) (PySem.W.InitBack (s.heap.objs.size + 1) R)
   {s with heap:=(s.heap.push PySem.W.emptyDict).push (PySem.W.instObj C s.heap.objs.size)}) :
 codeAny (model prog w) A (.call (.ref C) ⟨vs,kw⟩) R s:=by
 clear 5 s hh g d t os;exact PySem.W.make_core (PySem.W.makes_of X hm) (PySem.W.looks_findIn X hi) (λself=>PySem.W.bind_fn X self hf) (.inl rfl) h
end
noncomputable def CI(f:Str)(v:V):List (Str×V)->List (Str×V)
 |[]=>[(f,v)]
 |(g,x)::r=>if g=f then(g,v)::r else(g,x)::CI f v r
theorem HY(f g:Str)(v:V):∀fs:List (Str×V),(CI f v fs).lookup g=if g=f then some v else fs.lookup g
 |[]=>by
   show List.lookup g [(f,v)]=_
   by_cases h:g=f
   .have hb:(g==f)=true:=gl.mpr h;simp only[List.lookup,hb,gE h]
   .have hb:(g==f)=false:=fE.mpr h;simp only[List.lookup,hb,gG h]
 |(k,x)::r=>by
   have ih:=HY f g v r;rw[show CI f v ((k,x)::r)=(if k=f then(k,v)::r else(k,x)::CI f v r) from rfl]
   by_cases hk:k=f
   .rw[gE hk]
    by_cases h:g=k
    .have hb:(g==k)=true:=gl.mpr h;simp only[List.lookup,hb,gE (h.trans hk)]
    .have hb:(g==k)=false:=fE.mpr h;simp only[List.lookup,hb,gG (λe:g=f=>h (e.trans hk.symm))]
   .rw[gG hk]
    by_cases h:g=k
    .have hb:(g==k)=true:=gl.mpr h;simp only[List.lookup,hb,gG (λe:g=f=>hk (h.symm.trans e))]
    .have hb:(g==k)=false:=fE.mpr h;simp only[List.lookup,hb];exact ih
theorem GY(f:Str)(v:V):∀fs:List (Str×V),f∈(CI f v fs).map (·.1)/\∀g,g∈fs.map (·.1)->g∈(CI f v fs).map (·.1)
 |[]=>⟨by simp[CI],λg h=>by simp at h⟩
 |(k,x)::r=>by
   clear 5(GY f v r)i1 i2;rw[show CI f v ((k,x)::r)=(if k=f then(k,v)::r else(k,x)::CI f v r) from rfl]
   by_cases hk:k=f
   .rw[gE hk];subst hk;exact⟨by simp,λg h=>by simpa using h⟩
   .rw[gG hk];refine⟨?_,λg h=>?_⟩
    .rw[uk9];exact ud3 _ i1
    .rw[uk9] at h⊢;rcases uk8.mp h with e|e
     .exact uk8.mpr (.inl e)
     .exact ud3 _ (i2 g e)
theorem HV(f:Str)(v:V):∀fs:List (Str×V),(CI f v fs).length<=fs.length+1
 |[]=>by simp[CI]
 |(k,x)::r=>by
   have ih:=HV f v r;rw[show CI f v ((k,x)::r)=(if k=f then(k,v)::r else(k,x)::CI f v r) from rfl]
   by_cases hk:k=f
   .rw[gE hk,ug9,ug9];lia
   .rw[gG hk,ug9,ug9];lia
theorem RelO.some_of{o:Option eo}(r:RelO (some v) o):∃u,o=some u/\RelV v u:=by
 cases o with
 |none=>exact(show False from r).elim
 |some u=>exact⟨u,rfl,r⟩
theorem RelO.none_of{o:Option eo}(r:RelO none o):o=none:=by
 cases o with
 |none=>rfl
 |some u=>exact(show False from r).elim
theorem Kv(r:RelV v u):PySem.W.handedIn u=true:=by
 cases v with
 |non=>cases (show u=Value.none from r);rfl
 |bl b=>cases (show u=Value.bool b from r);rfl
 |int i=>clear 5((show ∃t,u=Value.int i t from r))t e;cases e;rfl
 |str x=>clear 5((show ∃t,u=Value.str x t from r))t e;cases e;rfl
 |byt b=>clear 5((show ∃t,u=Value.bytes b t from r))t e;cases e;rfl
 |flt b=>clear 5((show ∃t,u=Value.float b t from r))t e;cases e;rfl
 |ref a=>cases (show u=Value.ref a from r);rfl
 |ty n=>cases (show u=Value.type n from r);rfl
section
variable{P:eT}{w:eU}{H H':Hp}{h h':Heap}{a C dx:eR}{fs fs':List (Str×V)}
theorem HB(hok:HOk P w H h)(e:H a=some (.ins C dx fs)):∃mA,ObjM h a dx C mA/\(∀f,RelO (fs.lookup f) (mA f))/\PySem.Within mA (fs.map (·.1))/\fs.length<=1000/\H dx=some (.own a):=by
 clear 5((show ObjOk P w H h a (.ins C dx fs) from hok a _ e))d z ne ob mA n r q;exact⟨mA,⟨ob,n,ne⟩,r,q,z,d⟩
end
structure Cls(K:eh)(C:eR):Prop where
 pg:PySem.W.plainGet K C Str.empty=true
 hd:PySem.W.hasDictIn K C=true
 po:PySem.W.plainOver K C=true
 sa:PySem.W.findIn K (.ref C) "__setattr__" = some (some (.builtin "object.__setattr__"))
theorem Cls.get{K:eh}{C:eR}(c:Cls K C)(f:Str):PySem.W.plainGet K C f=true:=c.pg
def NoAttr(K:eh)(C:eR)(f:Str):Prop:=PySem.W.findIn K (.ref C) f=some none
theorem NoAttr.taker{f:Str}(n:NoAttr K C f):PySem.W.takerIn K C f=some none:=by
 unfold PySem.W.takerIn;rw[show PySem.W.findIn K (.ref C) f=some none from n];rfl
structure Con(K:eh)(C:eR)(f:Str)(v:V)(u:eo):Prop where
 at_:PySem.W.findIn K (.ref C) f=some (some u)
 rel:RelV v u
 get:PySem.W.specialIn K u "__get__" = some none
 cp:PySem.W.copiedNames.contains f=false
structure Meth(K:eh)(C:eR)(m:Str)(f:eR):Prop where
 at_:PySem.W.findIn K (.ref C) m=some (some (.ref f))
 fn:PySem.W.isFn K (.ref f)=true
 kp:PySem.W.keepIn K (.ref f)=true
section
variable{X:Cx}{ei:List (eR×Obj)}{σ:St}{H:Hp}{s:eS}{a C dx:eR}{fs:List (Str×V)}{f:Str}{v:V}{A:Around}{E:eo->eS->Prop}
theorem Op{b:Bool}{Q:eo->eS->Prop}(I:Inv X ei σ H s)(e:H a=some (.ins C dx fs))(c:Cls X.K C)(n:NoAttr X.K C f)(l:fs.lookup f=some v)
 (h:∀u s',Inv X ei σ H s'->RelV v u->Q u s'):wpAny (model X.prog X.w) A (getAttr (.ref a) f b) Q E s:=by
 obtain⟨mA,O,r,_,_,_⟩:=HB I.hok e;clear 5(RelO.some_of (v:=v) (o:=mA f) (by rw[<-l];exact r f))u hu ru;exact UY I.kIn O (c.get f) c.hd n hu (Kv ru) (h u _ (I.tok _) ru)
theorem Jb{m:Str}{g:eR}{Q:eo×List eo->eS->Prop}(I:Inv X ei σ H s)(e:H a=some (.ins C dx fs))(c:Cls X.K C)(k:Meth X.K C m g)(l:fs.lookup m=none)
 (h:Q (.ref g,[.ref a]) s):wpAny (model X.prog X.w) A (getMethod (.ref a) m pl) Q E s:=by
 obtain⟨mA,O,r,_,_,_⟩:=HB I.hok e;have hn:mA m=none:=RelO.none_of (by rw[<-l];exact r m);exact Sd I.kIn O (c.get m) k.at_ k.fn hn h
theorem OX{y:V}(I:Inv X ei σ H s)(e:H a=some (.ins C dx fs))(c:Cls X.K C)(n:NoAttr X.K C f)(hl:fs.length<1000)(ry:RelV y u)
 (h:∀s',Inv X ei σ (upd H a (.ins C dx (CI f y fs))) s'->Q () s'):wpAny (model X.prog X.w) A (setAttr (.ref a) f u) Q E s:=by
 obtain⟨mA,O,r,wi,_,ho⟩:=HB I.hok e;have hz:(fs.map (·.1)).length<=sizeLine:=by rw[ui6,gj];lia
 refine Wg I.kIn O c.sa c.po n.taker c.hd wi hz λh' O' sb=>h _ ?_;have hd:∃o,h'.get? dx=some o:=let ⟨o,_,_,e',_⟩:=O'.ns;⟨o,e'⟩;refine I.write (x:=a) (e:=dx) (by rw[e];exact True.intro) (.inr ho) (λb q hb z=>(sb.2 b hb).trans z) hd ?_;refine⟨by rw[Ai O.ne];exact ho,?_,O.ne,O'.obj,_,O'.ns,λg=>?_,λg hg=>?_⟩
 .have:=HV f y fs;lia
 .show RelO ((CI f y fs).lookup g) (if g=f then some u else mA g);rw[HY]
  by_cases q:g=f
  .rw[gE q,gE q];exact ry
  .rw[gG q,gG q];exact r g
 .by_cases q:g=f
  .rw[q];exact(GY f y fs).1
  .refine(GY f y fs).2 g (wi g λz=>hg ?_);show(if g=f then some u else mA g)=none;rw[gG q];exact z
theorem Inv.made(I:Inv X ei σ H s):Inv X ei σ (upd (upd H s.heap.objs.size (.own (s.heap.objs.size+1))) (s.heap.objs.size+1) (.ins C s.heap.objs.size []))
 {s with heap:=(s.heap.push PySem.W.emptyDict).push (PySem.W.instObj C s.heap.objs.size)}:=by
 have e1:(s.heap.push PySem.W.emptyDict).get? s.heap.objs.size=some PySem.W.emptyDict:=ud9 s.heap rfl;have e2:((s.heap.push PySem.W.emptyDict).push (PySem.W.instObj C s.heap.objs.size)).get? (s.heap.objs.size+1)=some (PySem.W.instObj C s.heap.objs.size):=by
  have:=ud9 (s.heap.push PySem.W.emptyDict) (o:=PySem.W.instObj C s.heap.objs.size) rfl
  rwa [fV] at this
 have e3:(s.heap.push PySem.W.emptyDict).Ns s.heap.objs.size (λ_=>none):=⟨PySem.W.emptyDict,#[],_,e1,rfl,(λe he=>absurd he (by simp)),λ_=>rfl⟩;have I1:=I.laid (a:=s.heap.objs.size) (o:=.own (s.heap.objs.size+1)) (h':=s.heap.push PySem.W.emptyDict) (t':=s.toks) (λb u q=>uc1 _ q) (un2 _) ⟨_,e1⟩;refine I1.laid (a:=s.heap.objs.size+1) (o:=.ins C s.heap.objs.size []) (t':=s.toks) (λb u q=>uc1 _ q) (um3 (fV _ _)) ?_;have ne:s.heap.objs.size≠s.heap.objs.size+1:=ul9 (uh0 _);refine⟨by rw[Ai ne,Am],un3 _,ne,e2,λ_=>none,(Heap.Ns1.of_empty e3).at λo q=>uc1 _ q,λ_=>True.intro,λy hy=>absurd rfl hy⟩
theorem MY{prog:eT}{env:Env}{f:Str}{pos:Pos}{s:eS}{Q:eo->eS->Prop}(hb:attributeBase e f env (eval e env)=eval e env)
 (h:wpAny (model prog w) A (eval e env) (λo s₁=>wpAny (model prog w) A (getAttr o f true) Q E s₁) E s):wpAny (model prog w) A (eval (.Attribute e f pos) env) Q E s:=
 Attribute_any_ h (by rw[arm_eval_Attribute,hb])
end
def bz(K:eh)(ta:TE)(f:Str):TE:=λσ H Q=>ta σ H λx H1=>∃a C dx fs v,x=.ref a/\H1 a=some (.ins C dx fs)/\Cls K C/\NoAttr K C f/\fs.lookup f=some v/\Q v H1
def bv(K:eh)(ta tv:TE)(f:Str):TS:=λD σ H=>tv σ H λy H1=>ta σ H1 λx H2=>∃a C dx fs,x=.ref a/\H2 a=some (.ins C dx fs)/\Cls K C/\NoAttr K C f/\fs.length<1000/\
 D.nx σ (upd H2 a (.ins C dx (CI f y fs)))
section
variable{X:Cx}{o e value:Expr}{f:Str}{pos pos' tpos:Pos}{ta tv:TE}
theorem Yb(he:PE X e ta)(hb:attributeBase e f X.env (eval e X.env)=eval e X.env):PE X (.Attribute e f pos) (bz X.K ta f):=by
 intro ei s σ H Q I h;refine MY hb (thn (he ei s σ H _ I h) λu s1 z9=>?_);clear 5 z9 x H1 I1 rx a C dx fs v ex ea c n l q;subst ex;obtain rfl:u=Value.ref a:=rx;exact Op I1 ea c n l λu' s2 I2 ru=>⟨v,H1,I2,ru,q⟩
theorem Yj(ha:PE X o ta)(hv:PE X value tv)(hs:swapsWith value (some (.Attribute o f pos')) pos.line X.env=pure false):PS X (.Assign [.Attribute o f pos'] value pos) (bv X.K ta tv f):=by
 intro ei s σ H D I h;refine eW (thn (hv ei s σ H _ I h) λu s1 ⟨y,H1,I1,ry,q⟩=>thn (ha ei s1 σ H1 _ I1 q) λov s2 z9=>?_) hs;clear 5 z9 x H2 I2 rx a C dx fs ex ea c n l q2;subst ex;obtain rfl:ov=Value.ref a:=rx;exact OX I2 ea c n l ry λs3 I3=>⟨σ,_,I3,q2⟩
end
section
variable{X:Cx}{ei:List (eR×Obj)}{σ:St}{H:Hp}{s:eS}{A:Around}{E:eo->eS->Prop}{Q:eo->eS->Prop}{c:eo}{b:Bool}
inductive TyOf(K:eh)(H:Hp):V->eo->Prop where
 |non:TyOf K H .non (.type "NoneType")
 |bl (x:Bool):TyOf K H (.bl x) (.type "bool")
 |int (i:Int):TyOf K H (.int i) (.type "int")
 |str (x:Str):TyOf K H (.str x) (.type "str")
 |flt (x:UInt64):TyOf K H (.flt x) (.type "float")
 |lst {a:eR}{xs:List V} (e:H a=some (.lst xs)):TyOf K H (.ref a) (.type "list")
 |frz {a:eR}{o:Obj}{xs:List V} (e:H a=some (.frz o (.lst xs))):TyOf K H (.ref a) (.type "list")
 |tup {a:eR}{xs:List V} (e:H a=some (.tup xs)):TyOf K H (.ref a) (.type "tuple")
 |dK {a:eR}{kvs:List (Key×V)} (e:H a=some (.dK kvs)):TyOf K H (.ref a) (.type "dict")
 |dT {a:eR}{kvs:List (List Key×V)} (e:H a=some (.dT kvs)):TyOf K H (.ref a) (.type "dict")
 | ins {a C dx:eR} {fs:List (Str×V)} (e:H a=some (.ins C dx fs)) (cl:Cls K C) (ha:PySem.W.findIn K (.ref C) "__class__" = some (some (.builtin "object.__class__")))
    (hn:PySem.W.specialIn K (.builtin "object.__class__") "__get__" = some (some (.builtin "getset_descriptor.__get__"))) (htk:PySem.W.takesIn K (.builtin "object.__class__")=some true)
    (hm:PySem.W.mroIn K C (.type "object")=some true):TyOf K H (.ref a) (.ref C)
theorem Kx{x:V}{t:eo}(I:Inv X ei σ H s)(rx:RelV x u)(ty:TyOf X.K H x t)(e:PySem.W.kitOne X.K t c=some b)(h:∀tk,Q (.bool b) {s with toks:=tk}) :
 wpAny (model X.prog X.w) A (call (.builtin "isinstance") [u,c]) Q E s:=by
 cases ty with
 |non=>cases (show u=Value.none from rx);exact ui7 PySem.W.kitx_none I.kIn True.intro e (λz=>nomatch z) h
 |bl y=>cases (show u=Value.bool y from rx);exact ui7 PySem.W.kitx_bool I.kIn True.intro e (λz=>nomatch z) h
 |int i=>clear 5((show ∃t,u=Value.int i t from rx))t q;cases q;exact ui7 PySem.W.kitx_int I.kIn True.intro e (λz=>nomatch z) h
 |str y=>clear 5((show ∃t,u=Value.str y t from rx))t q;cases q;exact ui7 PySem.W.kitx_str I.kIn True.intro e (λz=>nomatch z) h
 |flt y=>clear 5((show ∃t,u=Value.float y t from rx))t q;cases q;exact ui7 PySem.W.kitx_float I.kIn True.intro e (λz=>nomatch z) h
 |@lst a xs ea=>
   cases (show u=Value.ref a from rx)
   obtain⟨_,_,n,_,h1⟩:=(show ObjOk X.prog X.w H s.heap a (.lst xs) from I.hok a _ ea);exact ui7 uf6 I.kIn ⟨_,h1,rfl⟩ e (λz=>nomatch z) h
 |@frz a ob xs ea=>
   cases (show u=Value.ref a from rx)
   obtain⟨_,_,_,n,_,h1⟩:=(show ObjOk X.prog X.w H s.heap a (.frz ob (.lst xs)) from I.hok a _ ea);exact ui7 uf6 I.kIn ⟨_,h1,rfl⟩ e (λz=>nomatch z) h
 |@tup a xs ea=>
   cases (show u=Value.ref a from rx)
   obtain⟨_,_,_,p⟩:=(show ObjOk X.prog X.w H s.heap a (.tup xs) from I.hok a _ ea);obtain⟨o,h1,h2,_⟩:=p;exact ui7 PySem.W.kitx_tuple I.kIn ⟨o,h1,h2⟩ e (λz=>nomatch z) h
 |@dK a kvs ea=>
   cases (show u=Value.ref a from rx)
   obtain⟨_,_,vs,_,p⟩:=(show ObjOk X.prog X.w H s.heap a (.dK kvs) from I.hok a _ ea);obtain⟨o,es,ep,h1,h2,_⟩:=p;exact ui7 uf7 I.kIn ⟨o,h1,h2.1⟩ e (λz=>nomatch z) h
 |@dT a kvs ea=>
   cases (show u=Value.ref a from rx)
   obtain⟨_,_,xs,_,o,es,ep,h1,h2,_⟩:=(show ObjOk X.prog X.w H s.heap a (.dT kvs) from I.hok a _ ea);exact ui7 uf7 I.kIn ⟨o,h1,h2.1⟩ e (λz=>nomatch z) h
 |@ins a C dx fs ea cl ha hn htk hm=>
   cases (show u=Value.ref a from rx)
   obtain⟨mA,O,_⟩:=HB I.hok ea;obtain⟨od,J,_⟩:=O.look;exact ui7 (PySem.W.kitx_own (cl.get _) cl.hd ha hn htk hm) I.kIn J e (λz=>nomatch z) h
end
structure Room(k:Nat)(A:Around):Prop where
 hd:A.handled=none
 dp:A.depth+3*k+5<recursionLimit
 un:A.units+16*k+200<cLine
theorem Room.mono{j k:Nat}{A:Around}(r:Room k A)(h:j<=k):Room j A:=⟨r.hd,by have:=r.dp;lia,by have:=r.un;lia⟩
theorem Room.deeper{k:Nat}{A:Around}(r:Room (k+1) A)(env:Env):Room k (A.deeper env):=
 ⟨r.hd,by have:=r.dp;show A.depth+1+3*k+5<_;lia,by have:=r.un;show A.units+3+16*k+200<_;lia⟩
theorem Oz{A:Around}:(A.under (.builtin "type.__call__" ⟨.ref C::us,kw⟩)).depth=A.depth+1:=by
 first|rfl|simp[Around.under,Code.weight,Code.isCreation,Code.isGuard,Code.isCaller,Code.frames,Code.isFrame,guardIds]
theorem OA{A:Around}:(A.under (.builtin "type.__call__" ⟨.ref C::us,kw⟩)).units=A.units+1:=by
 first|rfl|simp[Around.under,Code.cUnits,Code.frames,Code.isFrame]
theorem Room.make{k:Nat}{A:Around}(r:Room (k+1) A)(C:eR)(us:List eo)(kw:List (Str×eo)):Room k (A.under (.builtin "type.__call__" ⟨.ref C::us,kw⟩)):=
 ⟨r.hd,by have:=r.dp;rw[Oz];lia,by have:=r.un;rw[OA];lia⟩
theorem Room.depth{k:Nat}{A:Around}(r:Room k A):A.depth<recursionLimit:=by have:=r.dp;lia
theorem Room.units{k:Nat}{A:Around}(r:Room k A):A.units+64<cLine:=by have:=r.un;lia
def YQ:TA:=λ_ H Q=>Q [] H
def O0(ta:TE)(tr:TA):TA:=λσ H Q=>ta σ H λx H1=>tr σ H1 λxs H2=>Q (x::xs) H2
section
variable{X:Cx}{e:Expr}{es:List Expr}{te:TE}{t:TA}{pos:Pos}
theorem Hg:PA X [] YQ:=λ_ _ _ _ H Q I h=>Calls.spliced_nil ⟨[],H,I,.nil,h⟩
theorem D4(ha:PE X e te)(hr:PA X es t)(hs:autoParam (starEach (e::es) X.env=(false,eval e X.env)::starEach es X.env) q3T):PA X (e::es) (O0 te t):=by
 intro pos ei s σ H Q I h;rw[hs];show wpAny _ _ (spliced ((false,eval e X.env)::backTo pos (starEach es X.env))) _ _ s;refine Calls.spliced_cons (thn (ha ei s σ H _ I h) λu s1 z9=>?_);clear 5 z9 x H1 I1 r1 q1;exact thn (hr pos ei s1 σ H1 _ I1 q1) λus s2 ⟨xs,H2,I2,r2,q2⟩=>⟨x::xs,H2,I2,.cons r1 r2,q2⟩
def bJ(t:TA):TE:=λσ H Q=>t σ H λxs H1=>xs.length<=sizeLine/\∀p,H1 p=none->Q (.ref p) (upd H1 p (.tup xs))
def bE(t:TA):TE:=λσ H Q=>t σ H λxs H1=>xs.length<=sizeLine/\∀p,H1 p=none->Q (.ref p) (upd H1 p (.lst xs))
theorem QA{x1}(h:PA X es t):PE X (.Tuple es x1 pos) (bJ t):=by
 intro ei s σ H Q I hq;refine wpAny_Tuple_spliced (thn (h pos ei s σ H _ I hq) λus s1 z9=>?_);clear 5 z9 xs H1 I1 r z q;refine⟨by rw[<-r.length];exact z,?_⟩;have hf:H1 s1.heap.objs.size=none:=I1.hok.fresh (un2 _);refine⟨.ref s1.heap.objs.size,upd H1 s1.heap.objs.size (.tup xs),I1.laid (t':=s1.toks) (λb u e=>uc1 _ e) (un2 _) ?_,rfl,q _ hf⟩;exact⟨z,us,r,⟨_,ud9 _ rfl,rfl,_,rfl⟩⟩
theorem Yd(h:PA X es t):PE X (.List es pos) (bE t):=by
 intro ei s σ H Q I hq;refine wpAny_List_spliced (thn (h pos ei s σ H _ I hq) λus s1 z9=>?_);clear 5 z9 xs H1 I1 r z q;refine⟨by rw[<-r.length];exact z,?_⟩;have hf:H1 s1.heap.objs.size=none:=I1.hok.fresh (un2 _);refine⟨.ref s1.heap.objs.size,upd H1 s1.heap.objs.size (.lst xs),I1.laid (t':=s1.toks) (λb u e=>uc1 _ e) (un2 _) ?_,rfl,q _ hf⟩;exact⟨z,us,0,r,ud9 _ rfl⟩
end
abbrev Sp:=List V->Hp->VK->XK->Prop
abbrev CXT:=List Env->Hp->eS->XK->eo->eS->Prop
structure Env0(P:eT)(w:eU)(K:eh)(mg:Str->Option eo)(base:Heap)(A:Around)(outer:List Env)(s:eS)(H:Hp):Prop where
 frames:A.frames=some outer
 mod:Mod K mg base
 bs:∀b o,base.get? b=some o->s.heap.get? b=some o/\H b=none
 bsz:base.objs.size<=s.heap.objs.size
 funs:s.heap.FunFrames base outer
 frf:∀b∈frs outer,H b=none
 hok:HOk P w H s.heap
 bare:AllBare s.gens
def CE(outer:List Env)(P:eT)(w:eU)(H:Hp)(s:eS)(Q:VK)(u:eo)(s':eS):Prop:=
 ∃v H',s'.os=s.os/\AllBare s'.gens/\Un (frs outer) [] H H' s.heap s'.heap/\HOk P w H' s'.heap/\RelV v u/\Q v H'
def CR(CX:CXT)(outer:List Env)(P:eT)(w:eU)(H:Hp)(s:eS)(Q:VK)(E:XK)(r:Result)(s':eS):Prop:=
 match r with
 |.ok (.ret u)=>CE outer P w H s Q u s'
 |.ok _=>False
 |.error e=>CX outer H s E e s'
structure FnOk(P:eT)(w:eU)(K:eh)(mg:Str->Option eo)(base:Heap)(CX:CXT)(k:Nat)(f:eR)(fd:eV)(ps:List Str)(sp:Sp):Prop where
 len:∀vs H Q E,sp vs H Q E->vs.length=ps.length
 run:∀(A:Around) (outer:List Env) (s:eS) (H:Hp) (args:Args) (us:List eo) (vs:List V) (Q:VK) (E:XK),Room k A->Env0 P w K mg base A outer s H->BindsTo s fd args (ps.zip us)->Vals vs us->sp vs H Q E->
  codeAny (model P w) A (.call (.ref f) args) (CR CX outer P w H s Q E) s
theorem FnOk.mono{P:eT}{w:eU}{K:eh}{mg:Str->Option eo}{base:Heap}{CX:CXT}{j k:Nat}{f:eR}{fd:eV}{ps:List Str}{sp:Sp}(F:FnOk P w K mg base CX j f fd ps sp)(h:j<=k) :
 FnOk P w K mg base CX k f fd ps sp:=⟨F.len,λA outer s H args us vs Q E hr=>F.run A outer s H args us vs Q E (hr.mono h)⟩
variable{mg:Str->Option eo}{base:Heap}
theorem Env0.make{A:Around}{outer:List Env}(e:Env0 P w K mg base A outer s H)(C:eR)(us:List eo)(kw:List (Str×eo)) :
 Env0 P w K mg base (A.under (.builtin "type.__call__" ⟨.ref C::us,kw⟩)) outer s H:=⟨by first|exact e.frames|(simpa[Around.under,Code.envs,Code.isFrame,pushEnvs] using e.frames),e.mod,e.bs,e.bsz,e.funs,e.frf,e.hok,e.bare⟩
section
variable{X:Cx}{ei:List (eR×Obj)}{σ:St}{H:Hp}{s s':eS}
theorem Inv.env0(I:Inv X ei σ H s):Env0 X.prog X.w X.K X.mg X.base X.A X.stack s H:=
 ⟨I.ok.frames,I.ok.mod,I.bs,um0 I.ok.bsz I.sz,I.stack,I.stkFree,I.hok,I.bare⟩
theorem Inv.after{Q:VK}(I:Inv X ei σ H s)(h:CE X.stack X.prog X.w H s Q u s'):EP X ei σ Q u s':=by
 clear 5 h v H' os bare un hok r q;clear 5 s' hh g d t os';obtain rfl:os'=s.os:=os;exact⟨v,H',I.call (h':=hh) (g':=g) (d':=d) (t':=t) (ch:=[]) un hok bare (λb z=>absurd z (by simp)),r,q⟩
end
def ZR(sp:Sp)(dvs:List V)(E:XK)(t:TA):TE:=λσ H Q=>t σ H λvs H1=>sp (vs++dvs) H1 Q E
def ZV(C:eR)(m:Str)(sp:Sp)(dvs:List V)(E:XK)(ta:TE)(t:TA):TE:=λσ H Q=>ta σ H λx H1=>∃a dx fs,x=.ref a/\H1 a=some (.ins C dx fs)/\fs.lookup m=none/\
 t σ H1 λvs H2=>sp (x::(vs++dvs)) H2 Q E
def ZU(C:eR)(sp:Sp)(dvs:List V)(E:XK)(t:TA):TE:=λσ H Q=>t σ H λvs H1=>∀x dx,H1 x=none->H1 dx=none->dx≠x->
 sp (.ref x::(vs++dvs)) (upd (upd H1 dx (.own x)) x (.ins C dx [])) (λv H2=>v=.non/\Q (.ref x) H2) E
def Binds(K:eh)(fd:eV)(ps:List Str)(ds:List eo):Prop:=
 ∀(s:eS) (us:List eo),K.In s.heap->(us++ds).length=ps.length->BindsTo s fd ⟨us,[]⟩ (ps.zip (us++ds))
theorem Binds.all{fd:eV}{ps:List Str}(h:∀us:List eo,us.length=ps.length->bindArgs fd ⟨us,[]⟩=pure (ps.zip us)):Binds K fd ps []:=λs us _ hl=>by
 rw[ui8] at hl⊢;exact .of_eq (h us hl)
def FW(CX:CXT)(X:Cx)(E:XK):Prop:=∀(ei:List (eR×Obj)) (σ:St) (H:Hp) (s:eS) (e:eo) (s':eS),Inv X ei σ H s->CX X.stack H s E e s'->X.xe e s'
variable{vs:List V}
section
variable{X:Cx}{CX:CXT}{k:Nat}{f C:eR}{fd:eV}{ps:List Str}{sp:Sp}{dvs:List V}{ds:List eo}{E:XK}{x m:Str}{p pos apos:Pos}{e o:Expr}{es:List Expr}{ta:TE}{t:TA}
theorem QQ{Q:VK}(F:FnOk X.prog X.w X.K X.mg X.base CX k f fd ps sp)(hr:Room k X.A)(hb:Binds X.K fd ps ds)(hd:Vals dvs ds)(hx:FW CX X E)
 (I:Inv X ei σ H s) (r:Vals vs us) (h:sp (vs++dvs) H Q E):wpAny (model X.prog X.w) X.A (call (.ref f) us) (EP X ei σ Q) X.xe s:=by
 have r2:Vals (vs++dvs) (us++ds):=r.append hd;have hl:(us++ds).length=ps.length:=by rw[<-r2.length];exact F.len _ _ _ _ h
 refine gm (gd (F.run X.A X.stack s H ⟨us,[]⟩ (us++ds) (vs++dvs) Q E hr I.env0 (hb s us I.kIn hl) r2 h) λr s' hq=>?_)
 cases r with
 |error e=>exact hx ei σ H s e s' I hq
 |ok fl=>
   cases fl with
   |ret u=>exact I.after hq
   |next=>exact False.elim hq
   |brk=>exact False.elim hq
   |cont=>exact False.elim hq
theorem Vy(F:FnOk X.prog X.w X.K X.mg X.base CX k f fd ps sp)(hr:Room k X.A)(hg:Gl X x)(hm:X.mg x=some (.ref f))(hk:PySem.W.keepIn X.K (.ref f)=true)(hb:Binds X.K fd ps ds)(hd:Vals dvs ds)(hx:FW CX X E)
 (ha:PA X (e::es) t) (hdb:autoParam ((x==("__debug__":Str))=false) q1T) (he:autoParam (starEach (e::es) X.env=(false,eval e X.env)::starEach es X.env) q3T) (hpl:autoParam ((backTo pos (starEach es X.env)).any (·.1)=false) q3T) :
 PE X (.Call (.Name x p) (e::es) [] pos) (ZR sp dvs E t):=by
 intro ei s σ H Q I h;refine fJ (CY I hg hm ?_ hdb);refine ue7 (h₀:=X.base) I.ok.mod.kin hk (thn (ha pos ei s σ H _ I h) λus s1 z9=>?_) he hpl;clear 5 z9 vs H1 I1 r q;refine⟨I1.kIn,?_⟩;exact QQ F hr hb hd hx I1 r q
theorem VC(he:PE X o ta)(c:Cls X.K C)(hm:Meth X.K C m f)(F:FnOk X.prog X.w X.K X.mg X.base CX k f fd ps sp)(hr:Room k X.A)(hb:Binds X.K fd ps ds)(hd:Vals dvs ds)(hx:FW CX X E)(ha:PA X (e::es) t)
 (hst:autoParam (starEach (e::es) X.env=(false,eval e X.env)::starEach es X.env) q3T) (hpl:autoParam ((backTo pos (starEach es X.env)).any (·.1)=false) q3T)
 (ht:eval (.Call (.Attribute o m apos) (e :: es) [] pos) X.env=(do
   let ov <-eval o X.env
   standAt apos.atName
   let (f,first) <-holding [ov] (getMethod ov m pl)
   callWith pos f first (backTo pos (starEach (e::es) X.env)) (backToKw pos (keywordEach [] X.env))):=by rfl) :
 PE X (.Call (.Attribute o m apos) (e::es) [] pos) (ZV C m sp dvs E ta t):=by
 intro ei s σ H Q I h;refine fu (pl:=pl) (thn (he ei s σ H _ I h) λu s1 z9=>?_) ht;clear 5 z9 x H1 I1 rx a dx fs ex ea l q;subst ex;obtain rfl:u=Value.ref a:=rx;refine Jb I1 ea c hm l ?_;refine ue7 (first:=[.ref a]) (h₀:=X.base) I.ok.mod.kin hm.kp (thn (ha pos ei s1 σ H1 _ I1 q) λus s2 z9=>?_) hst hpl;clear 5 z9 vs H2 I2 r q2;refine⟨I2.kIn,?_⟩;exact QQ (us:=.ref a::us) (vs:=.ref a::vs) F hr hb hd hx I2 (.cons rfl r) q2
structure Mk(K:eh)(C f:eR):Prop where
 makes:PySem.W.makesIn K C=true
 init:PySem.W.findIn K (.ref C) "__init__" = some (some (.ref f))
 fn:PySem.W.isFn K (.ref f)=true
 kp:PySem.W.keepIn K (.ref C)=true
theorem Tb{Q:VK}(M:Mk X.K C f)(F:FnOk X.prog X.w X.K X.mg X.base CX k f fd ps sp)(hr:Room (k+1) X.A)(hb:Binds X.K fd ps ds)(hd:Vals dvs ds)
 (hx:FW CX X E) (I:Inv X ei σ H s) (r:Vals vs us)
 (h:∀x dx,H x=none->H dx=none->dx≠x->sp (.ref x::(vs++dvs)) (upd (upd H dx (.own x)) x (.ins C dx [])) (λv H2=>v=.non/\Q (.ref x) H2) E) :
 wpAny (model X.prog X.w) X.A (call (.ref C) us) (EP X ei σ Q) X.xe s:=by
 have hq:=h (s.heap.objs.size+1) s.heap.objs.size (I.hok.fresh (un4 _)) (I.hok.fresh (un2 _)) (ul9 (uh0 _));have I2:=Inv.made (C:=C) I;have r2:Vals (V.ref (s.heap.objs.size+1)::(vs++dvs)) (Value.ref (s.heap.objs.size+1)::(us++ds)):=.cons rfl (r.append hd);have hl:(Value.ref (s.heap.objs.size+1)::us++ds).length=ps.length:=by
  have e:=r2.length;rw[F.len _ _ _ _ hq] at e;exact e.symm
 refine gm (Sv (f:=f) I.kIn M.makes M.init (gl.mp M.fn) (gd (F.run _ X.stack _ _ ⟨Value.ref (s.heap.objs.size+1)::us,[]⟩ (Value.ref (s.heap.objs.size+1)::(us++ds)) _ _ E (hr.make C us [])
  (I2.env0.make C us []) (hb _ (Value.ref (s.heap.objs.size+1)::us) I2.kIn hl) r2 hq) λr s' hq'=>?_))
 cases r with
 |error e=>exact hx ei σ _ _ e s' I2 hq'
 |ok fl=>
   cases fl with
   |ret u=>
     clear 5(I2.after hq')v H' I3 rv ev q3;subst ev;exact⟨rv,⟨V.ref (s.heap.objs.size+1),H',I3,rfl,q3⟩⟩
   |next=>exact False.elim hq'
   |brk=>exact False.elim hq'
   |cont=>exact False.elim hq'
theorem VB(M:Mk X.K C f)(F:FnOk X.prog X.w X.K X.mg X.base CX k f fd ps sp)(hr:Room (k+1) X.A)(hg:Gl X x)(hm:X.mg x=some (.ref C))(hb:Binds X.K fd ps ds)(hd:Vals dvs ds)(hx:FW CX X E)
 (ha:PA X (e::es) t) (hdb:autoParam ((x==("__debug__":Str))=false) q1T) (he:autoParam (starEach (e::es) X.env=(false,eval e X.env)::starEach es X.env) q3T) (hpl:autoParam ((backTo pos (starEach es X.env)).any (·.1)=false) q3T) :
 PE X (.Call (.Name x p) (e::es) [] pos) (ZU C sp dvs E t):=by
 intro ei s σ H Q I h;refine fJ (CY I hg hm ?_ hdb);refine ue7 (h₀:=X.base) I.ok.mod.kin M.kp (thn (ha pos ei s σ H _ I h) λus s1 z9=>?_) he hpl;clear 5 z9 vs H1 I1 r q;refine⟨I1.kIn,?_⟩;exact Tb M F hr hb hd hx I1 r q
end
section
variable{X:Cx}{CX:CXT}{k:Nat}{f C:eR}{fd:eV}{ps ks:List Str}{sp:Sp}{E:XK}{x m:Str}{p pos apos kpos:Pos}{e o:Expr}{es:List Expr}{kws:List Keyword}{te ta:TE}{t tk:TA}{nm:Option Str}
structure KBinds(K:eh)(fd:eV)(ps ks:List Str)(g:List eo->List eo->List eo)(gV:List V->List V->List V):Prop where
 to:∀(s:eS) (us ws:List eo),K.In s.heap->(g us ws).length=ps.length->BindsTo s fd ⟨us,ks.zip ws⟩ (ps.zip (g us ws))
 rel:∀{vs:List V}{us:List eo}{zs:List V}{ws:List eo},Vals vs us->Vals zs ws->Vals (gV vs zs) (g us ws)
variable{g:List eo->List eo->List eo}{gV:List V->List V->List V}
end
structure FnScope(N P:List Str)(sc:Scope):Prop where
 kind:sc.kind=.function
 co:sc.isCoroutine=false
 gen:sc.isGenerator=false
 nd:N.Nodup
 pre:N.take P.length=P
 par:∀x∈P,sc.names.lookup x=some .local\/sc.names.lookup x=some .cell
 nofree:∀y∈sc.names,y.2≠.free
theorem Kk{kindOf:Str->Option NameKind}{x:Str}:∀{binds:List (Str×eo)}{m:Str->Option eo},(∀v,(x,v)∉binds)->bindL kindOf binds m x=m x
 |[],_,_=>rfl
 |(n,v)::r,m,h=>by
   unfold bindL;rw[Kk λw hw=>h w (ud3 _ hw)]
   split
   .have:x≠n:=by rintro rfl;exact h v ue4
    simp[this]
   .rfl
theorem Ki{kindOf:Str->Option NameKind}{x:Str}:∀{binds:List (Str×eo)}{m:Str->Option eo},(∀v,(x,v)∉binds)->bindC kindOf binds m x=m x
 |[],_,_=>rfl
 |(n,v)::r,m,h=>by
   unfold bindC;rw[Ki λw hw=>h w (ud3 _ hw)]
   split
   .rfl
   .have:x≠n:=by rintro rfl;exact h v ue4
    simp[this]
theorem Kj{kindOf:Str->Option NameKind}{x:Str}{v:eo}:∀{P:List Str}{vs:List eo}{i:Nat}{m:Str->Option eo},P.Nodup->P[i]?=some x->vs[i]?=some v->kindOf x=some .local->
 bindL kindOf (P.zip vs) m x=some v
 |[],_,_,_,_,h,_,_=>by simp at h
 |_::_,[],_,_,_,_,h,_=>by simp at h
 |p::P,w::vs,0,m,nd,h1,h2,hk=>by
   simp at h1 h2;subst h1;subst h2;show bindL kindOf ((p,w)::P.zip vs) m p=_;unfold bindL;rw[Kk λv hv=>(ui9.mp nd).1 (uj0 hv).1,gE hk];simp
 |p::P,w::vs,i+1,m,nd,h1,h2,hk=>by
   show bindL kindOf ((p,w)::P.zip vs) m x=_;unfold bindL;exact Kj (i:=i) (ui9.mp nd).2 (by simpa using h1) (by simpa using h2) hk
theorem Kh{kindOf:Str->Option NameKind}{x:Str}{v:eo}:∀{P:List Str}{vs:List eo}{i:Nat}{m:Str->Option eo},P.Nodup->P[i]?=some x->vs[i]?=some v->kindOf x≠some .local->
 bindC kindOf (P.zip vs) m x=some v
 |[],_,_,_,_,h,_,_=>by simp at h
 |_::_,[],_,_,_,_,h,_=>by simp at h
 |p::P,w::vs,0,m,nd,h1,h2,hk=>by
   simp at h1 h2;subst h1;subst h2;show bindC kindOf ((p,w)::P.zip vs) m p=_;unfold bindC;rw[Ki λv hv=>(ui9.mp nd).1 (uj0 hv).1,gG hk];simp
 |p::P,w::vs,i+1,m,nd,h1,h2,hk=>by
   show bindC kindOf ((p,w)::P.zip vs) m x=_;unfold bindC;exact Kh (i:=i) (ui9.mp nd).2 (by simpa using h1) (by simpa using h2) hk
noncomputable def start(N:List Str)(vs:List V):St:=vs.map some++List.replicate (N.length-vs.length) none
noncomputable def Dy(CX:CXT)(P:eT)(w:eU)(K:eh)(mg:Str->Option eo)(base:Heap)(N:List Str)(qual:Str)(scope:Scope)(f:eR)(cd:eo)(A:Around)(outer:List Env)(s:eS)(H:Hp)(E:XK):Cx where
 prog:=P
 w:=w
 K:=K
 mg:=mg
 base:=base
 A:=A.deeper (envOfC qual scope s.heap.objs.size f cd)
 N:=N
 s₀:=s
 H₀:=H
 env:=envOfC qual scope s.heap.objs.size f cd
 outer:=outer
 stack:=envOfC qual scope s.heap.objs.size f cd::outer
 ex:=[]
 calm:=true
 fn:=λ_=>true
 pn:=[]
 xe:=λe s'=>wpAny (model P w) (A.deeper (envOfC qual scope s.heap.objs.size f cd)) (leaving (envOfC qual scope s.heap.objs.size f cd) e) (λ_ s''=>CX outer H s E e s'') (λe' s''=>CX outer H s E e' s'') s'
theorem Lv{sc:Scope}{n:Nat}(h:sc.names.lookup x=some .cell):∃c,(cellsFrom n sc.names []).lookup x=some c:=by
 have q:=uc2 sc.names n [] (.inl h);exact fe.mp q
theorem Kw{CX:CXT}{N ps:List Str}{qual:Str}{scope:Scope}{f:eR}{cd:eo}{A:Around}{outer:List Env}{s1:eS}{E:XK}
 (S:FnScope N ps scope) (hd:A.handled=none) (e0:Env0 P w K mg base A outer s H) (hl:vs.length=ps.length) (r:Vals vs us)
 (x:InCallC s s.heap.objs.size (bindL (envOfC qual scope s.heap.objs.size f cd).kindOf (ps.zip us) λ_=>none) (cellsFrom (s.heap.objs.size+1) scope.names []) (bindC (envOfC qual scope s.heap.objs.size f cd).kindOf (ps.zip us) λ_=>none) s1) :
 Inv (Dy CX P w K mg base N qual scope f cd A outer s H E) [] (start N vs) H s1:=by
 have hpl:ps.length<=N.length:=by have:=gu List.length S.pre;rw[uh1] at this;lia
 clear 5 x.done h1 tk rfl hk;have noA:∀b:eR,b∉(Dy CX P w K mg base N qual scope f cd A outer s H E).ex:=λb z=>absurd (show b∈([]:List eR) from z) (by simp);refine⟨⟨e0.mod,S.kind,rfl,rfl,un2 _,λy z c h1 h2=>?_,λy hy=>?_,λy c _ h=>?_,λ_=>hd,Around.frames_deeper e0.frames,.inr ⟨rfl,rfl⟩,λb z=>absurd z (noA b),e0.bs,e0.bsz,λb _ _=>noA b,λb z=>absurd z (noA b),e0.funs,e0.frf⟩,
  rfl,e0.bare,Un.kept hk,⟨_,x.toInCall.ns,λi y v h1 h2 h3=>?_⟩,λy c h=>⟨_,x.cell y c h⟩,e0.hok.fresh (un2 _),λy c h=>?_,λp hp=>absurd (show p∈([]:List (eR×Obj)) from hp) (by simp),e0.hok.kept hk,?_⟩
 .exact name_of_addr x.apart (fF h1) (fF h2)
 .have hy:scope.names.lookup y=some .cell\/scope.names.lookup y=some .free:=hy;rcases hy with hy|hy
  .exact Lv hy
  .exact absurd rfl (S.nofree _ (fF hy))
 .exact um1 (x.above y c (fF h))
 .have hi:i<vs.length:=by
   unfold start at h2
   by_cases hi:i<vs.length
   .exact hi
   .rw[ua6 (by simpa using hi)] at h2;rw[ub6] at h2
    split at h2<;>cases h2
  have ha:vs[i]?=some v:=by
   unfold start at h2;rw[ub1 (by simpa using hi),uf8] at h2
   cases e:vs[i]? with
   |none=>rw[e] at h2;cases h2
   |some a=>rw[e] at h2;cases h2;rfl
  clear 5(r.get ha)u hu rv;have hp:ps[i]?=some y:=by
   rw[<-S.pre,List.getElem?_take_of_lt ∅];exact h1
  have ndP:ps.Nodup:=by rw[<-S.pre];exact S.nd.sublist (List.take_sublist _ _)
  refine⟨u,rv,?_⟩;rcases S.par y (ud6 hp) with k|k
  .exact .inl ⟨k,Kj ndP hp hu k⟩
  .clear 5(Lv (n:=s.heap.objs.size+1) k)c e;refine .inr ⟨.inl k,c,e,?_⟩;have q:=x.cell y c e;rw[Kh ndP hp hu (by show scope.names.lookup y≠_;rw[k];decide)] at q;exact q
 .exact e0.hok.fresh (um1 (x.above y c (fF h)))
 .unfold start;show _=N.length;rw[ue8,ui6,uc7];lia
theorem TY{CX:CXT}{k:Nat}{f:eR}{name qual:Str}{params:Arguments}{body:List Stmt}{scope:Scope}{dV kV doc pm cdv ct oc:eo}{an od:Option eR}
 {osl:Array (Option eo)}{N ps:List Str}{sp:Sp} (lk:K.lookup f=some ⟨oc,od,.func (PySem.W.fnOf name qual params body scope dV kV doc pm an cdv ct),osl⟩) (hcd:PySem.W.codeIn K cdv qual=true) (S:FnScope N ps scope)
 (len:∀vs H Q E,sp vs H Q E->vs.length=ps.length)
 (hbody:∀(A:Around) (outer:List Env) (s:eS) (H:Hp) (vs:List V) (Q:VK) (E:XK),Room k (A.deeper (envOfC qual scope s.heap.objs.size f cdv))->sp vs H Q E->
   ∃t,PSs (Dy CX P w K mg base N qual scope f cdv A outer s H E) body t/\t {nx:=λ_ H'=>Q .non H',rt:=Q} (start N vs) H) :
 FnOk P w K mg base CX (k+1) f (PySem.W.fnOf name qual params body scope dV kV doc pm an cdv ct) ps sp:=by
 refine⟨len,λA outer s H args us vs Q E hr e0 hb r hsp=>?_⟩;have hl:=len _ _ _ _ hsp;have KX:K.In s.heap:=e0.mod.kin.keeps λb o e=>(e0.bs b o e).1;have lim:s.heap.NoLimit:=e0.mod.nolimit.keeps λb o e=>(e0.bs b o e).1;have hkind:∀y∈ps.zip us,scope.names.lookup y.1=some .local\/(scope.names.lookup y.1=some .cell/\((cellsFrom (s.heap.objs.size+1) scope.names []).lookup y.1).isSome=true):=λz9 hy=>by
  clear 5 z9 n v;rcases S.par n (uj0 hy).1 with q|q
  .exact .inl q
  .exact .inr ⟨q,uc2 _ _ _ (.inl q)⟩
 refine codeAny_call_function hr.depth (KX _ _ lk) rfl S.co S.gen rfl (PySem.W.codeRec_of KX hcd) (hb _ _ _ _ ?_);refine eY S.kind hkind λenv he s1 x=>?_;subst he;refine⟨lim.keeps x.toInCall.keep,codeAny_func ?_⟩;clear 5(hbody A outer s H vs Q E (hr.deeper _) hsp)t ht hq;have I:Inv (Dy CX P w K mg base N qual scope f cdv A outer s H E) [] (start N vs) H s1:=Kw S hr.hd e0 hl r x;refine un8 (ht [] s1 (start N vs) H _ I hq) (λfl s' hs=>?_) λe s' hs=>hs;have fin:∀{σ':St}{H':Hp}{v:V}{u:eo},Inv (Dy CX P w K mg base N qual scope f cdv A outer s H E) [] σ' H' s'->RelV v u->Q v H'->CE outer P w H s Q u s':=
  λ{σ' H' v u} J rv q=>⟨v,H',J.os,J.bare,J.base,J.hok,rv,q⟩
 cases fl with
 |ret u=>
   clear 5 hs v σ' H' J rv q;exact fin J rv q
 |next=>
   clear 5 hs σ' H' J q;exact fin (v:=V.non) (u:=Value.none) J rfl q
 |brk=>
   obtain⟨_,_,_,q⟩:=hs;exact False.elim q
 |cont=>
   obtain⟨_,_,_,q⟩:=hs;exact False.elim q
section
variable{X:Cx}{x:Str}{p pos:Pos}{e:Expr}{es:List Expr}{t:TA}{id T:String}{r:List V->Hp->VK->Prop}
def tCB(r:List V->Hp->VK->Prop)(t:TA):TE:=λσ H Q=>t σ H λvs H1=>r vs H1 Q
theorem Gy(hc:B4 X (.builtin id) r)(hg:Gl X x)(hm:X.mg x=none)(hv:bootBuiltins x=some (.builtin id))(ha:PA X (e::es) t)(hn:autoParam (x≠"__name__") q1T)(hdb:autoParam ((x==("__debug__":Str))=false) q1T)
 (he:autoParam (starEach (e::es) X.env=(false,eval e X.env)::starEach es X.env) q3T) (hpl:autoParam ((backTo pos (starEach es X.env)).any (·.1)=false) q3T):PE X (.Call (.Name x p) (e::es) [] pos) (tCB r t):=by
 intro ei s σ H Q I h;refine fJ (GZ I hg hm hv ?_ hn hdb);exact PyProof.Rows.callWith_builtin1 (thn (ha pos ei s σ H _ I h) λus s1 z9=>by clear 5 z9 vs H1 I1 r1 q1;exact hc ei s1 σ H1 vs us Q I1 r1 q1) he hpl
theorem KB(hc:B4 X (.type T) r)(hg:Gl X x)(hm:X.mg x=none)(hv:bootBuiltins x=some (.type T))(ha:PA X (e::es) t)(hn:autoParam (x≠"__name__") q1T)(hdb:autoParam ((x==("__debug__":Str))=false) q1T)
 (he:autoParam (starEach (e::es) X.env=(false,eval e X.env)::starEach es X.env) q3T) (hpl:autoParam ((backTo pos (starEach es X.env)).any (·.1)=false) q3T):PE X (.Call (.Name x p) (e::es) [] pos) (tCB r t):=by
 intro ei s σ H Q I h;refine fJ (GZ I hg hm hv ?_ hn hdb);exact ua3 (thn (ha pos ei s σ H _ I h) λus s1 z9=>by clear 5 z9 vs H1 I1 r1 q1;exact hc ei s1 σ H1 vs us Q I1 r1 q1) he hpl
end
end
end L2
namespace HT
open PySem PyProof.Rows
section
open PySem.SeqAt
open PySem.AutoSeq1 (wpAny_loadPart')
open PySem.MeetsSeq PySem.MeetsSeq2 PySem.MeetsSeq3
end
section
variable{prog:eT}{w:eU}{A:Around}{E:eo->eS->Prop}{s:eS}
noncomputable def sIx(n d:Nat):Option Int->Nat
 |none=>d
 |some v=>if v<0 then(v+(n:Int)).toNat else min v.toNat n
theorem Td(n d:Nat):sIx n d none=d:=rfl
theorem VT(n d k:Nat):sIx n d (some (k:Int))=min k n:=by
 show(if (k:Int)<0 then((k:Int)+(n:Int)).toNat else min (k:Int).toNat n)=min k n;rw[gG ∅,uf9]
end
end HT
namespace L2
open PySem PySem.Spec PyProof.Rows
abbrev TO:=St->Hp->(Option Int->Hp->Prop)->Prop
def PO(X:Cx)(e:Option Expr)(t:TO):Prop:=
 ∀(ei:List (eR×Obj)) (s:eS) (σ:St) (H:Hp) (Q:Option Int->Hp->Prop),Inv X ei σ H s->t σ H Q->
  wpAny (model X.prog X.w) X.A (evalPart e X.env) (λu s'=>∃o H',Inv X ei σ H' s'/\IsPart u o/\Q o H') X.xe s
def Wm:TO:=λ_ H Q=>Q none H
def ZX(t:TE):TO:=λσ H Q=>t σ H λx H1=>∃i,x=.int i/\Q (some i) H1
section
variable{X:Cx}{e:Expr}{te:TE}{lo hi:Option Expr}{tl th:TO}{pos p2:Pos}
theorem VJ:PO X none Wm:=by
 intro ei s σ H Q I h;rw[evalPart_none];exact un7 ⟨none,H,I,.none,h⟩
theorem VL(h:PE X e te):PO X (some e) (ZX te):=by
 intro ei s σ H Q I hw;rw[evalPart_some];refine thn (h ei s σ H _ I hw) λu s1 z9=>?_;clear 5 z9 x H1 I1 r1 q1;clear 5 q1 i rfl q;clear 5 r1 t rfl;exact⟨some i,H1,I1,.int i t,q⟩
def SlR(X:Cx)(r:V->Option Int->Option Int->Hp->VK->Prop):Prop:=
 ∀(ei:List (eR×Obj)) (s:eS) (σ:St) (H:Hp) (x:V) (v vl vu:eo) (lo hi:Option Int) (sl:eR) (Q:VK),Inv X ei σ H s->RelV x v->s.heap.IsSliceOf sl vl vu .none->IsPart vl lo->IsPart vu hi->r x lo hi H Q->
  ∃T id,typeLookup (.type T) "__getitem__" = pure (some (.builtin id))/\s.TypeIs v T/\wpAny (model X.prog X.w) X.A (getItem v (.ref sl)) (EP X ei σ Q) X.xe s
theorem SlR.or{r r':V->Option Int->Option Int->Hp->VK->Prop}(h:SlR X r)(h':SlR X r'):SlR X (λx lo hi H Q=>r x lo hi H Q\/r' x lo hi H Q):=by
 intro ei s σ H x v vl vu lo hi sl Q I rx hs pl pu q;rcases q with q|q
 .exact h ei s σ H x v vl vu lo hi sl Q I rx hs pl pu q
 .exact h' ei s σ H x v vl vu lo hi sl Q I rx hs pl pu q
def tSl(r:V->Option Int->Option Int->Hp->VK->Prop)(te:TE)(tl th:TO):TE:=λσ H Q=>te σ H λx H1=>tl σ H1 λl H2=>th σ H2 λu H3=>r x l u H3 Q
theorem SM{r:V->Option Int->Option Int->Hp->VK->Prop}(hr:SlR X r)(he:PE X e te)(hl:PO X lo tl)(hu:PO X hi th):PE X (.Subscript e (.Slice lo hi none p2) pos) (tSl r te tl th):=by
 intro ei s σ H Q I h;refine Subscript_ (thn (he ei s σ H _ I h) λv s1 z9=>?_);clear 5 z9 x H1 I1 r1 q1;refine wpAny_Slice (thn (hl ei s1 σ H1 _ I1 q1) λvl s2 ⟨l,H2,I2,pl,q2⟩=>thn (hu ei s2 σ H2 _ I2 q2) λvu s3 z9=>?_);clear 5 z9 u H3 I3 pu q3;rw[evalPart_none];refine un7 ?_;have I4:Inv X ei σ H3 {s3 with heap:=s3.heap.push {cls:=.type "slice",data:=.fields #[vl,vu,.none]} }:=I3.kept (t':=s3.toks) λb ob q=>uc1 _ q;clear 5(hr ei {s3 with heap:=s3.heap.push {cls:=.type "slice",data:=.fields #[vl,vu,.none]} } σ H3 x v vl vu l u s3.heap.objs.size Q I4 r1 (Heap.IsSliceOf.new ..) pl pu q3)T id hT ht hg;show wpAny (model X.prog X.w) X.A (subscriptTail e (.Slice lo hi none p2) v (.ref s3.heap.objs.size)) (EP X ei σ Q) X.xe {s3 with heap:=s3.heap.push {cls:=.type "slice",data:=.fields #[vl,vu,.none]} };exact tail_any (ops:=[.ref s3.heap.objs.size,v]) ht hT hg (by with_unfolding_all rfl)
def Ib(xs:List V)(lo hi:Option Int):List V:=(xs.drop (HT.sIx xs.length 0 lo)).take (HT.sIx xs.length xs.length hi-HT.sIx xs.length 0 lo)
theorem MP(xs:List V)(lo hi:Option Int):(Ib xs lo hi).length<=xs.length:=by
 unfold Ib;rw[uh1,uh2];lia
end
noncomputable def ixN(n:Nat)(i:Int):Option Nat:=if 0<=i then(if i<n then some i.toNat else none) else if -(n:Int)<=i then some (i+n).toNat else none
def atI{α:Type}(xs:List α)(i:Int):Option α:=(ixN xs.length i).bind λj=>xs[j]?
section
variable{n:Nat}
theorem Nm{i:Int}{j:Nat}(h:ixN n i=some j):seqIndex? i n=some j/\j<n/\-(n:Int)<=i/\i<n:=by
 unfold ixN at h
 by_cases h0:0<=i
 .rw[gE h0] at h
  by_cases h1:i<n
  .rw[gE h1] at h;have e:i.toNat=j:=ui5 h;exact⟨by rw[seqIndex_of h0 h1,e],by lia,by lia,h1⟩
  .rw[gG h1] at h;cases h
 .rw[gG h0] at h
  by_cases h1 : -(n:Int)<=i
  .rw[gE h1] at h;have e:(i+n).toNat=j:=ui5 h;exact⟨by rw[seqIndex_neg ∅ h1,e],by lia,h1,by lia⟩
  .rw[gG h1] at h;cases h
variable{α:Type}
theorem JC{xs:List α}{i:Int}{v:α}(h:atI xs i=some v):∃j,seqIndex? i xs.length=some j/\xs[j]?=some v/\j<xs.length/\-(xs.length:Int)<=i/\i<xs.length:=by
 unfold atI at h
 cases e:ixN xs.length i with
 |none=>rw[e] at h;cases h
 |some j=>
   rw[e] at h;clear 5(Nm e)h1 h2 h3 h4;exact⟨j,h1,h,h2,h3,h4⟩
theorem BV{xs:List α}{j:Nat}{v:α}(h:xs[j]?=some v):atI xs (j:Int)=some v:=by
 have hj:j<xs.length:=(ub0.mp h).1;have e:ixN xs.length (j:Int)=some j:=by
  unfold ixN;rw[gE ∅,gE ∅];simp
 unfold atI;rw[e];exact h
def JA(b:Expr):Prop:=∀o i,subscripted b false o i=operate [o,i] (getItem o i)
def IxR(X:Cx)(r:R2):Prop:=
 ∀(value slice:Expr) (ei:List (eR×Obj)) (s:eS) (σ:St) (H:Hp) (x y:V) (v u:eo) (Q:VK),Inv X ei σ H s->RelV x v->RelV y u->r x y H Q->
  subscripted slice false v u=operate [v,u] (getItem v u)->wpAny (model X.prog X.w) X.A (subscriptTail value slice v u) (EP X ei σ Q) X.xe s
def MtR(X:Cx)(id:String)(r:V->List V->Hp->VK->Prop):Prop:=
 ∀(ei:List (eR×Obj)) (s:eS) (σ:St) (H:Hp) (x:V) (xs:List V) (v:eo) (us:List eo) (Q:VK),Inv X ei σ H s->RelV x v->Vals xs us->r x xs H Q->
  wpAny (model X.prog X.w) X.A (call (.builtin id) (v::us)) (EP X ei σ Q) X.xe s
variable{s:eS}{its:List eo}{x:V}
section
variable{X:Cx}{a b:Expr}{ta tb:TE}{pos:Pos}
theorem IxR.or{r r':R2}(h:IxR X r)(h':IxR X r'):IxR X (λx y H Q=>r x y H Q\/r' x y H Q):=by
 intro value slice ei s σ H x y v u Q I rx ry q hs;rcases q with q|q
 .exact h value slice ei s σ H x y v u Q I rx ry q hs
 .exact h' value slice ei s σ H x y v u Q I rx ry q hs
theorem T2{r:R2}(hr:IxR X r)(ha:PE X a ta)(hb:PE X b tb)(hs:JA b):PE X (.Subscript a b pos) (tOp r ta tb):=by
 intro ei s σ H Q I h;exact Subscript_ (Ru ha hb I h λv u s2 x y H2 I2 rx ry q=>hr a b ei s2 σ H2 x y v u Q I2 rx ry q (hs _ _))
def Yr(K:eh):R2:=λx y H Q=>∃p xs i v,x=.ref p/\y=.int i/\SqL K H p xs/\atI xs i=some v/\Q v H
def Yt(K:eh):R2:=λx y H Q=>∃p xs i v,x=.ref p/\y=.int i/\SqT K H p xs/\atI xs i=some v/\Q v H
def Ys:R2:=λx y H Q=>∃z i c,x=.str z/\y=.int i/\z.length<=sizeLine/\atI z.cps.toList i=some c/\Q (.str ⟨#[c]⟩) H
theorem ix_list:IxR X (Yr X.K):=by
 intro value slice ei s σ H x y v u Q I rx ry h hs;clear 5 h p xs i z rfl rfl hq he q
 cases rx
 clear 5 ry t rfl;clear 5(I.list hq)its r pl hz;clear 5(JC he)j h1 h2 h3 h4 h5;clear 5(r.get h2)w ew rw';have hl:=r.length;have hn:=G8;have fin:EP X ei σ Q w s:=⟨z,H,I,rw',q⟩
 by_cases h0:0<=i
 .have hj:i.toNat=j:=by
   rw[seqIndex_of h0 h5] at h1;exact ui5 h1
  exact item_listR pl.isList h0 ∅ (by rw[hj];simpa using ew) fin hs
 .have hj:(i+(its.toArray.size:Int)).toNat=j:=by
   rw[seqIndex_neg ∅ h4] at h1;rw[uf5,<-hl];exact ui5 h1
  exact subscriptTail_builtinR (x:=w) pl.isList.typeIs slot_list_getitem.lookup
   (wpAny_getItem_list_neg (Q:=λr s'=>r=w/\EP X ei σ Q r s') pl.isList ∅ (by rw[uf5]<;>lia) ∅ (by rw[hj];simpa using ew) ⟨rfl,fin⟩) hs
theorem ix_tup:IxR X (Yt X.K):=by
 intro value slice ei s σ H x y v u Q I rx ry h hs;clear 5 h p xs i z rfl rfl hq he q
 cases rx
 clear 5 ry t rfl;clear 5(I.tuple hq)its r pl hz;clear 5(JC he)j h1 h2 h3 h4 h5;clear 5(r.get h2)w ew rw';have hl:=r.length;have hn:=G8;have fin:EP X ei σ Q w s:=⟨z,H,I,rw',q⟩;exact subscriptTail_builtinR (x:=w) pl.typeIs slot_tuple_getitem.lookup
  (getItem_tuple (j:=j) (Q:=λr s'=>r=w/\EP X ei σ Q r s') pl ∅ ∅ (by rw[uf5,<-hl];exact h1) (by simpa using ew) ⟨rfl,fin⟩) hs
theorem XC:IxR X Ys:=by
 intro value slice ei s σ H x y v u Q I rx ry h hs;clear 5 h z i c rfl rfl hz he q;clear 5 rx t rfl;clear 5 ry t' rfl;clear 5(JC he)j h1 h2 h3 h4 h5;have hl:z.cps.toList.length=z.length:=by simp[Str.length]
 rw[hl] at h1 h4 h5;have hn:=G8;exact tail_any (typeIs_str s z t) slot_str_getitem.lookup (getItem_str (c:=c) (by
  have e1:decide (i < -(2 ^ 63:Int))=false:=uk1 ∅;have e2:decide (i ≥ 2 ^ 63)=false:=uk1 ∅;rw[e1,e2,ul0]) (by rw[h1];simpa using h2) ⟨.str ⟨#[c]⟩,H,I.tok _,⟨_,rfl⟩,q⟩) hs
def rIx(K:eh):R2:=λx y H Q=>Yr K x y H Q\/Yt K x y H Q\/Ys x y H Q
theorem XB:IxR X (rIx X.K):=ix_list.or (ix_tup.or XC)
theorem OB(its:List eo)(n j:Nat)(u:eo):Obj.mapSeq (·.setIfInBounds j u) {cls:=.type "list",data:=.seq its.toArray n} = {cls:=.type "list",data:=.seq (its.set j u).toArray n}:=by
 simp[Obj.mapSeq]
theorem Inv.lst{ei:List (eR×Obj)}{σ:St}{H:Hp}{s:eS}{p:eR}{xs:List V}(I:Inv X ei σ H s)(h:H p=some (.lst xs)) :
 ∃(its:List eo) (n:Nat),Vals xs its/\s.heap.get? p=some {cls:=.type "list",data:=.seq its.toArray n}/\xs.length<=sizeLine:=by
 clear 5(I.hok p _ h)z its n r e;exact⟨its,n,r,e,z⟩
theorem Inv.lstUpd{ei:List (eR×Obj)}{σ:St}{H:Hp}{p:eR}{xs ys:List V}{its':List eo}{n':Nat}{f:Obj->Obj}(I:Inv X ei σ H s)(h:H p=some (.lst xs))
 (ho:s.heap.get? p=some {cls:=.type "list",data:=.seq its.toArray n}) (hf:f {cls:=.type "list",data:=.seq its.toArray n} = {cls:=.type "list",data:=.seq its'.toArray n'}) (r:Vals ys its') (hz:ys.length<=sizeLine) (t:Nat) :
 Inv X ei σ (upd H p (.lst ys)) {s with heap:=s.heap.update p f,toks:=t}:=by
 have e:(s.heap.update p f).get? p=some {cls:=.type "list",data:=.seq its'.toArray n'}:=by
  rw[uc8 f ho (by rw[hf]<;>rfl),hf]
 refine I.write (x:=p) (e:=p) (by rw[h];trivial) (.inl rfl) (λb u hb q=>(uc3 _ _ (Ne.symm hb)).trans q) ⟨_,e⟩ ?_;exact⟨hz,its',n',r,e⟩
def ZI:V->V->V->Hp->(Hp->Prop)->Prop:=λo i v H Q=>∃p xs k j,o=.ref p/\i=.int k/\H p=some (.lst xs)/\ixN xs.length k=some j/\Q (upd H p (.lst (xs.set j v)))
theorem Mx:Rj X ZI:=by
 intro ei s σ H o i v ov iv u Q I ro ri rv h;clear 5 h p xs k j rfl rfl hp hj q
 cases ro
 clear 5 ri t rfl;clear 5(I.lst hp)its n r ho hz;clear 5(Nm hj)h1 h2 h3 h4;have hl:=r.length;have hn:=G8;have I':Inv X ei σ (upd H p (.lst (xs.set j v))) {s with heap:=s.heap.update p (Obj.mapSeq (·.setIfInBounds j u))}:=
  I.lstUpd hp ho (OB its n j u) (r.set rv j) (by rw[uj1];exact hz) s.toks
 by_cases h0:0<=k
 .have hk:k.toNat=j:=by
   rw[seqIndex_of h0 h4] at h1;exact ui5 h1
  exact PySem.W.ki_setAt ho h0 ∅ (by rw[uf5,<-hl];exact h4) (by rw[hk];exact⟨_,I',q⟩)
 .have hk:(k+(its.toArray.size:Int)).toNat=j:=by
   rw[seqIndex_neg ∅ h3] at h1;rw[uf5,<-hl];exact ui5 h1
  exact PySem.W.ki_setBack ho ∅ (by rw[uf5,<-hl];exact h3) ∅ (by rw[hk];exact⟨_,I',q⟩)
theorem MC(lo hi:Option Int)(n:Nat):(sliceBounds lo hi none n).1=((HT.sIx n 0 lo:Nat):Int)/\(sliceBounds lo hi none n).2.1=((HT.sIx n n hi:Nat):Int)/\(sliceBounds lo hi none n).2.2=1:=by
 refine⟨?_,?_,rfl⟩
 .cases lo with
  |none=>simp[sliceBounds,HT.sIx]
  |some i=>
    simp only[sliceBounds,HT.sIx,Option.getD_none,show(1:Int) > 0 by decide,gC]
    by_cases h:i<0
    .simp only[h,gC]<;>lia
    .simp only[h,gw]<;>lia
 .cases hi with
  |none=>simp[sliceBounds,HT.sIx]
  |some i=>
    simp only[sliceBounds,HT.sIx,Option.getD_none,show(1:Int) > 0 by decide,gC]
    by_cases h:i<0
    .simp only[h,gC]<;>lia
    .simp only[h,gw]<;>lia
theorem KO(its:List eo)(lo hi:Option Int):slicePick its.toArray lo hi none=((its.drop (HT.sIx its.length 0 lo)).take (HT.sIx its.length its.length hi-HT.sIx its.length 0 lo)).toArray:=by
 clear 5(MC lo hi its.toArray.size)h1 h2 h3;unfold slicePick;rw[h1,h2,h3];simp only[sliceRange_one,pick_run,uf5]<;>rfl
def Yv(K:eh):V->Option Int->Option Int->Hp->VK->Prop:=λx lo hi H Q=>∃a xs,x=.ref a/\SqL K H a xs/\∀p,H p=none->Q (.ref p) (upd H p (.lst (Ib xs lo hi)))
theorem Wi:SlR X (Yv X.K):=by
 intro ei s σ H x v vl vu lo hi sl Q I rx hs pl pu h;clear 5 h a xs rfl hx q
 cases rx
 clear 5(I.list hx)its r ht hz;have hlen:=r.length;refine⟨"list",_,slot_list_getitem.lookup,ht.isList.typeIs,?_⟩;refine wpAny_getItem_list_slice ht.isList hs pl pu .none (by simp) ?_ (by rw[uf5]<;>lia);rw[KO,<-hlen];refine⟨.ref s.heap.objs.size,_,I.laid (t':=s.toks) (o:=.lst (Ib xs lo hi)) (λb ob q=>uc1 _ q) (un2 _) ?_,rfl,q _ (I.hok.fresh (un2 _))⟩;exact⟨um0 (MP xs lo hi) hz,_,0,(r.drop (HT.sIx xs.length 0 lo)).take (HT.sIx xs.length xs.length hi-HT.sIx xs.length 0 lo),ud9 _ rfl⟩
noncomputable def DN:V->Bool
 |.non=>true
 |.bl _=>true
 |.int _=>true
 |.str _=>true
 |_=>false
noncomputable def eqV:V->V->Bool
 |.non,.non=>true
 |.bl a,.bl b=>a==b
 |.bl a,.int b=>(if a then 1 else 0)==b
 |.int a,.bl b=>a==(if b then 1 else 0)
 |.int a,.int b=>a==b
 |.str a,.str b=>a==b
 |_,_=>false
theorem W4{A:Around}{y:V}{u v:eo}(ry:RelV y u)(rx:RelV x v)(fy:DN y=true)(fx:DN x=true):SeqAt.EqAt A s u v (eqV y x):=by
 cases y with
 |non=>
   cases ry
   cases x with
   |non=>cases rx;exact SeqAt.EqAt.same _
   |bl b=>cases rx;exact SeqAt.EqAt.none_bool b
   |int b=>clear 5 rx t rfl;exact SeqAt.EqAt.none_int b t
   |str b=>clear 5 rx t rfl;exact SeqAt.EqAt.none_str b t
   |_=>exact absurd (show false=true from fx) ue5
 |bl a=>
   cases ry
   cases x with
   |non=>cases rx;exact SeqAt.EqAt.bool_none a
   |bl b=>cases rx;exact SeqAt.EqAt.bool_bool a b
   |int b=>clear 5 rx t rfl;exact SeqAt.EqAt.bool_int a b t
   |str b=>clear 5 rx t rfl;exact SeqAt.EqAt.bool_str a b t
   |_=>exact absurd (show false=true from fx) ue5
 |int a=>
   clear 5 ry t' rfl
   cases x with
   |non=>cases rx;exact SeqAt.EqAt.int_none a t'
   |bl b=>cases rx;exact SeqAt.EqAt.int_bool a t' b
   |int b=>clear 5 rx t rfl;exact SeqAt.EqAt.int_int a t' b t
   |str b=>clear 5 rx t rfl;exact SeqAt.EqAt.int_str a t' b t
   |_=>exact absurd (show false=true from fx) ue5
 |str a=>
   clear 5 ry t' rfl
   cases x with
   |non=>cases rx;exact SeqAt.EqAt.str_none a t'
   |bl b=>cases rx;exact SeqAt.EqAt.str_bool a t' b
   |int b=>clear 5 rx t rfl;exact SeqAt.EqAt.str_int a t' b t
   |str b=>clear 5 rx t rfl;exact SeqAt.EqAt.str_str a t' b t
   |_=>exact absurd (show false=true from fx) ue5
 |_=>exact absurd (show false=true from fy) ue5
def eqU(x:V)(u:eo):Bool:=match u with
 |.none=>eqV .non x
 |.bool b=>eqV (.bl b) x
 |.int i _=>eqV (.int i) x
 |.str z _=>eqV (.str z) x
 |_=>false
theorem LD{y:V}{u:eo}(r:RelV y u)(f:DN y=true):eqU x u=eqV y x:=by
 cases y with
 |non=>cases r;rfl
 |bl b=>cases r;rfl
 |int i=>clear 5 r t rfl;rfl
 |str z=>clear 5 r t rfl;rfl
 |_=>exact absurd (show false=true from f) ue5
theorem JB{x:V}:∀{xs:List V}{us:List eo},Vals xs us->xs.all DN=true->us.any (eqU x)=xs.any λy=>eqV y x
 |_,_,.nil,_=>rfl
 |y::xs,u::us,.cons r t,f=>by
   rw[ul1,uh3] at f;rw[ul2,ul2,LD r f.1,JB t f.2]
theorem Gv{A:Around}{s:eS}{x:V}{v:eo}(rx:RelV x v)(fx:DN x=true):∀{xs:List V}{us:List eo},Vals xs us->xs.all DN=true->∀u∈us,SeqAt.EqAt A s u v (eqU x u)
 |_,_,.nil,_=>λu hu=>by cases hu
 |y::xs,u::us,.cons r t,f=>λu' hu=>by
   rw[ul1,uh3] at f;rcases uk8.mp hu with rfl|hu
   .rw[LD r f.1];exact W4 r rx f.1 fx
   .exact Gv rx fx t f.2 u' hu
def inV(x:V)(xs:List V):Bool:=xs.any λy=>eqV y x
def rIn(K:eh)(neg:Bool):R2:=λx y H Q=>∃p xs,y=.ref p/\(SqL K H p xs\/SqT K H p xs)/\DN x=true/\xs.all DN=true/\Q (.bl (if neg then !inV x xs else inV x xs)) H
theorem Qv:OpR X (compareOp .In) (rIn X.K false):=by
 intro ei s σ H x y v u Q I rx ry h;clear 5 h p xs rfl hq fx fs q
 cases ry
 rcases hq with hq|hq
 .clear 5(I.list hq)its r pl hz;refine SeqAt.in_listAt (eqU x) pl.isList (λw hw=>Gv rx fx r fs w (by simpa using hw)) ⟨.bl _,H,I,rfl,?_⟩;rw[show its.toArray.any (eqU x)=its.any (eqU x) by simp,JB r fs];exact q
 .clear 5(I.tuple hq)its r pl hz;refine SeqAt.in_tupleAt (eqU x) pl (λw hw=>Gv rx fx r fs w (by simpa using hw)) ⟨.bl _,H,I,rfl,?_⟩;rw[show its.toArray.any (eqU x)=its.any (eqU x) by simp,JB r fs];exact q
theorem Lu:B4 X (.type "list") (λxs H Q=>∃p ys,xs=[.ref p]/\(SqL X.K H p ys\/SqT X.K H p ys)/\∀l,H l=none->Q (.ref l) (upd H l (.lst ys))):=by
 intro ei s σ H xs us Q I r h;clear 5 h p ys rfl hq q;clear 5(FO r)u rfl rx
 cases rx
 have fin:∀(its:List eo),Vals ys its->ys.length<=sizeLine->∀(h':Heap) (c':Nat),(∀b o',s.heap.get? b=some o'->h'.get? b=some o')->
  h'.get? s.heap.objs.size=some {cls:=.type "list",dict:=none,data:=.seq its.toArray c',slots:=#[]}->EP X ei σ Q (.ref s.heap.objs.size) {s with heap:=h'}:=λits r' hz h' c' kp e=>
  ⟨.ref s.heap.objs.size,_,I.laid (t':=s.toks) kp (un2 _) (show ObjOk X.prog X.w _ h' _ (.lst ys) from⟨hz,its,c',r',e⟩),rfl,q _ (I.hok.fresh (un2 _))⟩
 rcases hq with hq|hq
 .clear 5(I.list hq)its r' pl hz;have hlen:=r'.length;clear 5 pl.isList o ho hc n hd;exact call_list_seq p (.inl rfl) ho hc hd (λh' c' kp e=>fin its r' hz h' c' kp e) (by simp only[uf5]<;>lia)
 .clear 5(I.tuple hq)its r' pl hz;have hlen:=r'.length;clear 5 pl o ho hc n hd;exact call_list_seq p (.inr rfl) ho hc hd (λh' c' kp e=>fin its r' hz h' c' kp e) (by simp only[uf5]<;>lia)
theorem KK:B4 X (.type "tuple") (λxs H Q=>∃p ys,xs=[.ref p]/\((SqL X.K H p ys/\∀l,H l=none->Q (.ref l) (upd H l (.tup ys)))\/(SqT X.K H p ys/\Q (.ref p) H))):=by
 intro ei s σ H xs us Q I r h;clear 5 h p ys rfl h;clear 5(FO r)u rfl rx
 cases rx
 rcases h with⟨hq,q⟩|⟨hq,q⟩
 .clear 5(I.list hq)its r' pl hz;have hlen:=r'.length;refine call_tuple_list pl.isList (λh' kp=>?_) (by simp only[uf5]<;>lia);have I1:Inv X ei σ H {s with heap:=h'}:=I.kept (t':=s.toks) kp;have I2:Inv X ei σ (upd H h'.objs.size (.tup ys)) {s with heap:=h'.push {cls:=.type "tuple",data:=.seq its.toArray} }:=
   I1.laid (t':=s.toks) (λb o e=>uc1 _ e) (un2 _) (show ObjOk X.prog X.w _ _ _ (.tup ys) from⟨hz,its,r',IsTup.new _ _⟩)
  exact⟨.ref h'.objs.size,_,I2,rfl,q _ (I1.hok.fresh (un2 _))⟩
 .clear 5(I.tuple hq)its r' pl hz;exact call_tuple_same pl ⟨.ref p,H,I,rfl,q⟩
def tyV(K:eh)(T:String)(x:V)(H:Hp):Prop:=match x with
 |.str _=>T = "str"
 |.int _=>T = "int"
 | .ref p=>(T = "list"/\∃xs,SqL K H p xs)\/(T = "tuple"/\∃o,K.lookup p=some o/\o.cls = .type "tuple"/\o.dict=none)\/
    (T = "dict"/\((∃kvs,H p=some (.dK kvs))\/∃kvs,H p=some (.dT kvs)))\/(T = "set"/\∃S n,H p=some (.set S n))
 |_=>False
theorem YT{ei:List (eR×Obj)}{σ:St}{H:Hp}{T:String}{v:eo}(I:Inv X ei σ H s)(r:RelV x v)(ty:tyV X.K T x H) :
 s.TypeIs v T/\∀a,v=.ref a->∃ob,s.heap.get? a=some ob/\ob.dict=none:=by
 cases x with
 |str z=>
   clear 5 r t rfl
   cases (show T = "str" from ty)
   exact⟨typeIs_str s z t,λ_ e=>nomatch e⟩
 |int i=>
   clear 5 r t rfl
   cases (show T = "int" from ty)
   exact⟨gn s i t,λ_ e=>nomatch e⟩
 |ref p=>
   cases r
   rcases ty with⟨rfl,xs,hq⟩|⟨rfl,o,hk,hc,hd⟩|⟨rfl,hk⟩|⟨rfl,S,n,hk⟩
   .obtain⟨its,_,pl,_⟩:=I.list hq;refine⟨pl.isList.typeIs,λa e=>?_⟩
    cases e
    obtain⟨o,n,e,c,hd,_⟩:=pl;exact⟨o,e,hd⟩
   .refine⟨⟨o,I.kIn p o hk,hc⟩,λa e=>?_⟩
    cases e
    exact⟨o,I.kIn _ o hk,hd⟩
   .have z:∃o,s.heap.get? p=some o/\o.ExactDict:=by
     rcases hk with⟨kvs,hk⟩|⟨kvs,hk⟩
     .obtain⟨_,_,_,_,o,_,_,e,ex,_⟩:=I.hok p _ hk;exact⟨o,e,ex⟩
     .obtain⟨_,_,_,_,o,_,_,e,ex,_⟩:=I.hok p _ hk;exact⟨o,e,ex⟩
    clear 5 z o e ex;refine⟨⟨o,e,ex.1⟩,λa e2=>?_⟩
    cases e2
    exact⟨o,e,ex.2.1⟩
   .obtain⟨o,_,_,_,e,ex,_⟩:=I.hok p _ hk;refine⟨⟨o,e,ex.1⟩,λa e2=>?_⟩
    cases e2
    exact⟨o,e,ex.2.1⟩
 |_=>exact False.elim ty
def tBM(K:eh)(T:String)(r:V->List V->Hp->VK->Prop)(to:TE)(t:TA):TE:=λσ H Q=>to σ H λx H1=>tyV K T x H1/\t σ H1 λxs H2=>r x xs H2 Q
variable{o e:Expr}{es:List Expr}{to:TE}{t:TA}{name:Str}{apos cpos:Pos}{T id:String}{r:V->List V->Hp->VK->Prop}
theorem K2(pa:PlainAttrs T)(slot:Slot T name id)(hty:typeOf (.builtin id)=pure (.type "method_descriptor"))(hm:MtR X id r)(ho:PE X o to)(ha:PA X (e::es) t)
 (hbase:autoParam (attributeBase o name X.env (eval o X.env)=eval o X.env) q3T)
 (hfew:((backTo cpos (starEach (e :: es) X.env)).all (λx=>!x.1) && (backToKw cpos (keywordEach [] X.env)).all (λx=>x.1.isSome)
   && decide ((e::es).length+([]:List Keyword).length+(if ([]:List Keyword).isEmpty then 0 else 1)<30))=true:=by rfl)
 (hline:autoParam ((apos.endLine==cpos.line)=true) q3T) (hs:autoParam (starEach (e::es) X.env=(false,eval e X.env)::starEach es X.env) q3T) (hplain:autoParam ((backTo cpos (starEach es X.env)).any (·.1)=false) q3T) :
 PE X (.Call (.Attribute o name apos) (e::es) [] cpos) (tBM X.K T r to t):=by
 intro ei s σ H Q I h;refine wpAny_Call_method_late hbase hfew hline rfl (thn (ho ei s σ H _ I h) λv s1 z9=>?_);clear 5 z9 x H1 I1 r1 ty q1;clear 5(YT I1 r1 ty)h1 h2;refine⟨T,id,pa,slot,hty,h1,h2,?_⟩;have hA:=ha cpos ei s1 σ H1 _ I1 q1;rw[hs] at hA⊢;refine Calls.callWith_builtin (by show(false||(backTo cpos (starEach es X.env)).any (·.1))=false;rw[hplain]<;>rfl) (Calls.evalArgs_plain ?_);exact thn hA λus s2 ⟨vs,H2,I2,r2,q2⟩=>hm ei s2 σ H2 x vs v us Q I2 r1 r2 q2
/- xs.append(e),list.index on a module's tuple .. are MtR facts of 06m -/
end
def MtM(X:Cx)(id:String)(r:V->List V->Hp->VK->Prop):Prop:=
 ∀(ei:List (eR×Obj)) (s:eS) (σ:St) (H:Hp) (x:V) (xs:List V) (v:eo) (us:List eo) (Q:VK),Inv X ei σ H s->RelV x v->Vals xs us->r x xs H Q->
  wpAny (model X.prog X.w) X.A (call (.builtin id) (v::us)) (EP X ei σ Q) X.xe s
theorem Vals.one{us:List eo}(h:Vals [x] us):∃u,us=[u]/\RelV x u:=by
 cases h with
 |cons r t=>
   cases t
   exact⟨_,rfl,r⟩
theorem Vals.rep{xs:List V}{us:List eo}(h:Vals xs us):∀k:Nat,Vals (List.replicate k xs).flatten (List.replicate k us).flatten
 |0=>.nil
 |k+1=>by
   rw[ue1,ue1,ug0,ug0];exact Vals.append h (Vals.rep h k)
theorem Ku(its:List eo):∀(k:Nat) (acc:List eo),
 List.foldl (λx1 x2=>x1++x2) acc.toArray (List.replicate k its.toArray)=(acc++(List.replicate k its).flatten).toArray
 |0,acc=>by simp
 |k+1,acc=>by
   have e:acc.toArray++its.toArray=(acc++its).toArray:=by simp
   have e2:(acc++its)++(List.replicate k its).flatten=acc++(List.replicate (k+1) its).flatten:=by
    rw[ue1,ug0,ug1]
   rw[<-e2,<-Ku its k (acc++its),<-e,ue1,uj2]
section
variable{X:Cx}{ei:List (eR×Obj)}{σ:St}{H:Hp}{s:eS}{l b:eR}{xs ys zs:List V}
theorem Inv.lset{its':List eo}{f:Array eo->Array eo}{t':Nat}(I:Inv X ei σ H s)(hH:H l=some (.lst xs))
 (e:s.heap.get? l=some {cls:=.type "list",data:=.seq its.toArray n}) (hf:f its.toArray=its'.toArray) (hv:Vals ys its') (hz:ys.length<=sizeLine) :
 Inv X ei σ (upd H l (.lst ys)) {s with heap:=s.heap.update l (Obj.mapSeq f),toks:=t'}:=by
 have q:=PySem.IsL.update e f;rw[hf] at q;refine I.write (x:=l) (e:=l) (by rw[hH];exact trivial) (.inl rfl) (λb' u hb hu=>(uc3 s.heap (Obj.mapSeq f) (Ne.symm hb)).trans hu) ⟨_,q⟩ ?_;exact⟨hz,its',_,hv,q⟩
theorem Inv.lnew{t':Nat}(I:Inv X ei σ H s)(hv:Vals ys its)(hz:ys.length<=sizeLine) :
 Inv X ei σ (upd H s.heap.objs.size (.lst ys)) {s with heap:=s.heap.push {cls:=.type "list",data:=.seq its.toArray},toks:=t'}:=
 I.laid (λ_ _ q=>uc1 _ q) (un2 _) ⟨hz,its,0,hv,ud9 _ rfl⟩
theorem Inv.fresh(I:Inv X ei σ H s):H s.heap.objs.size=none:=I.hok.fresh (un2 _)
theorem Inv.lstM(I:Inv X ei σ H s)(hH:H l=some (.lst xs)):xs.length<=sizeLine/\∃(its:List eo) (n:Nat),Vals xs its/\xs.length=its.length/\s.heap.get? l=some {cls:=.type "list",data:=.seq its.toArray n}:=by
 clear 5(I.hok l _ hH)z its n r e;exact⟨z,its,n,r,r.length,e⟩
theorem Sy(h:n<=sizeLine):Builtin.List.listTooLong n=false:=by
 unfold Builtin.List.listTooLong;exact uk1 ∅
end
section
variable{X:Cx}
def NJ:V->List V->Hp->VK->Prop:=λx vs H Q=>∃l xs y,x=.ref l/\vs=[y]/\H l=some (.lst xs)/\xs.length<sizeLine/\Q .non (upd H l (.lst (xs++[y])))
theorem Kz:MtM X "list.append" NJ:=by
 intro ei s σ H x vs v us Q I rx rv h;clear 5 h l xs y rfl rfl hH hz q
 cases rx
 clear 5 rv.one u rfl ru;clear 5(I.lstM hH)z its n r hl e;refine gp F.slot_list_append ⟨_,e,rfl⟩ F.entry_list_append (F.args_list_append_2 _ _) (PySem.list_append l its.toArray n u (by rw[uf5];lia)) ⟨e,?_⟩;refine⟨.non,_,I.lset (its':=its++[u]) hH e (by simp) (r.append (.cons ru .nil)) ?_,rfl,q⟩;rw[ue8,uc9];lia
def SS:R2:=λx y H Q=>∃l b xs zs,x=.ref l/\y=.ref b/\H l=some (.lst xs)/\H b=some (.lst zs)/\xs.length+zs.length<=sizeLine/\∀p,H p=none->Q (.ref p) (upd H p (.lst (xs++zs)))
theorem Qr:OpR X (binaryOp .Add) SS:=by
 intro ei s σ H x y v u Q I rx ry h;clear 5 h l b xs zs rfl rfl hH hB hz q
 cases rx
 cases ry
 clear 5(I.lstM hH)z its n r hl e;clear 5(I.lstM hB)z2 its2 n2 r2 hl2 e2;refine PySem.P.add_list e e2 ?_ (by rw[uf5,uf5];lia);have ea:its.toArray++its2.toArray=(its++its2).toArray:=by simp
 rw[ea];exact⟨.ref _,_,I.lnew (t':=s.toks) (r.append r2) (by rw[ue8];lia),rfl,q _ I.fresh⟩
def SU:R2:=λx y H Q=>∃l k xs,x=.ref l/\y=.int k/\H l=some (.lst xs)/\-(2 ^ 63)<=k/\k<2 ^ 63/\xs.length*k.toNat<=sizeLine/\
 ∀p,H p=none->Q (.ref p) (upd H p (.lst (List.replicate k.toNat xs).flatten))
theorem Va(xs:List α)(k:Nat):(List.replicate k xs).flatten.length=k*xs.length:=by
 induction k with
 |zero=>simp
 |succ k ih=>rw[ue1,ug0,ue8,ih,Nat.succ_mul,ge]
theorem Qx:OpR X (binaryOp .Mult) SU:=by
 intro ei s σ H x y v u Q I rx ry h;clear 5 h l k xs rfl rfl hH h1 h2 hz q
 cases rx
 clear 5 ry t rfl;clear 5(I.lstM hH)z its n r hl e;have hlen:its.toArray.size*k.toNat<=sizeLine:=by rw[uf5,<-hl];exact hz
 have hcap:¬its.toArray.size*k.toNat > (2 ^ 63-1)/8:=by
  have:(sizeLine:Nat)<=(2 ^ 63-1)/8:=by decide
  lia
 have hfit:¬(!Builtin.List.listFitsIndex k)=true:=by
  rw[fitsIndex_both h1 h2];exact ue5
 have hlong:¬Builtin.List.listTooLong (its.toArray.size*k.toNat)=true:=by
  rw[Sy hlen];exact ue5
 have hnew:List.foldl (λx1 x2=>x1++x2) #[] (List.replicate (if its.toArray.isEmpty=true then 0 else k.toNat) its.toArray)=(List.replicate k.toNat its).flatten.toArray:=by
  have f0:∀m:Nat,List.foldl (λx1 x2=>x1++x2) #[] (List.replicate m its.toArray)=(List.replicate m its).flatten.toArray:=λm=>by
   have:=Ku its m [];rw[uj3] at this;exact this
  rw[f0]
  cases its with
  |nil=>simp
  |cons a r'=>rw[gG (by simp)]
 refine wpAny_binaryOp_repeat_ref (T:="list") (U:="int") (by decide) ⟨_,e,rfl⟩ (λs'=>gn s' k t) noFill_list_mul F.fills_int_mul F.slot_int_rmul repeat_list F.slot_int_index.lookup
  (gp F.slot_int_rmul (gn s k t) F.entry_int_rmul (F.args_int_rmul_2 _ _) (int___rmul___int_list k t l its.toArray n)
    ⟨e,rfl,⟨_,e,rfl⟩,gp F.slot_list_mul ⟨_,e,rfl⟩ F.entry_list_mul (F.args_list_mul_2 _ _) (AutoListH.list___mul___list_int_3 l its.toArray n k t hfit hcap hlong) ⟨e,?_⟩⟩)
 rw[hnew];exact⟨.ref _,_,I.lnew (t':=s.toks) (r.rep k.toNat) (by rw[Va,Nat.mul_comm];exact hz),rfl,q _ I.fresh⟩
end
section
variable{prog:eT}{w:eU}{A:Around}{E:eo->eS->Prop}{s:eS}
end
section
variable{X:Cx}
end
end
end L2
namespace Att
open PySem PySem.W PySem.Calls PyProof.Rows
theorem Jd{P:Params}{h:Heap}:∀(ns:List Int) (vs:List eo),WellAll P h vs (ns.map WData.int)->IntsAre vs ns:=by
 intro ns
 induction ns with
 |nil=>
   intro vs w;rw[um4] at w
   cases w
   exact .nil
 |cons n ns ih=>
   intro vs w;rw[uk9] at w
   cases w with
   |cons a b=>
     cases a
     exact .cons _ _ (ih _ b)
theorem QS{l:OpenLaw}{n:Nat}(hn:l.most=some n){P:Params}{h:Heap}{args:List WData}{vals:List eo}
 (hpre:l.row.toRowW.claim.pre args=true) (hwl:WellAll P h vals args) :
 ∃a vs ns,vals=[Value.ref a]/\args=[WData.list (ns.map WData.int)]/\h.get? a=some {cls:=.type "list",data:=.seq vs.toArray}/\IntsAre vs ns/\ns.length<=n:=by
 have hsh:WShape.hasAll [] args [.list .int]=true:=(pre_splitW hpre).1;have hc:l.pre.holds [] {args:=args}=true:=(pre_splitW hpre).2;clear 5(hasAllW_cons hsh)d r rfl h1 h2;obtain rfl:=hasAllW_nil h2;clear 5(hasW_list h1)xs rfl h3;clear 5(items_int h3)ns rfl;have hlen:ns.length<=n:=by
  unfold OpenLaw.pre at hc;have h4:(WTm.not (.lt (.lit (.int (n:Int))) (.len (.arg 0)))).holds [] {args:=[.list (ns.map .int)]}=true:=by
   have h4:=(holds_andW hc).1;rw[hn] at h4;exact h4
  have h5:=condW_of h4 (w_not (w_lt w_lit (w_len_list (w_arg rfl))));rw[ui6] at h5;refine Nat.le_of_not_lt λq=>?_;have q':(n:Int)<((ns.length:Nat):Int):=by lia
  first
   |(rw[uk6 q'] at h5;exact absurd h5 (by decide))
   |(simp at h5;lia)
 cases hwl with
 |cons w1 w2=>
   cases w2
   cases w1 with
   |list ho hall=>exact⟨_,_,ns,rfl,rfl,ho,Jd ns _ hall,hlen⟩
theorem QE(l:OpenLaw)(args:List WData):l.row.toRowW.claim.post args (.bool true) args=true:=
 postW_of (r:=l.row.toRowW) (X:=(true==true))
  (show WShape.has [] (.bool true) .bool=true by first|rfl|decide|simp[WShape.has,WShape.arms,WShape.armsAll])
  (show(WTm.eq .res (.lit (.bool true))).value [] {args:=args,res:=some (.bool true),after:=args}=some (.bool (true==true)) from w_eq_bool (w_res rfl) w_lit) rfl
theorem attach_call{l:OpenLaw}{n:Nat}{q:eT}{loose:List Str}{XP:(Str->Option eo)->Heap->Prop}{YP:eU->Heap->Prop}{d:DefRec}
 (hn:l.most=some n) (hdf:d.params.defaults=[])
 (call:∀(w:eU) (s₀ s₁:eS) (mg mb:Str->Option eo) (fa:eR) (o:Obj) (pm cd doc:eo) (a:eR) (vs:List eo) (ns:List Int),
   Ground q loose [] XP w s₀ mg mb s₁.heap->YP w s₁.heap->
   s₁.heap.get? fa=some o->o.data=.func (docDef d.name d.params d.body d.scope pm cd doc)->s₁.heap.CodeRec cd d.name->mg d.name=some (.ref fa)->
   s₁.heap.get? a=some {cls:=.type "list",data:=.seq vs.toArray}->IntsAre vs ns->ns.length<=n->s₁.gens=#[]->
   codeAny (model l.prog w) callerA (.call (.ref fa) ⟨[.ref a],[]⟩) (λr s'=>r=.ok (.ret (.bool true))/\OldK s₁.heap s'.heap/\s'.os=s₁.os/\AllBare s'.gens) s₁) :
 WalkO q loose XP YP l.row.toRowW d [] (λf vs=>PySem.call f vs):=by
 intro w s₀ s₁ mg mb G Y fa o pm cd doc dV kV ho hd hcd hD hmg hg args vals as hpre hlay hrd hwl hlo;obtain rfl:dV=.none:=Dflts.none hD hdf;obtain rfl:kV=.none:=Dflts.noKw hD;clear 5(QS hn hpre hwl)a vs ns rfl rfl hobj hints hlen;refine enter_call (gd (call w s₀ s₁ mg mb fa o pm cd doc a vs ns G Y ho (fd_plain hd) hcd hmg hobj hints hlen hg) λr s' hq=>?_);clear 5 hq rfl h2 h3 h4;exact⟨.inl ⟨.bool true,.bool true,[],rfl,λ_=>rfl,.bool true,QE l _,λ_=>⟨List.Pairwise.nil,λ_ hm=>(nomatch hm)⟩⟩,h2,h3,h4⟩
section
variable{prog:eT}{w:eU}{A:Around}{E:eo->eS->Prop}{s:eS}{K:Frag}
end
end Att
namespace L2
open PySem PySem.Spec PyProof.Rows
theorem KH:∀{vs:List eo}{ns:List Int},IntsAre vs ns->Vals (ns.map V.int) vs
 |_,_,.nil=>.nil
 |_,_,.cons n t h=>.cons ⟨t,rfl⟩ (KH h)
def N4(H:Hp):Prop:=∀b,H b=none\/∃o xs,H b=some (.frz o (.lst xs))
section
variable{P:eT}{w:eU}{fd:eV}{x:Str}
theorem Sg{K:eh}{mg mb:Str->Option eo}{CX:CXT}{k:Nat}{fa a:eR}{sp:Sp}{s₁:eS}{vs:List eo}{ns:List Int}
 (KX:K.In s₁.heap) (hns:s₁.heap.Ns mainGlobals mg) (hb:s₁.heap.Ns builtinsNs mb) (hbb:∀x:Str,x≠"__name__"->mb x=bootBuiltins x) (hlim:s₁.heap.NoLimit) (hg:s₁.gens=#[])
 (ha:s₁.heap.get? a=some {cls:=.type "list",data:=.seq vs.toArray}) (hi:IntsAre vs ns) (hl:ns.length<=sizeLine) (hr:Room k callerA)
 (F:∀base:Heap,K.In base->base.Ns mainGlobals mg->FnOk P w K mg base CX k fa fd [x] sp) (hbind:∀(s:eS) (u:eo),BindsTo s fd ⟨[u],[]⟩ [(x,u)])
 (hsp:∀H:Hp,N4 H->SqL K H a (ns.map V.int)->sp [.ref a] H (λv _=>v=.bl true) λ_ _ _=>False)
 (hCX:∀H e s',CX [] H s₁ (λ_ _ _=>False) e s'->False) :
 codeAny (model P w) callerA (.call (.ref fa) ⟨[.ref a],[]⟩) (λr s'=>r=.ok (.ret (.bool true))/\OldK s₁.heap s'.heap/\s'.os=s₁.os/\AllBare s'.gens) s₁:=by
 have rv:=KH hi;have lenV:=hi.length
 -- from an abstract heap in which nothing but the script may be tracked
 have core:∀H:Hp,N4 H->SqL K H a (ns.map V.int)->HOk P w H s₁.heap->(∀b,H b≠none->b=a)->(H a≠none->K.lookup a=none)->
  codeAny (model P w) callerA (.call (.ref fa) ⟨[.ref a],[]⟩) (λr s'=>r=.ok (.ret (.bool true))/\OldK s₁.heap s'.heap/\s'.os=s₁.os/\AllBare s'.gens) s₁:=by
  intro H hO hS hok hA hK;have base_of:∀{b:eR}{o:Obj},s₁.heap.get? b=some o->H b=none->(Gn s₁.heap H).get? b=some o:=λe n=>Se e n;have noA:∀{b:eR}{o:Obj}{es:Array DictEntry}{ep:Nat},s₁.heap.get? b=some o->o.data=.dict es ep->H b=none:=λ{b o es ep} e d=>by
   cases q:H b with
   |none=>rfl
   |some u=>
     have e':b=a:=hA b (by rw[q];simp);subst e';rw[ha] at e;cases e
     have d':Data.seq vs.toArray _=Data.dict es ep:=d
     cases d'
  have nsK:∀{b:eR}{m:Str->Option eo},s₁.heap.Ns b m->(Gn s₁.heap H).Ns b m:=λ{b m} ⟨o,es,ep,e,d,r⟩=>⟨o,es,ep,base_of e (noA e d),d,r⟩;have hKb:K.In (Gn s₁.heap H):=λb o e=>base_of (KX b o e) (by
   cases q:H b with
   |none=>rfl
   |some u=>
     have e':b=a:=hA b (by rw[q];simp);subst e';rw[hK (by rw[q];simp)] at e;cases e)
  have hM:Mod K mg (Gn s₁.heap H):=⟨hKb,nsK hns,⟨mb,nsK hb,hbb⟩,let ⟨mc,h1,h2⟩:=hlim;⟨mc,nsK h1,h2⟩⟩;have e0:Env0 P w K mg (Gn s₁.heap H) callerA [] s₁ H:=⟨rfl,hM,λb o e=>Vp e,um3 (PY _ _),trivial,λb hb=>absurd (show b∈([]:List eR) from hb) (by simp),hok,.of_eq hg⟩;refine gd ((F _ hKb (nsK hns)).run callerA [] s₁ H ⟨[.ref a],[]⟩ [.ref a] [.ref a] _ _ hr e0 (hbind s₁ (.ref a)) (.cons rfl .nil) (hsp H hO hS)) λr s' h=>?_
  cases r with
  |error e=>exact(hCX H e s' h).elim
  |ok fl=>
    cases fl with
    |next=>exact False.elim h
    |brk=>exact False.elim h
    |cont=>exact False.elim h
    |ret u=>
      clear 5 h v H' os bare un hok' r' q;have q':v=.bl true:=q;subst q';obtain rfl:u=Value.bool true:=r';refine⟨rfl,OldK.of_keep λb o e=>?_,os,bare⟩
      cases q:H b with
      |none=>exact un.keep b o e q (by intro z;exact absurd (show b∈([]:List eR) from z) (by simp)) (by simp)
      |some u=>
        rcases hO b with z|⟨ob,xs,z⟩
        .rw[q] at z;cases z
        .have z2:=un.frzs b ob _ z;obtain⟨e1,_⟩:=hok b _ z;obtain⟨e2,_⟩:=hok' b _ z2;rw[e] at e1;cases e1
         exact e2
 cases hk:K.lookup a with
 |some o=>
   -- the script is one of the module's own objects
   have e:=KX a o hk;rw[ha] at e
   cases e
   refine core (λ_=>none) (λ_=>.inl rfl) (.inr ⟨_,vs.toArray,_,hk,rfl,rfl,rfl,by rw[uf5,lenV];exact hl,by simpa using rv⟩) (λb u z=>by have z':(none:Option HO)=some u:=z;cases z') (λb z=>absurd rfl z) λz=>absurd rfl z
 |none=>
   refine core (λb=>if b=a then some (.frz {cls:=.type "list",data:=.seq vs.toArray} (.lst (ns.map V.int))) else none) (λb=>?_) (.inl (.inr ⟨{cls:=.type "list",data:=.seq vs.toArray},gE rfl⟩)) (λb u z=>?_) (λb z=>?_) λ_=>hk
   .by_cases hb:b=a
    .exact .inr ⟨_,_,gE hb⟩
    .exact .inl (gG hb)
   .by_cases hb:b=a
    .have z':=(gE hb).symm.trans z
     cases z'
     subst hb;exact⟨ha,by rw[ui6];exact hl,vs,_,rv,ha⟩
    .have z':=(gG hb).symm.trans z
     cases z'
   .by_cases hb:b=a
    .exact hb
    .exact absurd (gG hb) z
theorem WB{l:PySem.W.OpenLaw}{n k:Nat}{q:eT}{loose:List Str}{XP:(Str->Option eo)->Heap->Prop}{YP:eU->Heap->Prop}{d:DefRec}{K:Params->eh}{CX:eU->CXT}{sp:eU->Sp}
 (hn:l.most=some n) (hn2:n<=sizeLine) (hdf:d.params.defaults=[]) (hr:Room k callerA)
 (hY:∀(w:eU) (h:Heap),YP w h->(K w.params).In h)
 (F:∀(w:eU) (mg:Str->Option eo) (fa:eR) (h:Heap),(K w.params).In h->h.Ns mainGlobals mg->mg d.name=some (.ref fa)->
   ∃fd:eV,(∀(s:eS) (u:eo),BindsTo s fd ⟨[u],[]⟩ [(x,u)])/\
    ∀base:Heap,(K w.params).In base->base.Ns mainGlobals mg->FnOk l.prog w (K w.params) mg base (CX w) k fa fd [x] (sp w))
 (hsp:∀(w:eU) (H:Hp) (a:eR) (ns:List Int),ns.length<=n->N4 H->SqL (K w.params) H a (ns.map V.int)->sp w [.ref a] H (λv _=>v=.bl true) λ_ _ _=>False)
 (hCX:∀(w:eU) (H:Hp) (s:eS) (e:eo) (s':eS),CX w [] H s (λ_ _ _=>False) e s'->False) :
 PySem.W.WalkO q loose XP YP l.row.toRowW d [] (λf vs=>PySem.call f vs):=by
 refine Att.attach_call hn hdf λw s₀ s₁ mg mb fa o pm cd doc a vs ns G Y ho hd hcd hmg hobj hints hlen hg=>?_;have KX:=hY w _ Y;clear 5(F w mg fa _ KX G.T.g hmg)fd hb hF;exact Sg KX G.T.g G.T.b G.T.builtins G.T.nolimit hg hobj hints (um0 hlen hn2) hr hF hb (λH hO hS=>hsp w H a ns hlen hO hS) λH e s'=>hCX w H s₁ e s'
noncomputable def D1(s:Stmt):Arguments:=match s with
 |.FunctionDef _ a _ _ _ _ _ _ _ _=>a
 |_=>{posonlyargs:=[],args:=[],vararg:=none,kwonlyargs:=[],kw_defaults:=[],kwarg:=none,defaults:=[]}
noncomputable def Bp(s:Stmt):List Stmt:=match s with
 |.FunctionDef _ _ b _ _ _ _ _ _ _=>b
 |_=>[]
noncomputable def Ap(s:Stmt):Scope:=match s with
 |.FunctionDef _ _ _ _ _ _ sc _ _ _=>sc
 |_=>{kind:=.function,names:=[],isGenerator:=false,isCoroutine:=false}
abbrev CX0:CXT:=λ_ _ _ _ _ _=>False
abbrev E0:XK:=λ_ _ _=>False
variable{X:Cx}
theorem OK:FW CX0 X E0:=λ_ _ _ _ _ _ _ h=>h.elim
structure Fun(K:eh)(x qual:Str)(st:Stmt)(f:eR)(fd:eV):Prop where
 ex:∃(oc:eo) (od:Option eR) (kV doc pm:eo) (an:Option eR) (cdv ct:eo) (osl:Array (Option eo)),
  fd=PySem.W.fnOf x qual (D1 st) (Bp st) (Ap st) .none kV doc pm an cdv ct/\K.lookup f=some ⟨oc,od,.func fd,osl⟩/\PySem.W.codeIn K cdv qual=true
 kp:PySem.W.keepIn K (.ref f)=true
variable{qual:Str}{f:eR}
section
variable{P:eT}{w:eU}{K:eh}{mg:Str->Option eo}{base:Heap}
theorem Fun.ok{st:Stmt}{N ps:List Str}{k:Nat}{sp:Sp}(F:Fun K x qual st f fd)(S:FnScope N ps (Ap st))(len:∀vs H Q E,sp vs H Q E->vs.length=ps.length)
 (hbody:∀(cdv:eo) (A:Around) (outer:List Env) (s:eS) (H:Hp) (vs:List V) (Q:VK) (E:XK),Room k (A.deeper (envOfC qual (Ap st) s.heap.objs.size f cdv))->sp vs H Q E->
   ∃t,PSs (Dy CX0 P w K mg base N qual (Ap st) f cdv A outer s H E).nox (Bp st) t/\t {nx:=λ_ H'=>Q .non H',rt:=Q} (start N vs) H):FnOk P w K mg base CX0 (k+1) f fd ps sp:=by
 clear 5 F.ex oc od kV doc pm an cdv ct osl rfl lk hcd;refine TY lk hcd S len λA outer s H vs Q E hr hsp=>?_;clear 5(hbody cdv A outer s H vs Q E hr hsp)t h q;exact⟨t,h.nox,q⟩
theorem Fun.binds{st:Stmt}{ps:List Str}(F:Fun K x qual st f fd)
 (h:∀(kV doc pm:eo) (an:Option eR) (cdv ct:eo) (us:List eo),us.length=ps.length->bindArgs (PySem.W.fnOf x qual (D1 st) (Bp st) (Ap st) .none kV doc pm an cdv ct) ⟨us,[]⟩=pure (ps.zip us)):Binds K fd ps []:=by
 clear 5 F.ex oc od kV doc pm an cdv ct osl rfl lk hcd;exact .all (h kV doc pm an cdv ct)
theorem FY{st:Stmt}{oc:eo}{od an:Option eR}{osl:Array (Option eo)}{kV doc pm cdv ct:eo}(l:K.lookup f=some ⟨oc,od,.func (PySem.W.fnOf x qual (D1 st) (Bp st) (Ap st) .none kV doc pm an cdv ct),osl⟩)
 (c:PySem.W.codeIn K cdv qual=true) (k:PySem.W.keepIn K (.ref f)=true):Fun K x qual st f (PySem.W.fnOf x qual (D1 st) (Bp st) (Ap st) .none kV doc pm an cdv ct):=⟨⟨oc,od,kV,doc,pm,an,cdv,ct,osl,rfl,l,c⟩,k⟩
end
section
variable{X:Cx}
end
section
variable{κ:Type}[DecidableEq κ]
noncomputable def Ep(kvs:List (κ×V))(k:κ):Option V:=(kvs.find? λkv=>decide (kv.1=k)).map (·.2)
noncomputable def DG(kvs:List (κ×V))(k:κ)(v:V):List (κ×V):=
 if (kvs.any λkv=>decide (kv.1=k))=true then kvs.map (λkv=>if kv.1=k then(kv.1,v) else kv) else kvs++[(k,v)]
theorem MK{p:κ×V}{r:List (κ×V)}{k:κ}(e:p.1=k):Ep (p::r) k=some p.2:=by simp[Ep,uj4,e]
theorem MJ{p:κ×V}{r:List (κ×V)}{k:κ}(e:¬p.1=k):Ep (p::r) k=Ep r k:=by simp[Ep,uj4,e]
theorem HW(kvs:List (κ×V))(k:κ)(v:V):(DG kvs k v).length<=kvs.length+1:=by
 unfold DG
 split
 .rw[ui6];lia
 .rw[ue8,ug9,uj5];lia
theorem KV.val{kvs:List (κ×V)}{vs:List (κ×eo)}(r:KV kvs vs)(k:κ):RelO (Ep kvs k) (valueAt vs k):=by
 unfold KV at r
 induction r with
 |nil=>exact True.intro
 |@cons p q ps qs h t ih=>
   clear 5 h h1 h2
   by_cases e:p.1=k
   .have e':q.1=k:=h1.symm.trans e;have b:valueAt (q::qs) k=some q.2:=by simp[valueAt,uj4,e']
    rw[MK e,b];exact h2
   .have e':¬q.1=k:=λz=>e (h1.trans z);have b:valueAt (q::qs) k=valueAt qs k:=by simp[valueAt,uj4,e']
    rw[MJ e,b];exact ih
theorem KV.any{kvs:List (κ×V)}{vs:List (κ×eo)}(r:KV kvs vs)(k:κ):(kvs.any λkv=>decide (kv.1=k))=vs.any λkv=>decide (kv.1=k):=by
 unfold KV at r
 induction r with
 |nil=>rfl
 |cons h t ih=>rw[ul2,ul2,ih,h.1]
theorem KV.repl{kvs:List (κ×V)}{vs:List (κ×eo)}(r:KV kvs vs)(k:κ){y:V}{u:eo}(ry:RelV y u) :
 KV (kvs.map λkv=>if kv.1=k then(kv.1,y) else kv) (vs.map λkv=>if kv.1=k then(kv.1,u) else kv):=by
 unfold KV at r⊢
 induction r with
 |nil=>exact .nil
 |@cons p q ps qs h t ih=>
   rw[uk9,uk9];refine .cons ?_ ih;clear 5 h h1 h2
   by_cases e:p.1=k
   .rw[gE e,gE (h1.symm.trans e)];exact⟨h1,ry⟩
   .rw[gG e,gG (λz=>e (h1.trans z))];exact⟨h1,h2⟩
theorem KV.put{kvs:List (κ×V)}{vs:List (κ×eo)}(r:KV kvs vs)(k:κ){y:V}{u:eo}(ry:RelV y u):KV (DG kvs k y) (stored vs k u):=by
 unfold DG stored;rw[r.any k]
 by_cases e:(vs.any λkv=>decide (kv.1=k))=true
 .rw[gE e,gE e];exact r.repl k ry
 .rw[gG e,gG e];exact Paired.snoc r ⟨rfl,ry⟩
theorem KV.length{kvs:List (κ×V)}{vs:List (κ×eo)}(r:KV kvs vs):kvs.length=vs.length:=Paired.length r
end
theorem Ou{k:Key}{u:eo}(r:RelV (kV k) u):(B8 P w).is k u=true:=by
 cases k with
 |inl i=>clear 5((show ∃t,u=Value.int i t from r))t e;subst e;exact MQ P w i t
 |inr x=>clear 5((show ∃t,u=Value.str x t from r))t e;subst e;exact MR P w x t
variable{kvs:List (Key×V)}
section
variable{P:eT}{w:eU}{H:Hp}{h:Heap}{a:eR}
theorem ZJ{u:HO}(ok:HOk P w H h)(e:Rd H a u):ObjOk P w H h a u:=e.ok ok
theorem Zd(ok:HOk P w H h)(e:Rd H a (.dK kvs)):kvs.length<=sizeLine/\(a==sysModules)=false/\∃vs,KV kvs vs/\h.DictOf (B8 P w) a vs:=
 show ObjOk P w H h a (.dK kvs) from ZJ ok e
theorem IQ(ok:HOk P w H h)(e:H a=some (.dK kvs)):kvs.length<=sizeLine/\(a==sysModules)=false/\∃vs,KV kvs vs/\h.DictOf (B8 P w) a vs:=Zd ok (.inl e)
end
def DGet(H:Hp)(a:eR)(y:V)(r:Option V):Prop:=
 (∃kvs k,Rd H a (.dK kvs)/\y=kV k/\r=Ep kvs k)\/∃kvs k b,Rd H a (.dT kvs)/\y=.ref b/\H b=some (.tup (k.map kV))/\r=Ep kvs k
theorem DGet.k{H:Hp}{a:eR}{k:Key}(e:H a=some (.dK kvs)):DGet H a (kV k) (Ep kvs k):=.inl ⟨kvs,k,.inl e,rfl,rfl⟩
section
variable{X:Cx}{ei:List (eR×Obj)}{σ:St}{H:Hp}{s:eS}{a:eR}{y v:V}{u r:eo}{o:Option V}{A:Around}{E:eo->eS->Prop}
theorem Inv.big(I:Inv X ei σ H s):sysModules<s.heap.objs.size:=by
 have h:mainGlobals<s.heap.objs.size:=(I.mod.glob.keeps I.bk).lt;exact Nat.lt_trans (by decide) h
theorem M2{h':Heap}{t':Nat}{ob:HO}(I:Inv X ei σ H s)(mu:Mut (H a))(hs:Heap.SameBut a s.heap h')(he:∃q,h'.get? a=some q)(new:ObjOk X.prog X.w (upd H a ob) h' a ob) :
 Inv X ei σ (upd H a ob) {s with heap:=h',toks:=t'}:=
 I.write (x:=a) (e:=a) mu (.inl rfl) (λb q hb z=>(hs.2 b hb).trans z) he new
theorem Pw{H':Hp}{h':Heap}{vs:List (Key×eo)}(z:kvs.length<=sizeLine)(hd:(a==sysModules)=false)(rel:KV kvs vs)(dd:h'.DictOf (B8 P w) a vs) :
 ObjOk P w H' h' a (.dK kvs):=⟨z,hd,vs,rel,dd⟩
end
section
variable{X:Cx}{ei:List (eR×Obj)}{σ:St}{H:Hp}{s:eS}{a:eR}{kvs:List (Key×V)}{k:Key}{u:eo}{A:Around}{E:eo->eS->Prop}
end
section
variable{X:Cx}{o i e value:Expr}{pos pos' tpos:Pos}{td ty tv:TE}
end
theorem LB{H:Hp}(h:Heap)(hb:sysModules<h.objs.size):ObjOk P w H (h.push {cls:=.type "dict",data:=.dict #[]}) h.objs.size (.dK []):=
 ⟨un3 _,fE.mpr (Ne.symm (ul9 hb)),[],.nil,Heap.DictOf.new h⟩
def YN:TE:=λ_ H Q=>∀p,H p=none->Q (.ref p) (upd H p (.dK []))
section
variable{X:Cx}{pos:Pos}
theorem SJ:PE X (.Dict [] [] pos) YN:=λei s σ H Q I h=>
 wpAny_Dict_empty ⟨.ref s.heap.objs.size,_,I.laid (a:=s.heap.objs.size) (o:=.dK []) (t':=s.toks) (λ_ _ q=>uc1 _ q) (un2 _) (LB s.heap I.big),rfl,h _ (I.hok.fresh (un2 _))⟩
end
def Jt:List (TE×TE)->St->Hp->(List (V×V)->Hp->Prop)->Prop
 |[],_,H,Q=>Q [] H
 |(tk,tv)::r,σ,H,Q=>tk σ H λx H1=>tv σ H1 λy H2=>Jt r σ H2 λps H3=>Q ((x,y)::ps) H3
abbrev VV:List (V×V)->List (eo×eo)->Prop:=Paired λp q=>RelV p.1 q.1/\RelV p.2 q.2
def PPs(X:Cx)(pos:Pos)(keys:List (Option Expr))(values:List Expr)(trs:List (TE×TE)):Prop:=
 ∀(ei:List (eR×Obj)) (s:eS) (σ:St) (H:Hp) (Q:List (V×V)->Hp->Prop),Inv X ei σ H s->Jt trs σ H Q->
  wpAny (model X.prog X.w) X.A (evalPairs (pairTrees keys values X.env pos)) (λvs s'=>∃ps H',Inv X ei σ H' s'/\VV ps vs/\Q ps H') X.xe s
theorem VM{pos:Pos}:PPs X pos [] [] []:=λei s σ H Q I h=>pairTrees_nil_walk ⟨[],H,I,.nil,h⟩
theorem SO{pos:Pos}{k v:Expr}{ks:List (Option Expr)}{vs:List Expr}{tk tv:TE}{trs:List (TE×TE)}(hk:PE X k tk)(hv:PE X v tv)(hr:PPs X pos ks vs trs) :
 PPs X pos (some k::ks) (v::vs) ((tk,tv)::trs):=λei s σ H Q I h=>
 pairTrees_cons_walk (thn (hk ei s σ H _ I h) λu s1 ⟨x,H1,I1,rx,q1⟩=>thn (hv ei s1 σ H1 _ I1 q1) λw2 s2 ⟨y,H2,I2,ry,q2⟩=>
  thn (hr ei s2 σ H2 _ I2 q2) λws s3 ⟨ps,H3,I3,rel,q3⟩=>⟨(x,y)::ps,H3,I3,.cons ⟨rx,ry⟩ rel,q3⟩)
def Fo(kvs more:List (Key×V)):List (Key×V):=more.foldl (λacc kv=>DG acc kv.1 kv.2) kvs
theorem KV.merge:∀{more:List (Key×V)}{rs:List (Key×eo)}{kvs:List (Key×V)}{vs:List (Key×eo)},KV more rs->KV kvs vs->KV (Fo kvs more) (merged vs rs):=by
 intro more rs kvs vs r;unfold KV at r
 induction r generalizing kvs vs with
 |nil=>intro q;exact q
 |@cons p q ps qs h t ih=>
   intro r0;have e:KV (DG kvs p.1 p.2) (stored vs q.1 q.2):=by
    have:=r0.put p.1 h.2;rw[<-h.1];exact this
   exact ih e
theorem GF:∀(more kvs:List (Key×V)),(Fo kvs more).length<=kvs.length+more.length
 |[],kvs=>by show kvs.length<=kvs.length+0;lia
 |p::r,kvs=>by
   have h1:=GF r (DG kvs p.1 p.2);have h2:=HW kvs p.1 p.2;show(Fo (DG kvs p.1 p.2) r).length<=_;rw[ug9];lia
theorem IM{P:eT}{w:eU}:∀{kvs:List (Key×V)}{ws:List (eo×eo)},VV (kvs.map λkv=>(kV kv.1,kv.2)) ws->∃rs,Carries (B8 P w) ws rs/\KV kvs rs
 |[],_,r=>by rw[um4] at r;cases r;exact⟨[],True.intro,.nil⟩
 |p::kvs,_,r=>by
   rw[uk9] at r
   cases r with
   |@cons a b as bs h t=>
     clear 5(IM (P:=P) (w:=w) t)rs c q;clear 5 b b1 b2;exact⟨(p.1,b2)::rs,⟨Ou h.1,rfl,c⟩,.cons ⟨rfl,h.2⟩ q⟩
def ZS(trs:List (TE×TE)):TE:=λσ H Q=>∀p,H p=none->Jt trs σ (upd H p (.dK [])) λps H2=>H2 p=some (.dK [])/\∃kvs:List (Key×V),ps=kvs.map (λkv=>(kV kv.1,kv.2))/\kvs.length<=15/\Q (.ref p) (upd H2 p (.dK (Fo [] kvs)))
theorem VA{pos:Pos}{keys:List (Option Expr)}{values:List Expr}{trs:List (TE×TE)}(h:PPs X pos keys values trs)(hall:keys.all (·.isSome)=true)(hl:keys.length=values.length)(h0:keys≠[])
 (h15:keys.length<=15):PE X (.Dict keys values pos) (ZS trs):=by
 intro ei s σ H Q I q;have hn:=I.hok.fresh (un2 s.heap.objs.size);have I1:=I.laid (a:=s.heap.objs.size) (o:=.dK []) (h':=s.heap.push {cls:=.type "dict",data:=.dict #[]}) (t':=s.toks) (λ_ _ q=>uc1 _ q) (un2 _) (LB s.heap I.big);refine wpAny_Dict_walk (knd:=B8 X.prog X.w) hall hl h0 h15 (thn (h ei _ σ _ _ I1 (q _ hn)) λws s2 z9=>?_);clear 5 z9 ps H2 I2 rel e kvs ep lk q2;subst ep;clear 5(IM (P:=X.prog) (w:=X.w) rel)rs c rk;clear 5(IQ I2.hok e)z hd vs0 r0 dd
 cases r0
 refine⟨rs,c,dd,λh' dd' hs=>⟨.ref s.heap.objs.size,_,?_,rfl,q2⟩⟩;have hz:(Fo [] kvs).length<=sizeLine:=by
  have h1:=GF kvs [];rw[uj5] at h1;rw[gj];lia
 have he:∃q,h'.get? s.heap.objs.size=some q:=let ⟨q,_,_,hq,_⟩:=dd';⟨q,hq⟩;exact M2 I2 (by rw[e];exact True.intro) hs he (Pw hz hd (rk.merge .nil) dd')
theorem Fg{env:Env}:∀(l:List (Str×NameKind)) (cs:List (Str×eR)),(∀x c,cs.lookup x=some c->env.cells.lookup x=some c)->(∀y∈l,y.2=.free->∃c,env.cells.lookup y.1=some c)->
 ∃cl,(forIn l cs λ(x:Str×NameKind) r=>(match x with|(name,kind)=>if (kind==NameKind.free)=true then do let c <-cellOf env name;pure (ForInStep.yield ((name,c)::r)) else pure (ForInStep.yield r):Sem (ForInStep (List (Str×eR)))))=pure cl/\
  (∀x c,cl.lookup x=some c->env.cells.lookup x=some c)/\(∀x c,cs.lookup x=some c->∃c',cl.lookup x=some c')/\∀y∈l,y.2=.free->∃c,cl.lookup y.1=some c
 |[],cs,h,_=>⟨cs,rfl,h,λ_ c e=>⟨c,e⟩,λ_ z=>nomatch z⟩
 |(n,k)::l,cs,h,hf=>by
   by_cases hk:k=.free
   .subst hk;clear 5(hf (n,.free) ue4 rfl)c hc;have hc':env.cells.lookup n=some c:=hc;have e:cellOf env n=pure c:=by unfold cellOf;rw[hc']
    obtain⟨cl,e1,e2,e3,e4⟩:=Fg l ((n,c)::cs) (λx c' q=>by
     rw[uh4] at q
     by_cases hx:(x==n)=true
     .rw[hx] at q;cases q;rw[eq_of_beq hx];exact hc'
     .rw[ug2.mpr hx] at q;exact h x c' q) (λy hy=>hf y (ud3 _ hy))
    have self:((n,c)::cs).lookup n=some c:=by rw[uh4,ui3]
    refine⟨cl,?_,e2,λx c' q=>?_,λy hy hyf=>?_⟩
    .rw[List.forIn_cons];simp only[ui3,gC,e];exact e1
    .by_cases hx:(x==n)=true
     .rw[eq_of_beq hx];exact e3 n c self
     .exact e3 x c' (by rw[uh4,ug2.mpr hx];exact q)
    .rcases uk8.mp hy with z|z
     .subst z;exact e3 n c self
     .exact e4 y z hyf
   .have hb:(k==NameKind.free)=false:=by simpa using hk
    clear 5(Fg l cs h (λy hy=>hf y (ud3 _ hy)))cl e1 e2 e3 e4;refine⟨cl,?_,e2,e3,λy hy hyf=>?_⟩
    .rw[List.forIn_cons];simp only[hb,ue9,gw];exact e1
    .rcases uk8.mp hy with z|z
     .subst z;exact absurd hyf hk
     .exact e4 y z hyf
theorem IP{scope:Scope}{env:Env}(h:∀y∈scope.names,y.2=.free->∃c,env.cells.lookup y.1=some c) :
 ∃cl,closureFor scope env=pure cl/\(∀x c,cl.lookup x=some c->env.cells.lookup x=some c)/\∀y∈scope.names,y.2=.free->∃c,cl.lookup y.1=some c:=by
 obtain⟨cl,e1,e2,_,e4⟩:=Fg (env:=env) scope.names [] (λ_ _ q=>nomatch q) h;refine⟨cl,?_,e2,e4⟩;simp only[closureFor]
 first|(rw[e1];rfl)|(simp only[e1];rfl)|(trace_state;exact e1)
theorem Ly{prog:eT}{A:Around}{R:Result->eS->Prop}{s:eS}{elt target iter:Expr}{ifs:List Expr}{scope:Scope}{pos:Pos}{it acc:eo}{env:Env}(I:Nat->eS->Prop)
 (turn:∀n s,I n s->wpAny (model prog w) A (pyNext it) (λr s₁=>match r with
   |none=>R (.ok .next) s₁
   | some v=>wpAny (model prog w) A (letOwnedTupleGo target it v) (λ_ s₁'=>wpAny (model prog w) A (assign target env v) (λ_ s₂=>
      wpAny (model prog w) A (forIn ifs true λc r=>if r=true then do let ok <-isTrue c env (eval c env);pure (ForInStep.yield ok) else pure (ForInStep.yield r)) (λok s₃=>
       if ok=true then wpAny (model prog w) A (eval elt env) (λx s₄=>
        wpAny (model prog w) A (call (.builtin "list.append") [acc,x]) (λ_ s₅=>∃m,m<n/\I m s₅) (λ_ _=>False) s₄) (λ_ _=>False) s₃
       else ∃m,m<n/\I m s₃) (λ_ _=>False) s₂) (λ_ _=>False) s₁') (λ_ _=>False) s₁) (λ_ _=>False) s)
 (n:Nat) (h:I n s) :
 codeAny (model prog w) A (.compLoop (.ListComp elt [⟨target,iter,ifs,0⟩] scope pos) 0 it acc env) R s:=by
 refine codeAny_loop rfl I (λn s hI=>?_) n h;show wpAny _ A ((compTurn (.ListComp elt [⟨target,iter,ifs,0⟩] scope pos) 0 it acc env).onRaise (λx=>do noteFrame x env;theTreesLotGoes x)) _ _ s;refine wpAny_noted ?_;rw[compTurn_list];refine un6 (fX (un6 (un8 (turn n s hI) (λr s₁ h₁=>?_) λ_ _ h'=>h'.elim)))
 cases r with
 |none=>exact un7 h₁
 |some v=>
   refine un6 (un8 h₁ (λ_ s₁' h₁'=>?_) λ_ _ h'=>h'.elim);refine un6 (un8 h₁' (λ_ s₂ h₂=>un6 (un8 h₂ (λok s₃ h₃=>?_) λ_ _ h'=>h'.elim)) λ_ _ h'=>h'.elim)
   cases ok with
   |false=>exact un7 ⟨rfl,h₃⟩
   |true=>
     exact un6 (un6 (un8 h₃ (λx s₄ h₄=>un6 (un8 h₄ (λ_ s₅ h₅=>un7 (un7 ⟨rfl,h₅⟩)) λ_ _ h'=>h'.elim)) λ_ _ h'=>h'.elim))
end
noncomputable def BD(X:Cx)(N':List Str)(scope:Scope)(cl:List (Str×eR))(C:eR)(s2:eS)(H2:Hp)(fp:List eR):Cx where
 prog:=X.prog
 w:=X.w
 K:=X.K
 mg:=X.mg
 base:=X.base
 A:=X.A
 N:=N'
 s₀:=s2
 H₀:=H2
 env:=compEnvC scope cl C X.env
 outer:=X.stack
 stack:=X.stack
 ex:=fp
 fn:=λ_=>false
 calm:=X.calm
 pn:=[]
 xe:=λ_ _=>False
theorem HX(h:Str->NameKind->NameKind)(x:Str):∀l:List (Str×NameKind),(l.map λp=>(p.1,h p.1 p.2)).lookup x=(l.lookup x).map (h x)
 |[]=>rfl
 |(n,k)::l=>by
   show List.lookup x ((n,h n k)::_)=_;rw[uh4,uh4]
   by_cases hx:(x==n)=true
   .rw[hx,eq_of_beq hx];rfl
   .rw[ug2.mpr hx];exact HX h x l
theorem F8(scope:Scope)(env:Env)(x:Str):(relabel scope env).names.lookup x=(scope.names.lookup x).map λk=>if (k==.free&&env.scope.kind==.function&&env.kindOf x==some .cell)=true then .cell else k:=by
 rw[<-HX (λn k=>if (k==NameKind.free&&env.scope.kind==.function&&env.kindOf n==some .cell)=true then .cell else k) x scope.names];unfold relabel;dsimp only
 congr 1
 apply ue2;intro p _;clear 5 p n k;dsimp only
 split<;>rfl
theorem Cr{x:Str}{k:NameKind}:∀{l:List (Str×NameKind)},l.lookup x=some k->(x,k)∈l
 |(n,k')::l,h=>by
   rw[uh4] at h
   by_cases hx:(x==n)=true
   .rw[hx] at h;cases h;rw[eq_of_beq hx];exact ue4
   .rw[ug2.mpr hx] at h;exact ud3 _ (Cr h)
theorem Mp{scope:Scope}{env:Env}{x:Str}(hcell:∀y∈scope.names,y.2≠.cell)(h:(relabel scope env).names.lookup x=some .cell\/(relabel scope env).names.lookup x=some .free):scope.names.lookup x=some .free:=by
 rw[F8] at h
 cases e:scope.names.lookup x with
 |none=>rw[e] at h;rcases h with h|h<;>cases h
 |some k=>
   by_cases hk:k=.free
   .rw[hk]
   .have hb:(k==NameKind.free)=false:=by simpa using hk
    rw[e] at h;simp only[uj6,hb,uk3,ue9,gw] at h;rcases h with h|h
    .cases h;exact absurd rfl (hcell _ (Cr e))
    .cases h;exact absurd rfl hk
def PIf(X:Cx)(ifs:List Expr)(t:TT):Prop:=
 ∀(ei:List (eR×Obj)) (s:eS) (σ:St) (H:Hp) (Q:Bool->Hp->Prop),Inv X ei σ H s->t σ H Q->
  wpAny (model X.prog X.w) X.A (forIn ifs true λc r=>if r=true then do let ok <-isTrue c X.env (eval c X.env);pure (ForInStep.yield ok) else pure (ForInStep.yield r)) (TP X ei σ Q) X.xe s
def ZY:TT:=λ_ H Q=>Q true H
theorem VG{X:Cx}:PIf X [] ZY:=λ_ _ _ H _ I h=>wpAny_tests_nil ⟨H,I,h⟩
def Q2(J:It)(g:TG)(tt:TT)(te:TE)(σ₀:St)(H1:Hp)(Fin:List V->Hp->Prop):Prop:=
 ∃W:Nat->Nat->List V->St->Hp->Prop,(∃m,W 0 m [] σ₀ H1)/\∀i m acc σ' H',W i m acc σ' H'->acc.length<=sizeLine/\
  ((J.stop i H'/\Fin acc H')\/
    (J.go i H'/\∀x H2,J.yld i H' x H2->g x σ' H2 λσ3 H3=>tt σ3 H3 λb H4=>if b=true then te σ3 H4 λv H5=>∃m',m'<m/\W (i+1) m' (acc++[v]) σ3 H5 else ∃m',m'<m/\W (i+1) m' acc σ3 H4))
def K5(wi:TI)(g:TG)(tt:TT)(te:TE)(σf:St->St):TE:=λσ H Q=>wi σ H λJ H1=>Q2 J g tt te (σf σ) H1 λacc H'=>∀p,H' p=none->acc.length<=sizeLine->Q (.ref p) (upd H' p (.lst acc))
structure CmpOk(X:Cx)(scope:Scope)(N':List Str)(σf:St->St):Prop where
 kind:scope.kind=.function
 cell:∀y∈scope.names,y.2≠.cell
 loc:∀y∈scope.names,y.2=.local->scope.names.lookup y.1=some .local
 free:∀y∈scope.names,y.2=.free->X.env.kindOf y.1=some .cell\/X.env.kindOf y.1=some .free
 len:∀σ:St,σ.length=X.N.length->(σf σ).length=N'.length
 vals:∀(σ:St) (j:Nat) (x:Str) (v:V),N'[j]?=some x->(σf σ)[j]?=some (some v)->∃i:Nat,X.N[i]?=some x/\σ[i]?=some (some v)/\scope.names.lookup x=some .free
section
variable{ei:List (eR×Obj)}{σ:St}{H2:Hp}{s2:eS}{cl:List (Str×eR)}{fp:List eR}
section
variable{X:Cx}{tg elt iter:Expr}{ifs:List Expr}{scope:Scope}{pos:Pos}{N':List Str}{wi:TI}{g:TG}{tt:TT}{te:TE}{σf:St->St}
theorem WX{C:eR}(O:CmpOk X scope N' σf)(I2:Inv X ei σ H2 s2)(f2:∀b∈fp,FpOk X ei H2 b)(hC:s2.heap.objs.size<=C)
 (hlt:∀b∈fp,b<s2.heap.objs.size) (e2:∀x c,cl.lookup x=some c->X.env.cells.lookup x=some c) (e4:∀y∈scope.names,y.2=.free->∃c,cl.lookup y.1=some c):(BD X N' scope cl C s2 H2 fp).Ok where
 mod:=I2.ok.mod
 kind:=O.kind
 glob:=I2.ok.glob
 blt:=I2.ok.blt
 above:=hC
 inj:=λx y c h1 h2=>I2.ok.inj x y c (e2 x c h1) (e2 y c h2)
 has:=λx h=>by
  have q:=Mp (env:=X.env) (x:=x) O.cell h;exact e4 _ (Cr q) rfl
 cab:=λx c h _=>nomatch h
 hd:=I2.ok.hd
 frames:=I2.ok.frames
 stk:=.inl rfl
 exf:=λb hb=>⟨ul9 (ue3 (hlt b hb) hC),λx c e=>(f2 b hb).2.2.2.2.1 x c (e2 x c e)⟩
 bs:=I2.bs
 bsz:=um0 I2.ok.bsz I2.sz
 noex:=λb o e hb=>by
  rcases (f2 b hb).2.2.2.1 with z|z
  .exact I2.ok.noex b o e z
  .exact absurd (ue3 (ul8 (I2.ok.bs b o e).1) z) (uk7 _)
 exfs:=λb hb z=>by
  rcases uk8.mp (I2.stkSub b z) with q|q
  .exact(f2 b hb).2.1 q
  .exact(f2 b hb).2.2.1 q
 funs:=I2.stack
 frf:=I2.stkFree
theorem YK(I2:Inv X ei σ H2 s2){a:eR}(h:s2.heap.objs.size<=a):a∉frs X.stack:=λhb=>by
 rcases uk8.mp (I2.stkSub a hb) with q|q
 .exact absurd (ue3 I2.lt h) (by rw[q];exact uk7 _)
 .exact I2.nofs h q
theorem Lj{it:eR}{tn:Nat->Heap->Prop}{J:It}{Fin:List V->Hp->Prop}{RR:eo->eR->Result->eS->Prop}{E:eo->eS->Prop}(O:CmpOk X scope N' σf)(hc:X.calm=true)
 (I2:Inv X ei σ H2 s2) (T:Turn X.prog X.w X.K tg J fp it tn) (st2:tn 0 s2.heap) (f2:∀b∈fp,FpOk X ei H2 b)
 (e2:∀x c,cl.lookup x=some c->X.env.cells.lookup x=some c) (e4:∀y∈scope.names,y.2=.free->∃c,cl.lookup y.1=some c)
 (hg:∀C,PG (BD X N' scope cl C s2 H2 fp) tg g) (ht:∀C,PIf (BD X N' scope cl C s2 H2 fp) ifs tt) (he:∀C,PE (BD X N' scope cl C s2 H2 fp) elt te)
 (B:Q2 J g tt te (σf σ) H2 Fin)
 (fin:∀C s' σ' H' acc m,s2.heap.objs.size<=C->C≠s2.heap.objs.size->Inv (BD X N' scope cl C s2 H2 fp) [] σ' H' s'->H' s2.heap.objs.size=none->acc.length<=sizeLine->(∃its n,Vals acc its/\s'.heap.get? s2.heap.objs.size=some { cls:=.type "list",data:=.seq its.toArray n })->Fin acc H'->s'.heap.Ns C m->
   RR (.ref s2.heap.objs.size) C (.ok .next) s') :
 wpAny (model X.prog X.w) X.A (newList []) (λacc s₃=>wpAny (model X.prog X.w) X.A (newFunctionEnv scope X.env.globals cl [] X.env.qual none .none (some X.env)) (λcenv s₄=>
  codeAny (model X.prog X.w) X.A (.compStart (.ListComp elt [⟨tg,iter,ifs,0⟩] scope pos) 0 (.ref it) acc {cenv with scope:=relabel scope X.env}) (RR acc cenv.locals) s₄) E s₃) E s2:=by
 refine wpAny_newObj_type (wpAny_newFunctionEnv O.cell (by intro y hy;simp at hy) (λh₁ hns₁ hsb₁=>?_) O.kind);dsimp only at hns₁ hsb₁⊢;generalize hH2:s2.heap.push {cls:=.type "list",dict:=none,data:=.seq ([]:List eo).toArray}=HP at hns₁ hsb₁⊢;have hC:HP.objs.size=s2.heap.objs.size+1:=by rw[<-hH2,fV]
 generalize hDD:s2.heap.objs.size=DD at *;generalize hCC:HP.objs.size=CC at *;have hDC:DD≠CC:=by rw[hC];exact ul9 (uh0 _)
 have hCle:s2.heap.objs.size<=CC:=by rw[hC,hDD];exact un4 _
 have hlt:∀b∈fp,b<s2.heap.objs.size:=λb hb=>by obtain⟨o,e,_⟩:=T.obj _ _ st2 b hb;exact ul8 e
 have hlt':∀b∈fp,b<DD:=λb hb=>by rw[<-hDD];exact hlt b hb
 have below:∀b,b<DD->b≠CC/\b≠DD:=λb hb=>⟨by rw[hC];exact ul9 (Nat.lt_succ_of_lt hb),ul9 hb⟩;have old:∀b o,s2.heap.get? b=some o->h₁.get? b=some o:=λb o e=>hsb₁.extBut b o (below b (by rw[<-hDD];exact ul8 e)).1 (uc1 _ (hH2 ▸ uc1 _ e));have hacc:h₁.get? DD=some {cls:=.type "list",data:=.seq ([]:List eo).toArray}:=by
  refine hsb₁.extBut _ _ hDC (uc1 _ ?_);rw[<-hH2,<-hDD];exact ud9 _ rfl
 have ok:=WX (cl:=cl) (C:=CC) O I2 f2 hCle hlt e2 e4;have hfs:DD∉frs X.stack:=YK I2 (by rw[hDD];exact un2 _);obtain⟨W,⟨m0,w0⟩,turn⟩:=B
 let X':Cx:=BD X N' scope cl CC s2 H2 fp
 have I0:Inv X' [] (σf σ) H2 {s2 with heap:=h₁,toks:=s2.toks+([]:List (Str×eo)).length}:=by
  refine⟨ok,rfl,I2.bare,Un.kept old,⟨_,hns₁,λj x v q1 q2 q3=>?_⟩,λx c e=>?_,I2.hok.fresh hCle,λx c e=>I2.freeC x c (e2 x c e),(λp hp=>nomatch hp),I2.hok.kept old,O.len σ I2.len⟩
  .clear 5(O.vals σ j x v q1 q2)i n1 n2 n3;obtain⟨m,_,hl⟩:=I2.loc;have hfr:=O.free _ (Cr n3) rfl;clear 5(hl i x v n1 n2 (.inr hfr))u r l;refine⟨u,r,?_⟩;rcases l with⟨k,_⟩|⟨_,c,ec,hcell⟩
   .rcases hfr with z|z<;>(have z':=k.symm.trans z;cases z')
   .clear 5(e4 _ (Cr n3) rfl)c' ec';have z:=e2 _ _ ec';have ez:X.env.cells.lookup x=some c':=z;rw[ec] at ez
    cases ez
    refine .inr ⟨?_,c,ec',?_⟩
    .show(relabel scope X.env).names.lookup x=some .cell\/(relabel scope X.env).names.lookup x=some .free;rw[F8,n3];simp only[uj6]
     split
     .exact .inl rfl
     .exact .inr rfl
    .clear 5 hcell o ho hd;exact⟨o,old _ _ ho,hd⟩
  .clear 5(I2.cell x c (e2 x c e))v o ho hd;exact⟨v,o,old _ _ ho,hd⟩
 have loop:∀s₃:eS,s₃ = {s2 with heap:=h₁,toks:=s2.toks+([]:List (Str×eo)).length}->
  codeAny (model X.prog X.w) X.A (.compLoop (.ListComp elt [⟨tg,iter,ifs,0⟩] scope pos) 0 (.ref it) (.ref DD) (compEnvC scope cl CC X.env)) (RR (.ref DD) CC) s₃:=by
  rintro s₃ rfl;refine Ly (λn s'=>XB6 λi acc its nn σ' H'=>AB7 (Inv X' [] σ' H' s') (tn i s'.heap) ((∀b∈fp,H' b=none)) (Vals acc its) (s'.heap.get? DD=some {cls:=.type "list",data:=.seq its.toArray nn}) (H' DD=none) (W i n acc σ' H')) ?_ m0
   ⟨0,[],[],0,σf σ,H2,I0,T.keep _ _ _ st2 (λb _ o e=>old b o e),λb hb=>(f2 b hb).1,.nil,hacc,I2.hok.fresh (by rw[hDD];exact un2 _),w0⟩
  rintro n s' ⟨i,acc,its,nn,σ3,H3,I3,st3,fr3,hv,hD,hDn,w3⟩;have I3p:Inv X' [(DD,({cls:=.type "list",data:=.seq its.toArray nn}:Obj))] σ3 H3 s':=I3.pins_of λp hp=>by
   have e:p=(DD,({cls:=.type "list",data:=.seq its.toArray nn}:Obj)):=by simpa using hp
   subst e;exact⟨hD,hDn,hDC,hfs,λv z=>nomatch z⟩
  have stat:∀{pins':List (eR×Obj)}{H':Hp},(∀p∈pins',p.1=DD)->(∀b∈fp,H' b=none)->∀b∈fp,FpOk X' pins' H' b:=λ{pins' H'} hp hn b hb=>
   ⟨hn b hb,(ok.exf b hb).1,ok.exfs b hb,.inl hb,(ok.exf b hb).2,λp hp' z=>by
    have e:p.1=DD:=hp p (by simpa[X',BD] using hp');exact absurd (hlt' b hb) (by rw[<-z,e];exact uk7 _)⟩
  have one:∀p∈[(DD,({cls:=.type "list",data:=.seq its.toArray nn}:Obj))],p.1=DD:=λp hp=>by
   have e:p=(DD,({cls:=.type "list",data:=.seq its.toArray nn}:Obj)):=by simpa using hp
   rw[e]
  clear 5(turn i n acc σ3 H3 w3)hz tr;rcases tr with⟨stop,qf⟩|⟨go,step⟩
  .refine thn (T.done X' rfl rfl rfl hc i _ s' σ3 H3 (λ_ _=>False) I3p (stat one fr3) st3 stop) λr s4 z9=>?_;clear 5 z9 hr I4;subst hr;obtain⟨m4,hm4,_⟩:=I4.loc;have pD:=(I4.pin (DD,({cls:=.type "list",data:=.seq its.toArray nn}:Obj)) (by simp[X',BD])).1;have I4':Inv X' [] σ3 H3 s4:=I4.pins_of λp hp=>nomatch hp;exact fin CC s4 σ3 H3 acc m4 (by rw[hDD] at hCle;exact hCle) (Ne.symm hDC) I4' hDn hz ⟨its,nn,hv,pD⟩ qf hm4
  .refine thn (T.item X' rfl rfl rfl hc i _ s' σ3 H3 (λ_ _=>False) I3p (stat one fr3) st3 go) λr s4 z9=>?_;clear 5 z9 u hr h4;subst hr;refine thn h4 λ_ s5 z9=>?_;clear 5 z9 x H5 I5 r5 y5 st5 fr5;have I5':=I5.pinned (stat one fr5) (T.obj _ _ st5);refine thn (hg CC _ s5 σ3 H5 x u _ I5' r5 (step x H5 y5)) λ_ s6 z9=>?_;clear 5 z9 σ6 H6 I6 q6;refine thn (ht CC _ s6 σ6 H6 _ I6 q6) λb s7 z9=>?_;clear 5 z9 H7 I7 q7;have back:∀{H8:Hp}{s8:eS},Inv X' ([(DD,({cls:=.type "list",data:=.seq its.toArray nn}:Obj))]++Hi fp s5.heap) σ6 H8 s8->
    s8.heap.get? DD=some {cls:=.type "list",data:=.seq its.toArray nn}/\H8 DD=none/\tn (i+1) s8.heap/\(∀b∈fp,H8 b=none)/\Inv X' [] σ6 H8 s8:=λ{H8 s8} I8=>by
    have p1:=I8.pin (DD,({cls:=.type "list",data:=.seq its.toArray nn}:Obj)) (by simp[X',BD]);refine⟨p1.1,p1.2.1,T.keep _ _ _ st5 λb hb o e=>(I8.pin (b,o) (uc6 _ (uc6 _ (E4 hb e)))).1,λb hb=>?_,I8.pins_of λp hp=>nomatch hp⟩;obtain⟨o,e,_⟩:=T.obj _ _ st5 b hb;exact(I8.pin (b,o) (uc6 _ (uc6 _ (E4 hb e)))).2.1
   cases b with
   |false=>
     rw[gG ue5] at q7⊢;clear 5 q7 m' hm w7;clear 5(back I7)a1 a2 a3 a4 a5;exact⟨m',hm,i+1,acc,its,nn,σ6,H7,a5,a3,a4,hv,a1,a2,w7⟩
   |true=>
     rw[gE rfl] at q7⊢;refine thn (he CC _ s7 σ6 H7 _ I7 q7) λy s8 z9=>?_;clear 5 z9 v8 H8 I8 r8 m' hm w8;clear 5(back I8)a1 a2 a3 a4 a5;have hsz:its.toArray.size<=sizeLine:=by
      have e:=hv.length;simpa[e] using hz
     refine wpAny_list_append_plain (hsz:=hsz) ⟨nn,a1⟩ λh9 hl9 hs9=>?_;clear 5 hl9 n9 e9;have e9':h9.get? DD=some {cls:=.type "list",data:=.seq (its++[y]).toArray n9}:=by simpa using e9
     refine⟨m',hm,i+1,acc++[v8],its++[y],n9,σ6,H8,a5.turned (t':=s8.toks) (h':=h9) (it:=DD) (λb o hb e=>hs9.extBut b o hb e) a2 hDC (.inr (show s2.heap.objs.size<=DD by rw[hDD];exact un2 _)) (λx' c e z=>?_) (λp hp=>nomatch hp),T.keep _ _ _ a3 λb hb o e=>hs9.extBut b o (ul9 (hlt' b hb)) e,a4,hv.append (.cons r8 .nil),e9',a2,w8⟩;clear 5(I2.cell x' c (e2 x' c e))v o ho hd;have:=ul8 ho;rw[hDD,z] at this;exact uk7 _ this
 exact codeAny_compStart_list (loop _ rfl) (T.self _ 0 _ _ _ (T.keep _ _ _ st2 λb _ o e=>old b o e) (loop _ rfl))
end
section
variable{X:Cx}{tg elt iter:Expr}{ifs:List Expr}{scope:Scope}{pos:Pos}{N':List Str}{wi:TI}{g:TG}{tt:TT}{te:TE}{σf:St->St}
theorem Kn{σ':St}{H':Hp}{s':eS}{C:eR}{acc:List V}{its:List eo}{n:Nat}{h':Heap}(I2:Inv X ei σ H2 s2)(f2:∀b∈fp,FpOk X ei H2 b)
 (hC:s2.heap.objs.size<=C) (hCD:C≠s2.heap.objs.size) (I':Inv (BD X N' scope cl C s2 H2 fp) [] σ' H' s') (hDn:H' s2.heap.objs.size=none) (hz:acc.length<=sizeLine) (hv:Vals acc its)
 (hD:s'.heap.get? s2.heap.objs.size=some {cls:=.type "list",data:=.seq its.toArray n}) (hs:Heap.SameBut C s'.heap h') :
 Inv X ei σ (upd H' s2.heap.objs.size (.lst acc)) {s' with heap:=h'}:=by
 have U:=I'.base;have lt:∀b o,s2.heap.get? b=some o->b≠C/\b≠s2.heap.objs.size:=λb o e=>⟨ul9 (ue3 (ul8 e) hC),ul9 (ul8 e)⟩;have neD:∀b u,H' b=some u->b≠s2.heap.objs.size:=λb u e=>AA e hDn;have neC:∀b u,H' b=some u->b≠C:=λb u e=>AA e I'.free;refine I2.call' (s':={s' with heap:=h'}) (ch:=fp) I'.os ⟨λb o e n hb hx=>?_,λb o e n hb hx=>?_,λb o e n hx=>?_,λb o e hx=>?_,λb xs e=>?_,λb o u e=>?_,λb ps e=>?_⟩ ?_ I'.bare λb hb=>⟨(f2 b hb).2.2.2.1,(f2 b hb).2.1,(f2 b hb).2.2.2.2.1,(f2 b hb).2.2.2.2.2⟩
 .exact hs.extBut b o (lt b o e).1 (U.keep b o e n hb hx)
 .clear 5(U.slot b o e n hb hx)sl q;exact⟨sl,hs.extBut b _ (lt b o e).1 q⟩
 .rw[Ai (lt b o e).2];exact U.free b o e n hx
 .clear 5(U.there b o e hx)o' q;exact⟨o',hs.extBut b _ (lt b o e).1 q⟩
 .have q:=U.tups b xs e;rw[Ai (neD b _ q)];exact q
 .have q:=U.frzs b o u e;rw[Ai (neD b _ q)];exact q
 .clear 5(U.tbls b ps e)m q;exact⟨m,by rw[Ai (neD b _ q)];exact q⟩
 .intro b u e
  by_cases hb:b=s2.heap.objs.size
  .subst hb;rw[Am] at e
   cases e
   exact⟨hz,its,n,hv,hs.extBut _ _ (Ne.symm hCD) hD⟩
  .rw[Ai hb] at e;refine(I'.hok b u e).stay (λc v hc q=>hs.extBut c v ?_ q) (λc q=>by rw[Ai (neD c _ q)];exact q) λc xs q=>by rw[Ai (neD c _ q)];exact q
   rcases hc with z|z
   .rw[z];exact neC b u e
   .exact neC c _ z
theorem NE(O:CmpOk X scope N' σf)(hc:X.calm=true)(hi:PI X tg iter wi)
 (hg:∀cl C s2 H2 fp,PG (BD X N' scope cl C s2 H2 fp) tg g) (ht:∀cl C s2 H2 fp,PIf (BD X N' scope cl C s2 H2 fp) ifs tt) (he:∀cl C s2 H2 fp,PE (BD X N' scope cl C s2 H2 fp) elt te)
 (hs:autoParam (∀x,foldedSetIterable iter X.env x=pure x) q2T):PE X (.ListComp elt [⟨tg,iter,ifs,0⟩] scope pos) (K5 wi g tt te σf):=by
 intro ei s σ H Q I h;obtain⟨cl,e1,e2,e4⟩:=IP (scope:=scope) (env:=X.env) λy hy hf=>I.ok.has y.1 (O.free y hy hf);rw[eval_ListComp];refine wpAny_comprehension_free (use:=none) rfl hs e1 O.kind O.loc (thn (hi ei s σ H _ I h) λv s1 h1=>thn h1 λitv s2 h2=>?_);clear 5 h2 it fp tn J H2 rfl I2 T st2 f2 B;refine Lj (RR:=λacc C=>compPost (model X.prog X.w) X.A X.xe none (EP X ei σ Q) acc C) O hc I2 T st2 f2 e2 e4 (λC=>hg cl C s2 H2 fp) (λC=>ht cl C s2 H2 fp) (λC=>he cl C s2 H2 fp) B ?_;intro C s' σ' H' acc m hC hCD I' hDn hz hL fin hn;clear 5 hL its n hv hD;refine⟨m,hn,λh' hs'=>?_⟩;exact⟨.ref s2.heap.objs.size,upd H' _ (.lst acc),Kn I2 f2 hC hCD I' hDn hz hv hD hs',rfl,fin _ hDn hz⟩
set_option tactic.hygienic true in
theorem NG{i:Nat}{y:Str}{py spos:Pos}(O:CmpOk X scope N' σf)(hc:X.calm=true)(hN:X.N.Nodup)(hiN:X.N[i]?=some y)(hx:X.env.scope.names.lookup y=some .local)(hi:PI X tg iter wi)
 (hg:∀cl C s2 H2 fp,PG (BD X N' scope cl C s2 H2 fp) tg g) (ht:∀cl C s2 H2 fp,PIf (BD X N' scope cl C s2 H2 fp) ifs tt) (he:∀cl C s2 H2 fp,PE (BD X N' scope cl C s2 H2 fp) elt te)
 (hsw:autoParam (swapsWith (.ListComp elt [⟨tg,iter,ifs,0⟩] scope pos) (some (.Name y py)) spos.line X.env=pure true) q3T)
 (hs:autoParam (∀x,foldedSetIterable iter X.env x=pure x) q2T):PS X (.Assign [.Name y py] (.ListComp elt [⟨tg,iter,ifs,0⟩] scope pos) spos) (MF (K5 wi g tt te σf) (Ja i)):=by
 intro ei s σ H D I h;obtain⟨cl,e1,e2,e4⟩:=IP (scope:=scope) (env:=X.env) λy hy hf=>I.ok.has y.1 (O.free y hy hf);rw[exec_Assign_Name_used _ _ _ _ hsw];refine un6 (fX (un6 ?_));show wpAny _ X.A (do let _ <-comprehension (.ListComp elt [⟨tg,iter,ifs,0⟩] scope pos) scope X.env _ (newList []) false (eval iter X.env) (some (assign (.Name y py) X.env))) _ _ s;refine un6 (thn (wpAny_comprehension_free (use:=some (assign (.Name y py) X.env)) (Q:=λ_ s'=>SP X ei D .next s') rfl hs e1 O.kind O.loc (thn (hi ei s σ H _ I h) λv s1 h1=>thn h1 λitv s2 h2=>?_)) (λ_ s' hq=>un7 (un7 hq)));clear 5 h2 it fp tn J H2 rfl I2 T st2 f2 B;refine Lj (RR:=λacc C=>compPost (model X.prog X.w) X.A X.xe (some (assign (.Name y py) X.env)) (λ_ s'=>SP X ei D .next s') acc C) O hc I2 T st2 f2 e2 e4 (λC=>hg cl C s2 H2 fp) (λC=>ht cl C s2 H2 fp) (λC=>he cl C s2 H2 fp) B ?_;intro C s' σ' H' acc m hC hCD I' hDn hz hL fin hn;clear 5 hL its n hv hD;show wpAny _ X.A (assign (.Name y py) X.env (.ref s2.heap.objs.size)) _ _ _;have I3:=Kn I2 f2 hC hCD I' hDn hz hv hD (Heap.SameBut.refl ..);refine wpAny_assign_Name (Ho I3 hN hiN (.inl hx) (v:=.ref s2.heap.objs.size) rfl (λs4 I4 z9=>?_) (.inr hx));clear 5 z9 a hsb ha;have hCL:C≠X.env.locals:=um2 (ue3 I2.lt hC);have hCc:∀x c,X.env.cells.lookup x=some c->c≠C:=λx c e z=>by
  clear 5(I2.cell x c e)v q;exact absurd (ue3 q.lt (by rw[z];exact hC)) (uk7 _)
 have hCa:C≠a:=by
  rcases ha with z|z
  .rw[z];exact hCL
  .exact λq=>hCc _ _ z q.symm
 refine⟨m,hn.sameBut hsb hCa,λh' hs'=>?_⟩;have hnC:(upd H' s2.heap.objs.size (.lst acc)) C=none:=by rw[Ai hCD];exact I'.free
 refine⟨_,_,I4.turned (t':=s4.toks) (h':=h') (it:=C) (λb o hb e=>hs'.extBut b o hb e) hnC hCL (.inr (um0 I2.sz hC)) hCc (λp hp z=>?_),fin _ hDn hz⟩;exact absurd (ue3 (ul8 (I2.pin p hp).1) (by rw[z];exact hC)) (uk7 _)
end
end
set_option autoImplicit false
inductive D where
 |non|bl (b:Bool)|int (i:Int)|str (x:Str)|tup (xs:List D)|lst (xs:List D)|scr (ns:List Int)|dic|obj (k:Nat)|ty (n:String)|exc (n:Str) (xs:List D)
structure Cf where
 ι:List eR
 O:eR->Prop
def Cf.A(c:Cf)(a:eR):Prop:=a∈c.ι\/c.O a
def Scr(K:eh)(c:Cf)(H:Hp)(a:eR)(vs:List V):Prop:=
 ((∃o,H a=some (.frz o (.lst vs)))/\¬c.A a)\/
   ∃(o:Obj) (its:Array eo) (n:Nat),K.lookup a=some o/\o.cls=.type "list"/\o.dict=none/\o.data=.seq its n/\its.size<=sizeLine/\Vals vs its.toList
def XIs(qx:Bool)(x C:eR)(dx:Option eR)(h:Heap):Prop:=∃(o:Obj) (vs:Array eo),h.get? x=some o/\o.cls=.ref C/\o.dict=dx/\o.data=.fields vs/\(qx=true->vs[2]?=some .none/\4<vs.size)
noncomputable def Ig(n:Str):List Str:=if n = "NoTalk" then ["at"] else if n = "Broken" then ["at", "side"] else []
def XFld(c:Cf)(H:Hp)(dx:Option eR)(ns:List Str)(vs:List V):Prop:=match dx with
 |none=>vs=[]
 |some d=>H d=some (.xd (ns.zip vs))/\¬c.A d
mutual
inductive Rep(K:eh)(c:Cf)(H:Hp):V->D->Prop where
 |non:Rep K c H .non .non
 |bl (b:Bool):Rep K c H (.bl b) (.bl b)
 |int (i:Int):Rep K c H (.int i) (.int i)
 |str (x:Str):Rep K c H (.str x) (.str x)
 |ty (n:String):Rep K c H (.ty n) (.ty n)
 |tup {a:eR}{vs:List V}{ds:List D}:H a=some (.tup vs)->¬c.A a->Reps K c H vs ds->Rep K c H (.ref a) (.tup ds)
 |lst {a:eR}{vs:List V}{ds:List D}:H a=some (.lst vs)->¬c.A a->Reps K c H vs ds->Rep K c H (.ref a) (.lst ds)
 |scr {a:eR}{ns:List Int}:Scr K c H a (ns.map V.int)->Rep K c H (.ref a) (.scr ns)
 |dic {a:eR}:H a=some (.dK [])->¬c.A a->Rep K c H (.ref a) .dic
 |obj {a:eR}{k:Nat}:c.ι[k]?=some a->Rep K c H (.ref a) (.obj k)
 |exc {qx:Bool}{x C:eR}{dx:Option eR}{n:Str}{vs:List V}{ds:List D}:PySem.W.nsIn K mainGlobals n=some (some (.ref C))->H x=some (.ext (XIs qx x C dx))->¬c.A x->XFld c H dx (Ig n) vs->Reps K c H vs ds->Rep K c H (.ref x) (.exc n ds)
inductive Reps(K:eh)(c:Cf)(H:Hp):List V->List D->Prop where
 |nil:Reps K c H [] []
 |cons {v:V}{d:D}{vs:List V}{ds:List D}:Rep K c H v d->Reps K c H vs ds->Reps K c H (v::vs) (d::ds)
end
def Rpv(K:eh)(c:Cf)(H:Hp)(v:V):D->Prop
 |.non=>v=.non
 |.bl b=>v=.bl b
 |.int i=>v=.int i
 |.str x=>v=.str x
 |.ty n=>v=.ty n
 |.tup ds=>∃a vs,v=.ref a/\H a=some (.tup vs)/\¬c.A a/\Reps K c H vs ds
 |.lst ds=>∃a vs,v=.ref a/\H a=some (.lst vs)/\¬c.A a/\Reps K c H vs ds
 |.scr ns=>∃a,v=.ref a/\Scr K c H a (ns.map V.int)
 |.dic=>∃a,v=.ref a/\H a=some (.dK [])/\¬c.A a
 |.obj k=>∃a,v=.ref a/\c.ι[k]?=some a
 |.exc _ _=>True
theorem Rep.rv{K:eh}{c:Cf}{H:Hp}{v:V}{d:D}(h:Rep K c H v d):Rpv K c H v d:=by cases h<;>first|rfl|trivial|exact⟨_,rfl,by assumption⟩|exact⟨_,rfl,by assumption,by assumption⟩|exact⟨_,_,rfl,by assumption,by assumption,by assumption⟩
structure Ext(c:Cf)(H:Hp)(c':Cf)(H':Hp):Prop where
 keep:∀b o,H b=some o->¬c.A b->H' b=some o
 av:∀b o,H b=some o->c'.A b->c.A b
 io:∀(k:Nat) (a:eR),c.ι[k]?=some a->c'.ι[k]?=some a
section
variable{c:Cf}{H:Hp}
theorem Ext.refl:Ext c H c H:=⟨λ_ _ h _=>h,λ_ _ _ h=>h,λ_ _ h=>h⟩
theorem Ext.trans{c1 c2:Cf}{H1 H2:Hp}(a:Ext c H c1 H1)(b:Ext c1 H1 c2 H2):Ext c H c2 H2:=by
 refine⟨λx o h n=>?_,λx o h n=>?_,λk x h=>b.io k x (a.io k x h)⟩
 .exact b.keep x o (a.keep x o h n) λz=>n (a.av x o h z)
 .by_cases q:c.A x
  .exact q
  .exact a.av x o h (b.av x o (a.keep x o h q) n)
variable{K:eh}{a:eR}{vs:List V}
theorem Scr.mono{c':Cf}{H':Hp}(e:Ext c H c' H')(h:Scr K c H a vs):Scr K c' H' a vs:=by
 rcases h with⟨⟨o,h⟩,n⟩|h
 .exact .inl ⟨⟨o,e.keep _ _ h n⟩,λz=>n (e.av _ _ h z)⟩
 .exact .inr h
theorem Scr.sq(h:Scr K c H a vs):SqL K H a vs:=by
 rcases h with⟨h,_⟩|h
 .exact .inl (.inr h)
 .exact .inr h
theorem XFld.mono{c':Cf}{H':Hp}{dx:Option eR}{ns:List Str}(e:Ext c H c' H')(h:XFld c H dx ns vs):XFld c' H' dx ns vs:=by
 cases dx with
 |none=>exact h
 |some d=>exact⟨e.keep _ _ h.1 h.2,λz=>h.2 (e.av _ _ h.1 z)⟩
mutual
theorem Rep.mono{K:eh}{c c':Cf}{H H':Hp}(e:Ext c H c' H'){v:V}{d:D}(r:Rep K c H v d):Rep K c' H' v d:=by
 cases r with
 |non=>exact .non
 |bl b=>exact .bl b
 |int i=>exact .int i
 |str x=>exact .str x
 |ty n=>exact .ty n
 |tup h n r=>exact .tup (e.keep _ _ h n) (λz=>n (e.av _ _ h z)) (Reps.mono e r)
 |lst h n r=>exact .lst (e.keep _ _ h n) (λz=>n (e.av _ _ h z)) (Reps.mono e r)
 |scr h=>exact .scr (h.mono e)
 |dic h n=>exact .dic (e.keep _ _ h n) (λz=>n (e.av _ _ h z))
 |obj h=>exact .obj (e.io _ _ h)
 |exc g h n f r=>exact .exc g (e.keep _ _ h n) (λz=>n (e.av _ _ h z)) (f.mono e) (Reps.mono e r)
theorem Reps.mono{K:eh}{c c':Cf}{H H':Hp}(e:Ext c H c' H'){vs:List V}{ds:List D}(r:Reps K c H vs ds):Reps K c' H' vs ds:=by
 cases r with
 |nil=>exact .nil
 |cons h t=>exact .cons (Rep.mono e h) (Reps.mono e t)
end
section
variable{K:eh}{c:Cf}{H:Hp}
theorem Reps.length:∀{vs:List V}{ds:List D},Reps K c H vs ds->vs.length=ds.length
 |_,_,.nil=>rfl
 |_,_,.cons _ t=>by simp[Reps.length t]
theorem Reps.get:∀{vs:List V}{ds:List D}{i:Nat}{v:V}{d:D},Reps K c H vs ds->vs[i]?=some v->ds[i]?=some d->Rep K c H v d
 |_,_,_,_,_,.nil,e,_=>by simp at e
 |_,_,0,_,_,.cons r _,e,e'=>by simp at e e';subst e e';exact r
 |_,_,i+1,_,_,.cons _ t,e,e'=>Reps.get (i:=i) t (by simpa using e) (by simpa using e')
theorem Reps.at:∀{vs:List V}{ds:List D}{i:Nat}{d:D},Reps K c H vs ds->ds[i]?=some d->∃v,vs[i]?=some v/\Rep K c H v d
 |_,_,_,_,.nil,e=>by simp at e
 |_,_,0,_,.cons r _,e=>by simp at e;subst e;exact⟨_,rfl,r⟩
 |_,_,i+1,_,.cons _ t,e=>by
   clear 5(Reps.at (i:=i) t (by simpa using e))v h1 h2;exact⟨v,by simpa using h1,h2⟩
theorem Reps.append{vs ws:List V}{ds es:List D}(r:Reps K c H vs ds)(s:Reps K c H ws es):Reps K c H (vs++ws) (ds++es):=by
 cases r with
 |nil=>exact s
 |cons r t=>exact .cons r (Reps.append t s)
theorem Reps.take:∀{vs:List V}{ds:List D} (n:Nat),Reps K c H vs ds->Reps K c H (vs.take n) (ds.take n)
 |_,_,0,_=>.nil
 |_,_,_+1,.nil=>.nil
 |_,_,n+1,.cons r t=>.cons r (Reps.take n t)
theorem Reps.drop:∀{vs:List V}{ds:List D} (n:Nat),Reps K c H vs ds->Reps K c H (vs.drop n) (ds.drop n)
 |_,_,0,r=>r
 |_,_,_+1,.nil=>.nil
 |_,_,n+1,.cons _ t=>Reps.drop n t
theorem Reps.set{v:V}{d:D}(r:Rep K c H v d):∀{vs:List V}{ds:List D} (i:Nat),Reps K c H vs ds->Reps K c H (vs.set i v) (ds.set i d)
 |_,_,_,.nil=>.nil
 |_,_,0,.cons _ t=>.cons r t
 |_,_,i+1,.cons q t=>.cons q (Reps.set r i t)
theorem Reps.ints:∀ns:List Int,Reps K c H (ns.map V.int) (ns.map D.int)
 |[]=>.nil
 |n::r=>.cons (.int n) (Reps.ints r)
theorem Reps.rep{vs:List V}{ds:List D}(h:Reps K c H vs ds):∀k:Nat,Reps K c H (List.replicate k vs).flatten (List.replicate k ds).flatten
 |0=>.nil
 |k+1=>by
   rw[ue1,ue1,ug0,ug0];exact h.append (Reps.rep h k)
end
inductive Ob where
 |lst (xs:List D)
 |dct (kvs:List (Key×D))
 |ins (n:Str) (fs:List (Str×D))
inductive Sl where
 |val (d:D)
 |own (xs:List D)
structure T where
 env:List (Option Sl)
 S:List Ob
def KVR(K:eh)(c:Cf)(H:Hp):List (Key×V)->List (Key×D)->Prop:=Paired λp q=>p.1=q.1/\Rep K c H p.2 q.2
noncomputable def JL:List Str:=["Reader", "Side", "Lasting", "Parley", "Listener", "Relay", "Desk"]
noncomputable def atN:List Str:=["grammar", "standing", "wires", "places", "side", "said", "taken", "handed", "left", "right", "under_way", "grammars", "standings", "heard", "left_grammar", "right_grammar", "rows", "pair", "broken", "parley"]
def FldR(K:eh)(c:Cf)(H:Hp):List (Str×V)->List (Str×D)->Prop:=Paired λp q=>p.1=q.1/\Rep K c H p.2 q.2
def ObR(K:eh)(c:Cf)(H:Hp)(a:eR):Ob->Prop
 |.lst ds=>∃vs,H a=some (.lst vs)/\Reps K c H vs ds
 |.dct kvs=>∃us,H a=some (.dK us)/\KVR K c H us kvs
 |.ins n fs=>(n∈JL/\∀p∈fs,p.1∈atN)/\∃C dx us,PySem.W.nsIn K mainGlobals n=some (some (.ref C))/\H a=some (.ins C dx us)/\FldR K c H us fs
theorem ObR.mono{K:eh}{c c':Cf}{H H':Hp}{a:eR}{o:Ob}(e:Ext c H c' H')(h:ObR K c H a o)(ha:H' a=H a):ObR K c' H' a o:=by
 cases o with
 |lst ds=>clear 5 h vs h1 h2;exact⟨vs,ha.trans h1,h2.mono e⟩
 |dct kvs=>clear 5 h us h1 h2;exact⟨us,ha.trans h1,Paired.mapP h2 λ_ _ z=>⟨z.1,z.2.mono e⟩⟩
 |ins n fs=>clear 5 h h0 C dx us g h1 h2;exact⟨h0,C,dx,us,g,ha.trans h1,Paired.mapP h2 λ_ _ z=>⟨z.1,z.2.mono e⟩⟩
theorem ObR.some{o:Ob}(h:ObR K c H a o):∃u,H a=some u:=by
 cases o with
 |lst ds=>obtain⟨vs,h1,_⟩:=h;exact⟨_,h1⟩
 |dct kvs=>obtain⟨us,h1,_⟩:=h;exact⟨_,h1⟩
 |ins n fs=>obtain⟨_,_,_,_,_,h1,_⟩:=h;exact⟨_,h1⟩
structure SInv(K:eh)(c:Cf)(S:List Ob)(H:Hp):Prop where
 len:c.ι.length=S.length
 nd:c.ι.Nodup
 obs:∀(k:Nat) (a:eR) (o:Ob),c.ι[k]?=some a->S[k]?=some o->ObR K c H a o
 trk:∀b,c.O b->∃o,H b=some o
 dis:∀b,c.O b->b∉c.ι
variable{S:List Ob}
theorem SInv.trkA(s:SInv K c S H){b:eR}(h:c.A b):∃o,H b=some o:=by
 rcases h with h|h
 .clear 5(List.mem_iff_getElem.mp h)k hk e;have e1:c.ι[k]?=some b:=by rw[ub4 hk,e]
  have hk':k<S.length:=by rw[<-s.len];exact hk
  exact(s.obs k b _ e1 (ub4 hk')).some
 .exact s.trk b h
theorem SInv.free(s:SInv K c S H){b:eR}(h:H b=none):¬c.A b:=λz=>by
 clear 5(s.trkA z)o e;rw[h] at e;cases e
structure FInv(K:eh)(Oo:eR->Prop)(c:Cf)(t:T)(σ:St)(H:Hp):Prop where
 s:SInv K c t.S H
 len:t.env.length=σ.length
 sub:∀b,Oo b->c.O b
 val:∀(i:Nat) (d:D),t.env[i]?=some (some (.val d))->∃v,σ[i]?=some (some v)/\Rep K c H v d
 own:∀(i:Nat) (ds:List D),t.env[i]?=some (some (.own ds))->∃a vs,σ[i]?=some (some (.ref a))/\c.O a/\¬Oo a/\H a=some (.lst vs)/\Reps K c H vs ds
 inj:∀(i j:Nat) (ds es:List D) (a:eR),t.env[i]?=some (some (.own ds))->t.env[j]?=some (some (.own es))->σ[i]?=some (some (.ref a))->σ[j]?=some (some (.ref a))->i=j
structure Stp(Oo:eR->Prop)(c:Cf)(H:Hp)(c':Cf)(H':Hp):Prop where
 ext:Ext c H c' H'
 oo:∀b,Oo b->H' b=H b
theorem Stp.refl{Oo:eR->Prop}{c:Cf}{H:Hp}:Stp Oo c H c H:=⟨.refl,λ_ _=>rfl⟩
theorem Stp.trans{Oo:eR->Prop}{c c1 c2:Cf}{H H1 H2:Hp}(a:Stp Oo c H c1 H1)(b:Stp Oo c1 H1 c2 H2):Stp Oo c H c2 H2:=
 ⟨a.ext.trans b.ext,λx h=>(b.oo x h).trans (a.oo x h)⟩
section
variable{K:eh}{Oo:eR->Prop}{c:Cf}{t:T}{σ:St}{H:Hp}
theorem Ext.laid(s:SInv K c S H){p:eR}{o:HO}(h:H p=none):Ext c H c (upd H p o):=
 ⟨λb u e _=>by rw[Ai (AA e h)];exact e,λ_ _ _ z=>z,λ_ _ e=>e⟩
theorem SInv.laid{S:List Ob}(s:SInv K c S H){p:eR}{o:HO}(h:H p=none):SInv K c S (upd H p o):=
 ⟨s.len,s.nd,λk a u e1 e2=>by
  have q:=s.obs k a u e1 e2;clear 5 q.some w hw;exact q.mono (Ext.laid s h) (Ai (AA hw h)),
  λb z=>by clear 5(s.trk b z)u e;exact⟨u,by rw[Ai (AA e h)];exact e⟩,s.dis⟩
theorem FInv.laid(f:FInv K Oo c t σ H){p:eR}{o:HO}(h:H p=none):FInv K Oo c t σ (upd H p o):=by
 have e:=Ext.laid (o:=o) f.s h;refine⟨f.s.laid h,f.len,f.sub,λi d q=>?_,λi ds q=>?_,f.inj⟩
 .clear 5(f.val i d q)v h1 h2;exact⟨v,h1,h2.mono e⟩
 .clear 5(f.own i ds q)a vs h1 h2 h3 h4 h5;exact⟨a,vs,h1,h2,h3,by rw[Ai (AA h4 h)];exact h4,h5.mono e⟩
theorem FInv.stp_laid(f:FInv K Oo c t σ H){p:eR}{o:HO}(h:H p=none):Stp Oo c H c (upd H p o):=
 ⟨Ext.laid f.s h,λb z=>by clear 5(f.s.trk b (f.sub b z))u e;exact Ai (AA e h)⟩
set_option tactic.hygienic true
theorem FInv.set(f:FInv K Oo c t σ H){i:Nat}{v:V}{d:D}(r:Rep K c H v d):FInv K Oo c {t with env:=t.env.set i (some (.val d))} (σ.set i (some v)) H:=by
 have neq:∀{j:Nat}{x:Sl},(t.env.set i (some (.val d)))[j]?=some (some x)->(j=i/\x=.val d/\j<t.env.length)\/(j≠i/\t.env[j]?=some (some x)):=λ{j x} q=>by
  by_cases h:j=i
  .subst h;rw[ug3] at q
   split at q
   .split at q
    .next h1=>injection q with q;injection q with q;exact .inl ⟨rfl,q.symm,h1⟩
    .cases q
   .next h1=>exact absurd rfl h1
  .rw[ud5 (Ne.symm h)] at q;exact .inr ⟨h,q⟩
 refine⟨f.s,by simp[f.len],f.sub,λj e q=>?_,λj ds q=>?_,λj k ds es a q1 q2 q3 q4=>?_⟩
 .rcases neq q with⟨rfl,z,hl⟩|⟨h,q⟩
  .cases z
   exact⟨v,by rw[uc0 (by rw[<-f.len];exact hl)],r⟩
  .clear 5(f.val j e q)u h1 h2;exact⟨u,by rw[ud5 (Ne.symm h)];exact h1,h2⟩
 .rcases neq q with⟨rfl,z,_⟩|⟨h,q⟩
  .cases z
  .clear 5(f.own j ds q)a vs h1 h2;exact⟨a,vs,by rw[ud5 (Ne.symm h)];exact h1,h2⟩
 .rcases neq q1 with⟨_,z,_⟩|⟨h,q1⟩
  .cases z
  rcases neq q2 with⟨_,z,_⟩|⟨h',q2⟩
  .cases z
  rw[ud5 (Ne.symm h)] at q3;rw[ud5 (Ne.symm h')] at q4;exact f.inj j k ds es a q1 q2 q3 q4
theorem FInv.setOwn(f:FInv K Oo c t σ H){i:Nat}{p:eR}{vs:List V}{ds:List D}(h:H p=none)(r:Reps K c H vs ds) :
 ∃c',FInv K Oo c' {t with env:=t.env.set i (some (.own ds))} (σ.set i (some (.ref p))) (upd H p (.lst vs))/\Stp Oo c H c' (upd H p (.lst vs)):=by
 let c':Cf:=⟨c.ι,λb=>c.O b\/b=p⟩
 have nA:¬c.A p:=f.s.free h;have ext:Ext c H c' (upd H p (.lst vs)):=by
  refine⟨λb u e _=>by rw[Ai (AA e h)];exact e,λb u e z=>?_,λ_ _ e=>e⟩;rcases z with z|z|z
  .exact .inl z
  .exact .inr z
  .subst z;rw[h] at e;cases e
 have stp:Stp Oo c H c' (upd H p (.lst vs)):=⟨ext,λb z=>by clear 5(f.s.trk b (f.sub b z))u e;exact Ai (AA e h)⟩;have sinv:SInv K c' t.S (upd H p (.lst vs)):=by
  refine⟨f.s.len,f.s.nd,λk a u e1 e2=>?_,λb z=>?_,λb z hb=>?_⟩
  .have q:=f.s.obs k a u e1 e2;clear 5 q.some w hw;exact q.mono ext (Ai (AA hw h))
  .rcases z with z|z
   .clear 5(f.s.trk b z)u e;exact⟨u,by rw[Ai (AA e h)];exact e⟩
   .subst z;exact⟨_,Am⟩
  .rcases z with z|z
   .exact f.s.dis b z hb
   .subst z;exact nA (.inl hb)
 have neq:∀{j:Nat}{x:Sl},(t.env.set i (some (.own ds)))[j]?=some (some x)->(j=i/\x=.own ds/\j<t.env.length)\/(j≠i/\t.env[j]?=some (some x)):=λ{j x} q=>by
  by_cases h:j=i
  .subst h;rw[ug3] at q
   split at q
   .split at q
    .next h1=>injection q with q;injection q with q;exact .inl ⟨rfl,q.symm,h1⟩
    .cases q
   .next h1=>exact absurd rfl h1
  .rw[ud5 (Ne.symm h)] at q;exact .inr ⟨h,q⟩
 have fresh:∀(j:Nat) (es:List D),t.env[j]?=some (some (.own es))->σ[j]?≠some (some (.ref p)):=λj es q z=>by
  obtain⟨a,vs',h1,_,_,h4,_⟩:=f.own j es q;rw[h1] at z;injection z with z;injection z with z;injection z with z;subst z;rw[h] at h4;cases h4
 refine⟨c',⟨sinv,by simp[f.len],λb z=>.inl (f.sub b z),λj e q=>?_,λj es q=>?_,λj k ds' es a q1 q2 q3 q4=>?_⟩,stp⟩
 .rcases neq q with⟨_,z,_⟩|⟨hn,q⟩
  .cases z
  .clear 5(f.val j e q)u h1 h2;exact⟨u,by rw[ud5 (Ne.symm hn)];exact h1,h2.mono ext⟩
 .rcases neq q with⟨rfl,z,hl⟩|⟨hn,q⟩
  .cases z
   refine⟨p,vs,by rw[uc0 (by rw[<-f.len];exact hl)],.inr rfl,λz=>?_,Am,r.mono ext⟩;clear 5(f.s.trk p (f.sub p z))u e;rw[h] at e;cases e
  .clear 5(f.own j es q)a ws h1 h2 h3 h4 h5;exact⟨a,ws,by rw[ud5 (Ne.symm hn)];exact h1,.inl h2,h3,by rw[Ai (AA h4 h)];exact h4,h5.mono ext⟩
 .rcases neq q1 with⟨z1,z2,l1⟩|⟨n1,r1⟩
  .rcases neq q2 with⟨y1,_,_⟩|⟨n2,r2⟩
   .rw[z1,y1]
   .subst z1;rw[uc0 (by rw[<-f.len];exact l1)] at q3;injection q3 with q3;injection q3 with q3;injection q3 with q3;subst q3
    rw[ud5 (Ne.symm n2)] at q4;exact absurd q4 (fresh k es r2)
  .rcases neq q2 with⟨y1,y2,l2⟩|⟨n2,r2⟩
   .subst y1;rw[uc0 (by rw[<-f.len];exact l2)] at q4;injection q4 with q4;injection q4 with q4;injection q4 with q4;subst q4
    rw[ud5 (Ne.symm n1)] at q3;exact absurd q3 (fresh j ds' r1)
   .rw[ud5 (Ne.symm n1)] at q3;rw[ud5 (Ne.symm n2)] at q4;exact f.inj j k ds' es a r1 r2 q3 q4
theorem FInv.frz(f:FInv K Oo c t σ H){i:Nat}{ds:List D}(q:t.env[i]?=some (some (.own ds))) :
 ∃c' v,FInv K Oo c' {t with env:=t.env.set i (some (.val (.lst ds)))} σ H/\Stp Oo c H c' H/\σ[i]?=some (some v)/\Rep K c' H v (.lst ds):=by
 clear 5(f.own i ds q)a vs h1 h2 h3 h4 h5
 let c':Cf:=⟨c.ι,λb=>c.O b/\b≠a⟩
 have ext:Ext c H c' H:=⟨λ_ _ e _=>e,λb u e z=>z.elim .inl λw=>.inr w.1,λ_ _ e=>e⟩;have sinv:SInv K c' t.S H:=⟨f.s.len,f.s.nd,λk b u e1 e2=>(f.s.obs k b u e1 e2).mono ext rfl,λb z=>f.s.trk b z.1,λb z=>f.s.dis b z.1⟩;have nA:¬c'.A a:=λz=>z.elim (λw=>f.s.dis a h2 w) λw=>w.2 rfl;have hσ:σ.set i (some (.ref a))=σ:=by
  apply List.ext_getElem?;intro j
  by_cases hj:j=i
  .subst hj;rw[uc0 (by have:=(ub0.mp h1).1;exact this),h1]
  .rw[ud5 (Ne.symm hj)]
 have r:Rep K c' H (.ref a) (.lst ds):=.lst h4 nA (h5.mono ext);have f0:FInv K Oo c' {t with env:=t.env.set i (some (.val (.lst ds)))} σ H:=by
  have neq:∀{j:Nat}{x:Sl},(t.env.set i (some (.val (.lst ds))))[j]?=some (some x)->(j=i/\x=.val (.lst ds))\/(j≠i/\t.env[j]?=some (some x)):=λ{j x} q=>by
   by_cases h:j=i
   .subst h;rw[ug3] at q
    split at q
    .split at q
     .injection q with q;injection q with q;exact .inl ⟨rfl,q.symm⟩
     .cases q
    .next h1=>exact absurd rfl h1
   .rw[ud5 (Ne.symm h)] at q;exact .inr ⟨h,q⟩
  refine⟨sinv,by simp[f.len],λb z=>⟨f.sub b z,λw=>h3 (w ▸ z)⟩,λj e q'=>?_,λj es q'=>?_,λj k ds' es b q1 q2 q3 q4=>?_⟩
  .rcases neq q' with⟨rfl,z⟩|⟨hn,q'⟩
   .cases z;exact⟨_,h1,r⟩
   .clear 5(f.val j e q')u w1 w2;exact⟨u,w1,w2.mono ext⟩
  .rcases neq q' with⟨_,z⟩|⟨hn,q'⟩
   .cases z
   .clear 5(f.own j es q')b ws w1 w2 w3 w4 w5;refine⟨b,ws,w1,⟨w2,λz=>?_⟩,w3,w4,w5.mono ext⟩;subst z;exact hn (f.inj j i es ds b q' q w1 h1)
  .rcases neq q1 with⟨_,z⟩|⟨_,q1⟩
   .cases z
   rcases neq q2 with⟨_,z⟩|⟨_,q2⟩
   .cases z
   exact f.inj j k ds' es b q1 q2 q3 q4
 exact⟨c',_,f0,⟨ext,λ_ _=>rfl⟩,h1,r⟩
theorem FInv.wrOwn(f:FInv K Oo c t σ H){i:Nat}{ds ds':List D}{vs':List V}{a:eR}(q:t.env[i]?=some (some (.own ds)))(h1:σ[i]?=some (some (.ref a)))(r:Reps K c H vs' ds') :
 FInv K Oo c {t with env:=t.env.set i (some (.own ds'))} σ (upd H a (.lst vs'))/\Stp Oo c H c (upd H a (.lst vs')):=by
 clear 5(f.own i ds q)a' vs g1 h2 h3 h4 h5;rw[h1] at g1;injection g1 with g1;injection g1 with g1;injection g1 with g1;subst g1
 have ext:Ext c H c (upd H a (.lst vs')):=⟨λb u e n=>by rw[Ai (λ(z:b=a)=>n (.inr (by rw[z];exact h2)))];exact e,λ_ _ _ z=>z,λ_ _ e=>e⟩;have stp:Stp Oo c H c (upd H a (.lst vs')):=⟨ext,λb z=>Ai λw=>h3 (w ▸ z)⟩;have sinv:SInv K c t.S (upd H a (.lst vs')):=by
  refine⟨f.s.len,f.s.nd,λk b u e1 e2=>(f.s.obs k b u e1 e2).mono ext (Ai λz=>f.s.dis a h2 (z ▸ ud6 e1)),λb z=>?_,f.s.dis⟩
  by_cases hb:b=a
  .subst hb;exact⟨_,Am⟩
  .clear 5(f.s.trk b z)u e;exact⟨u,by rw[Ai hb];exact e⟩
 have neq:∀{j:Nat}{x:Sl},(t.env.set i (some (.own ds')))[j]?=some (some x)->(j=i/\x=.own ds')\/(j≠i/\t.env[j]?=some (some x)):=λ{j x} q=>by
  by_cases h:j=i
  .subst h;rw[ug3] at q
   split at q
   .split at q
    .injection q with q;injection q with q;exact .inl ⟨rfl,q.symm⟩
    .cases q
   .next h1=>exact absurd rfl h1
  .rw[ud5 (Ne.symm h)] at q;exact .inr ⟨h,q⟩
 refine⟨⟨sinv,by simp[f.len],f.sub,λj e q'=>?_,λj es q'=>?_,λj k es es' b q1 q2 q3 q4=>?_⟩,stp⟩
 .rcases neq q' with⟨_,z⟩|⟨_,q'⟩
  .cases z
  .clear 5(f.val j e q')u w1 w2;exact⟨u,w1,w2.mono ext⟩
 .rcases neq q' with⟨rfl,z⟩|⟨hn,q'⟩
  .cases z;exact⟨a,vs',h1,h2,h3,Am,r.mono ext⟩
  .clear 5(f.own j es q')b ws w1 w2 w3 w4 w5;have hb:b≠a:=λz=>by subst z;exact hn (f.inj j i es ds b q' q w1 h1)
   exact⟨b,ws,w1,w2,w3,by rw[Ai hb];exact w4,w5.mono ext⟩
 .have old:∀{j:Nat}{x:List D},(t.env.set i (some (.own ds')))[j]?=some (some (.own x))->∃y,t.env[j]?=some (some (.own y)):=λ{j x} q'=>by
   rcases neq q' with⟨rfl,_⟩|⟨_,q'⟩
   .exact⟨ds,q⟩
   .exact⟨x,q'⟩
  clear 5(old q1)y1 z1;clear 5(old q2)y2 z2;exact f.inj j k y1 y2 b z1 z2 q3 q4
set_option tactic.hygienic false
theorem FInv.wrObj(f:FInv K Oo c t σ H){k:Nat}{a:eR}{o:Ob}{u:HO}(e:c.ι[k]?=some a)(r:∀c' H',Ext c H c' H'->H' a=some u->ObR K c' H' a o) :
 FInv K Oo c {t with S:=t.S.set k o} σ (upd H a u)/\Stp Oo c H c (upd H a u):=by
 have hA:a∈c.ι:=ud6 e;have ext:Ext c H c (upd H a u):=⟨λb w h n=>by rw[Ai (λ(z:b=a)=>n (.inl (by rw[z];exact hA)))];exact h,λ_ _ _ z=>z,λ_ _ e=>e⟩;have neO:∀b,c.O b->b≠a:=λb z w=>f.s.dis b z (w ▸ hA);have stp:Stp Oo c H c (upd H a u):=⟨ext,λb z=>Ai (neO b (f.sub b z))⟩;have sinv:SInv K c (t.S.set k o) (upd H a u):=by
  refine⟨by simp[f.s.len],f.s.nd,λj b o' e1 e2=>?_,λb z=>?_,f.s.dis⟩
  .by_cases hj:j=k
   .subst hj;rw[e] at e1;cases e1
    have hl:j<t.S.length:=by rw[<-f.s.len];exact(ub0.mp e).1
    rw[uc0 hl] at e2;cases e2
    exact r c _ ext Am
   .rw[ud5 (Ne.symm hj)] at e2;refine(f.s.obs j b o' e1 e2).mono ext (Ai λz=>?_);subst z;clear 5(ub0.mp e1)l1 g1;clear 5(ub0.mp e)l2 g2;exact hj ((ug8 f.s.nd).mp (g1.trans g2.symm))
  .clear 5(f.s.trk b z)w h;exact⟨w,by rw[Ai (neO b z)];exact h⟩
 refine⟨⟨sinv,f.len,f.sub,λi d q=>?_,λi ds q=>?_,f.inj⟩,stp⟩
 .clear 5(f.val i d q)v h1 h2;exact⟨v,h1,h2.mono ext⟩
 .clear 5(f.own i ds q)b vs h1 h2 h3 h4 h5;exact⟨b,vs,h1,h2,h3,by rw[Ai (neO b h2)];exact h4,h5.mono ext⟩
theorem FInv.newObj(f:FInv K Oo c t σ H){p:eR}{o:Ob}{u:HO}(h:H p=none)(r:∀c' H',Ext c H c' H'->H' p=some u->ObR K c' H' p o) :
 ∃c',FInv K Oo c' {t with S:=t.S++[o]} σ (upd H p u)/\Stp Oo c H c' (upd H p u)/\c'.ι[t.S.length]?=some p:=by
 let c':Cf:=⟨c.ι++[p],c.O⟩
 have nA:¬c.A p:=f.s.free h;have ext:Ext c H c' (upd H p u):=by
  refine⟨λb w e _=>by rw[Ai (AA e h)];exact e,λb w e z=>?_,λk a e=>?_⟩
  .rcases z with z|z
   .rcases ui4.mp z with z|z
    .exact .inl z
    .rw[uf0] at z;subst z;rw[h] at e;cases e
   .exact .inr z
  .show(c.ι++[p])[k]?=some a;rw[ub1 (ub0.mp e).1];exact e
 have stp:Stp Oo c H c' (upd H p u):=⟨ext,λb z=>by clear 5(f.s.trk b (f.sub b z))w e;exact Ai (AA e h)⟩;have at_:(c.ι++[p])[t.S.length]?=some p:=by rw[<-f.s.len,ua6 (un2 _)];simp
 have sinv:SInv K c' (t.S++[o]) (upd H p u):=by
  refine⟨by simp[c',f.s.len],?_,λj b o' e1 e2=>?_,λb z=>?_,λb z hb=>?_⟩
  .show(c.ι++[p]).Nodup;exact List.nodup_append.mpr ⟨f.s.nd,by simp,λx hx y hy z=>by rw[uf0] at hy;subst z;subst hy;exact nA (.inl hx)⟩
  .have hlt:j<(t.S++[o]).length:=(ub0.mp e2).1
   by_cases hj:j<t.S.length
   .have e1':c.ι[j]?=some b:=by
     have q:(c.ι++[p])[j]?=some b:=e1;rw[ub1 (by rw[f.s.len];exact hj)] at q;exact q
    rw[ub1 hj] at e2;have q:=f.s.obs j b o' e1' e2;clear 5 q.some w hw;exact q.mono ext (Ai (AA hw h))
   .have hj':j=t.S.length:=by simp at hlt;lia
    subst hj';rw[at_] at e1;cases e1
    rw[ua6 (un2 _)] at e2;simp at e2;subst e2;exact r c' _ ext Am
  .clear 5(f.s.trk b z)w e;exact⟨w,by rw[Ai (AA e h)];exact e⟩
  .rcases ui4.mp hb with w|w
   .exact f.s.dis b z w
   .rw[uf0] at w;subst w;exact nA (.inr z)
 refine⟨c',⟨sinv,f.len,f.sub,λi d q=>?_,λi ds q=>?_,f.inj⟩,stp,at_⟩
 .clear 5(f.val i d q)v h1 h2;exact⟨v,h1,h2.mono ext⟩
 .clear 5(f.own i ds q)b vs h1 h2 h3 h4 h5;exact⟨b,vs,h1,h2,h3,by rw[Ai (AA h4 h)];exact h4,h5.mono ext⟩
theorem FInv.after(f:FInv K Oo c t σ H){c':Cf}{S':List Ob}{H':Hp}(s:SInv K c' S' H')(st:Stp c.O c H c' H')(ho:∀b,c'.O b↔c.O b):FInv K Oo c' {t with S:=S'} σ H'/\Stp Oo c H c' H':=by
 refine⟨⟨s,f.len,λb z=>(ho b).mpr (f.sub b z),λi d q=>?_,λi ds q=>?_,f.inj⟩,st.ext,λb z=>st.oo b (f.sub b z)⟩
 .clear 5(f.val i d q)v h1 h2;exact⟨v,h1,h2.mono st.ext⟩
 .clear 5(f.own i ds q)b vs h1 h2 h3 h4 h5;exact⟨b,vs,h1,(ho b).mpr h2,h3,(st.oo b h2).trans h4,h5.mono st.ext⟩
end
abbrev M(α:Type):=T->Option (α×T)
inductive Out where
 |next|brk|cont|ret (d:D)
noncomputable def ret{α:Type}(a:α):M α:=λt=>some (a,t)
noncomputable def fail{α:Type}:M α:=λ_=>none
noncomputable def bnd{α β:Type}(f:M α)(g:α->M β):M β:=λt=>match f t with
 |some (a,t1)=>g a t1
 |none=>none
variable{t:T}
theorem Af{α β:Type}{f:M α}{g:α->M β}{z:β×T}(h:bnd f g t=some z):∃a t1,f t=some (a,t1)/\g a t1=some z:=by
 unfold bnd at h
 cases e:f t with
 |none=>rw[e] at h;cases h
 |some p=>clear 5 p a t1;rw[e] at h;exact⟨a,t1,rfl,h⟩
noncomputable def LIM:Nat:=100000
theorem CO:LIM<=sizeLine:=by unfold LIM;decide
theorem WI:LIM<sizeLine:=by unfold LIM;decide
section
variable(K:eh)
inductive RE(f:M D)(σ:L2.St)(H:Hp)(Q:VK):Prop where
 |mk (Oo:eR->Prop) (c:Cf) (t:T) (fi:FInv K Oo c t σ H) (r:D) (t':T) (e:f t=some (r,t')) (k:∀v H' c',FInv K Oo c' t' σ H'->Stp Oo c H c' H'->Rep K c' H' v r->Q v H'):RE f σ H Q
inductive RT(f:M Bool)(σ:L2.St)(H:Hp)(Q:Bool->Hp->Prop):Prop where
 |mk (Oo:eR->Prop) (c:Cf) (t:T) (fi:FInv K Oo c t σ H) (r:Bool) (t':T) (e:f t=some (r,t')) (k:∀H' c',FInv K Oo c' t' σ H'->Stp Oo c H c' H'->Q r H'):RT f σ H Q
inductive RA(f:M (List D))(σ:L2.St)(H:Hp)(Q:List V->Hp->Prop):Prop where
 |mk (Oo:eR->Prop) (c:Cf) (t:T) (fi:FInv K Oo c t σ H) (r:List D) (t':T) (e:f t=some (r,t')) (k:∀vs H' c',FInv K Oo c' t' σ H'->Stp Oo c H c' H'->Reps K c' H' vs r->Q vs H'):RA f σ H Q
inductive RF(f:M (List D))(σ:L2.St)(H:Hp)(Q:VK):Prop where
 |mk (Oo:eR->Prop) (c:Cf) (t:T) (fi:FInv K Oo c t σ H) (ds:List D) (t':T) (e:f t=some (ds,t')) (k:∀p vs H' c',FInv K Oo c' t' σ H'->Stp Oo c H c' H'->Reps K c' H' vs ds->H' p=none->Q (.ref p) (upd H' p (.lst vs))):RF f σ H Q
inductive RSg(μ:Cf->Hp->D->(V->Hp->Prop)->Prop)(f:M Out)(E:Ends)(σ:L2.St)(H:Hp):Prop where
 |mk (Oo:eR->Prop) (c:Cf) (t:T) (fi:FInv K Oo c t σ H) (o:Out) (t':T) (e:f t=some (o,t')) (k:∀σ' H' c',FInv K Oo c' t' σ' H'->Stp Oo c H c' H'->
 match (generalizing:=false) o with
 |.next=>E.nx σ' H'
 |.brk=>E.bk σ' H'
 |.cont=>E.ct σ' H'
 |.ret r=>μ c' H' r E.rt):RSg μ f E σ H
def μR:Cf->Hp->D->(V->Hp->Prop)->Prop:=λc H r rt=>∀v,Rep K c H v r->rt v H
abbrev RS(f:M Out):TS:=RSg K (μR K) f
inductive RG(f:D->M Unit)(v:V)(σ:L2.St)(H:Hp)(Q:L2.St->Hp->Prop):Prop where
 |mk (Oo:eR->Prop) (c:Cf) (t:T) (d:D) (fi:FInv K Oo c t σ H) (r:Rep K c H v d) (t':T) (e:f d t=some ((),t')) (k:∀σ' H' c',FInv K Oo c' t' σ' H'->Stp Oo c H c' H'->Q σ' H'):RG f v σ H Q
structure ItOk(J:It)(c:Cf)(H:Hp)(ds:List D):Prop where
 go:∀c' H' (i:Nat),Ext c H c' H'->i<ds.length->J.go i H'
 yld:∀c' H' (i:Nat) x H'' d,Ext c H c' H'->ds[i]?=some d->J.yld i H' x H''->H''=H'/\Rep K c' H' x d
 stop:∀c' H',Ext c H c' H'->J.stop ds.length H'
inductive RI(f:M (List D))(σ:L2.St)(H:Hp)(R:It->Hp->Prop):Prop where
 |mk (Oo:eR->Prop) (c:Cf) (t:T) (fi:FInv K Oo c t σ H) (ds:List D) (t':T) (e:f t=some (ds,t')) (k:∀J H' c',FInv K Oo c' t' σ H'->Stp Oo c H c' H'->ItOk K J c' H' ds->R J H'):RI f σ H R
def WL(R:V->Hp->VK->Prop)(h:D->M D):Prop:=∀{Oo:eR->Prop}{c:Cf}{t:T}{σ:L2.St}{H:Hp}{x:V}{dx r:D}{t':T}{Q:VK},FInv K Oo c t σ H->Rep K c H x dx->h dx t=some (r,t')->
 (∀v H' c',FInv K Oo c' t' σ H'->Stp Oo c H c' H'->Rep K c' H' v r->Q v H')->R x H Q
def A5(R:R2)(h:D->D->M D):Prop:=∀{Oo:eR->Prop}{c:Cf}{t:T}{σ:L2.St}{H:Hp}{x y:V}{dx dy r:D}{t':T}{Q:VK},FInv K Oo c t σ H->Rep K c H x dx->Rep K c H y dy->h dx dy t=some (r,t')->
 (∀v H' c',FInv K Oo c' t' σ H'->Stp Oo c H c' H'->Rep K c' H' v r->Q v H')->R x y H Q
def Eu(R:List V->Hp->VK->Prop)(h:List D->M D):Prop:=∀{Oo:eR->Prop}{c:Cf}{t:T}{σ:L2.St}{H:Hp}{xs:List V}{ds:List D}{r:D}{t':T}{Q:VK},FInv K Oo c t σ H->Reps K c H xs ds->h ds t=some (r,t')->
 (∀v H' c',FInv K Oo c' t' σ H'->Stp Oo c H c' H'->Rep K c' H' v r->Q v H')->R xs H Q
def KQ(R:R2)(h:D->D->M (List D)):Prop:=∀{Oo:eR->Prop}{c:Cf}{t:T}{σ:L2.St}{H:Hp}{x y:V}{dx dy:D}{r:List D}{t':T}{Q:VK},FInv K Oo c t σ H->Rep K c H x dx->Rep K c H y dy->h dx dy t=some (r,t')->
 (∀p vs H' c',FInv K Oo c' t' σ H'->Stp Oo c H c' H'->Reps K c' H' vs r->H' p=none->Q (.ref p) (upd H' p (.lst vs)))->R x y H Q
def KR(R:List V->Hp->VK->Prop)(h:List D->M (List D)):Prop:=∀{Oo:eR->Prop}{c:Cf}{t:T}{σ:L2.St}{H:Hp}{xs:List V}{ds r:List D}{t':T}{Q:VK},FInv K Oo c t σ H->Reps K c H xs ds->h ds t=some (r,t')->
 (∀p vs H' c',FInv K Oo c' t' σ H'->Stp Oo c H c' H'->Reps K c' H' vs r->H' p=none->Q (.ref p) (upd H' p (.lst vs)))->R xs H Q
end
variable{tg:Expr}{j i:Nat}{x:Str}{f g w:M D}{h h':D->D->M D}{R R':R2}{op:CmpOp}{σ:L2.St}
section
variable{X:Cx}{e a b:Expr}{pos:Pos}
theorem AB{t t':TE}(h:PE X e t)(i:∀σ H Q,t' σ H Q->t σ H Q):PE X e t':=λei s σ H Q I q=>h ei s σ H Q I (i σ H Q q)
theorem IE{t t':TT}(h:PT X e t)(i:∀σ H Q,t' σ H Q->t σ H Q):PT X e t':=λei s σ H Q I q=>h ei s σ H Q I (i σ H Q q)
theorem Pg{t t':TT}(h:PW X e t)(i:∀σ H Q,t' σ H Q->t σ H Q):PW X e t':=λw ei s σ H Q I q=>h w ei s σ H Q I (i σ H Q q)
theorem Pe{es:List Expr}{t t':TA}(h:PA X es t)(i:∀σ H Q,t' σ H Q->t σ H Q):PA X es t':=λpos ei s σ H Q I q=>h pos ei s σ H Q I (i σ H Q q)
theorem Bh{st:Stmt}{t t':TS}(h:PS X st t)(i:∀E σ H,t' E σ H->t E σ H):PS X st t':=λei s σ H E I q=>h ei s σ H E I (i E σ H q)
theorem MW{st:List Stmt}{t t':TS}(h:PSs X st t)(i:∀E σ H,t' E σ H->t E σ H):PSs X st t':=λei s σ H E I q=>h ei s σ H E I (i E σ H q)
theorem GI{t t':TG}(h:PG X e t)(i:∀v σ H Q,t' v σ H Q->t v σ H Q):PG X e t':=λei s σ H v u Q I r q=>h ei s σ H v u Q I r (i v σ H Q q)
theorem ID{t t':TI}(h:PI X tg e t)(i:∀σ H R,t' σ H R->t σ H R):PI X tg e t':=λei s σ H R I q=>h ei s σ H R I (i σ H R q)
def fC(d:D):M D:=ret d
theorem Ie{v:V}{d:D}(h:PE X e (tC v))(r:∀c H,Rep X.K c H v d):PE X e (RE X.K (fC d)):=
 AB h λσ H Q z9=>by
  clear 5 z9 Oo c t f r' t' eq k
  cases eq
  exact k v H c f .refl (r c H)
theorem W9{i:Int}:PE X (.Constant (.int i) j pos) (RE X.K (fC (.int i))):=Ie Yc λ_ _=>.int i
theorem Ze{i:Bool}:PE X (.Constant (.bool i) j pos) (RE X.K (fC (.bl i))):=Ie Zy λ_ _=>.bl i
theorem Xe{i:Str}:PE X (.Constant (.str i) j pos) (RE X.K (fC (.str i))):=Ie Qz λ_ _=>.str i
theorem Xa:PE X (.Constant .none j pos) (RE X.K (fC .non)):=Ie Ye λ_ _=>.non
theorem JP{i:Int}{tk:Tok}(hg:Gl X x)(hm:X.mg x=some (.int i tk))(hd:autoParam ((x==("__debug__":Str))=false) q1T):PE X (.Name x pos) (RE X.K (fC (.int i))):=
 Ie (HG hg hm (v:=.int i) ⟨tk,rfl⟩ hd) λ_ _=>.int i
theorem RN{y:Str}{tk:Tok}(hg:Gl X x)(hm:X.mg x=some (.str y tk))(hd:autoParam ((x==("__debug__":Str))=false) q1T):PE X (.Name x pos) (RE X.K (fC (.str y))):=
 Ie (HG hg hm (v:=.str y) ⟨tk,rfl⟩ hd) λ_ _=>.str y
theorem KY{n:String}(hg:Gl X x)(hm:X.mg x=none)(hv:bootBuiltins x=some (.type n))(hn:autoParam (x≠"__name__") q1T)(hd:autoParam ((x==("__debug__":Str))=false) q1T):PE X (.Name x pos) (RE X.K (fC (.ty n))):=
 Ie (ND hg hm hv (v:=.ty n) rfl hn hd) λ_ _=>.ty n
noncomputable def Ab(i:Nat):M D:=λt=>match t.env[i]? with
 |some (some (.val d))=>some (d,t)
 |some (some (.own ds))=>some (.lst ds,{t with env:=t.env.set i (some (.val (.lst ds)))})
 |_=>none
theorem Oh{t':T}{r:D}(h:Ab i t=some (r,t')):(t.env[i]?=some (some (.val r))/\t'=t)\/∃ds,t.env[i]?=some (some (.own ds))/\r=.lst ds/\t' = {t with env:=t.env.set i (some (.val (.lst ds)))}:=by
 unfold Ab at h
 cases e:t.env[i]? with
 |none=>rw[e] at h;cases h
 |some o=>
   cases o with
   |none=>rw[e] at h;cases h
   |some sl=>
     cases sl with
     |val d=>rw[e] at h;cases h;exact .inl ⟨rfl,rfl⟩
     |own ds=>rw[e] at h;cases h;exact .inr ⟨ds,rfl,rfl,rfl⟩
theorem Xg(i:Nat){x:Str}(hN:autoParam (X.N[i]?=some x) q3T)(hv:autoParam (Vis X.env.scope x) q0T)(hd:autoParam ((x==("__debug__":Str))=false) q1T)
 (hcd:autoParam ((x==("__classdict__":Str))=false) q1T):PE X (.Name x pos) (RE X.K (Ab i)):=
 AB (CT hN hv hd hcd) λσ H Q z9=>by
  clear 5 z9 Oo c t f r t' eq k;rcases Oh eq with⟨q,rfl⟩|⟨ds,q,rfl,rfl⟩
  .clear 5(f.val i r q)v h1 h2;exact⟨v,h1,k v H c f .refl h2⟩
  .clear 5(f.frz q)c' v f' st h1 h2;exact⟨v,h1,k v H c' f' st h2⟩
def Ac(f g:M D)(h:D->D->M D):M D:=bnd f λx=>bnd g λy=>h x y
theorem RE.two(s:A5 K R h){σ:L2.St}{H:Hp}{Q:VK}(q:RE K (Ac f g h) σ H Q):tOp R (RE K f) (RE K g) σ H Q:=by
 clear 5 q Oo c t fi r t' eq k;clear 5(Af eq)dx t1 e1 eq;clear 5(Af eq)dy t2 e2 eq;exact⟨Oo,c,t,fi,dx,t1,e1,λx H1 c1 f1 s1 rx=>⟨Oo,c1,t1,f1,dy,t2,e2,λy H2 c2 f2 s2 ry=>s f2 (rx.mono s2.ext) ry eq λv H' c' f' s' rv=>k v H' c' f' ((s1.trans s2).trans s') rv⟩⟩
theorem E3{op:Operator}(ho:OpR X (binaryOp op) R)(s:A5 X.K R h)(ha:PE X a (RE X.K f))(hb:PE X b (RE X.K g)):PE X (.BinOp a op b pos) (RE X.K (Ac f g h)):=
 AB (OL ho ha hb) λ_ _ _ q=>RE.two s q
theorem IV(ho:OpR X (compareOp op) R)(s:A5 X.K R h)(ha:PE X a (RE X.K f))(hb:PE X b (RE X.K g))(hm:behindInMarks op b=false):PE X (.Compare a [op] [b] pos) (RE X.K (Ac f g h)):=
 AB (Vz ho ha hb hm) λ_ _ _ q=>RE.two s q
theorem TV(hr:IxR X R)(s:A5 X.K R h)(ha:PE X a (RE X.K f))(hb:PE X b (RE X.K g))(hs:JA b):PE X (.Subscript a b pos) (RE X.K (Ac f g h)):=
 AB (T2 hr ha hb hs) λ_ _ _ q=>RE.two s q
def fUn(f:M D)(h:D->M D):M D:=bnd f h
theorem Zg{op:UnaryOp}{R:V->Hp->VK->Prop}{h:D->M D}(ho:UnR X (unaryOp op) R)(s:WL X.K R h)(ha:PE X a (RE X.K f)):PE X (.UnaryOp op a pos) (RE X.K (fUn f h)):=
 AB (ZA ho ha) λσ H Q z9=>by
  clear 5 z9 Oo c t fi r t' eq k;clear 5(Af eq)dx t1 e1 eq;exact⟨Oo,c,t,fi,dx,t1,e1,λx H1 c1 f1 s1 rx=>s f1 rx eq λv H' c' f' s' rv=>k v H' c' f' (s1.trans s') rv⟩
def toB:D->M Bool
 |.bl b=>ret b
 |_=>fail
def Aj(f:M D):M Bool:=bnd f toB
theorem Iw{d:D}{z:Bool×T}(h:toB d t=some z):∃b,d=.bl b/\z=(b,t):=by
 cases d with
 |bl b=>cases h;exact⟨b,rfl,rfl⟩
 |_=>cases h
theorem RT.val{Q:Bool->Hp->Prop}(q:RT K (Aj f) σ H Q):RE K f σ H λx H1=>∃k,x=.bl k/\Q k H1:=by
 clear 5 q Oo c t fi r t' eq k;clear 5(Af eq)d t1 e1 eq;clear 5(Iw eq)b rfl z
 cases z
 refine⟨Oo,c,t,fi,_,t',e1,λv H1 c1 f1 s1 rv=>?_⟩
 cases rv
 exact⟨r,rfl,k H1 c1 f1 s1⟩
theorem Xs(h:PE X e (RE X.K f))(he:autoParam (∀whole,isTrue e X.env whole=(do let v <-whole;standAt e.pos;holding [v] (truthy v))) q2T):PT X e (RT X.K (Aj f)):=
 IE (Ym h he) λ_ _ _ q=>RT.val q
theorem Db(ho:OpR X (compareOp op) R)(s:A5 X.K R h)(ha:PE X a (RE X.K f))(hb:PE X b (RE X.K g))(hm:behindInMarks op b=false):PT X (.Compare a [op] [b] pos) (RT X.K (Aj (Ac f g h))):=
 IE (VP ho ha hb hm) λσ H Q q=>RE.two s (RT.val q)
def DI(f g w:M D)(h h':D->D->M D):M D:=bnd f λx=>bnd g λy=>bnd (Aj (h x y)) λk=>if k=true then bnd w λz=>h' y z else ret (.bl false)
theorem RE.chain(s:A5 K R h)(s':A5 K R' h'){σ:L2.St}{H:Hp}{Q:VK}(q:RE K (DI f g w h h') σ H Q):MG R R' (RE K f) (RE K g) (RE K w) σ H Q:=by
 clear 5 q Oo c t fi r t' eq k;clear 5(Af eq)dx t1 e1 eq;clear 5(Af eq)dy t2 e2 eq;clear 5(Af eq)kb t3 e3 eq;clear 5(Af e3)d3 t3' e3' e3;clear 5(Iw e3)b3 rfl z
 cases z
 refine⟨Oo,c,t,fi,dx,t1,e1,λx H1 c1 f1 s1 rx=>⟨Oo,c1,t1,f1,dy,t2,e2,λy H2 c2 f2 s2 ry=>s f2 (rx.mono s2.ext) ry e3' λv H3 c3 f3 s3 rv=>?_⟩⟩
 cases rv
 refine⟨kb,rfl,?_⟩
 cases kb with
 |false=>
   rw[gG ue5] at eq⊢
   cases eq
   exact k _ H3 c3 f3 ((s1.trans s2).trans s3) (.bl false)
 |true=>
   rw[gE rfl] at eq⊢;clear 5(Af eq)dz t4 e4 eq;exact⟨Oo,c3,t3,f3,dz,t4,e4,λw' H4 c4 f4 s4 rw'=>s' f4 (ry.mono (s3.trans s4).ext) rw' eq λv H' c' f' s' rv=>k v H' c' f' ((((s1.trans s2).trans s3).trans s4).trans s') rv⟩
theorem RM{d:Expr}{op':CmpOp}(ho:OpR X (compareOp op) R)(ho':OpR X (compareOp op') R')(s:A5 X.K R h)(s':A5 X.K R' h')(ha:PE X a (RE X.K f))(hb:PE X b (RE X.K g))(hd:PE X d (RE X.K w))
 (hm:autoParam (lastMarks [op,op'] [b,d]=false) q4T):PE X (.Compare a [op,op'] [b,d] pos) (RE X.K (DI f g w h h')):=
 AB (SI ho ho' ha hb hd hm) λ_ _ _ q=>RE.chain s s' q
theorem Sb{d:Expr}{op':CmpOp}(ho:OpR X (compareOp op) R)(ho':OpR X (compareOp op') R')(s:A5 X.K R h)(s':A5 X.K R' h')(ha:PE X a (RE X.K f))(hb:PE X b (RE X.K g))(hd:PE X d (RE X.K w))
 (hm:autoParam (lastMarks [op,op'] [b,d]=false) q4T):PT X (.Compare a [op,op'] [b,d] pos) (RT X.K (Aj (DI f g w h h'))):=
 IE (SR ho ho' ha hb hd hm) λσ H Q q=>RE.chain s s' (RT.val q)
def Ic(f g:M Bool):M Bool:=bnd f λk=>if k=true then g else ret false
def fOr(f g:M Bool):M Bool:=bnd f λk=>if k=true then ret true else g
def Gk(f:M Bool):M Bool:=bnd f λk=>ret (!k)
def Hv(f g:M D):M D:=bnd (Aj f) λk=>if k=true then g else ret (.bl false)
def JO(f g:M D):M D:=bnd (Aj f) λk=>if k=true then ret (.bl true) else g
def Hx(f:M D):M D:=bnd (Aj f) λk=>ret (.bl (!k))
def fIf(f:M Bool)(g h:M D):M D:=bnd f λk=>if k=true then g else h
variable{f g:M Bool}{u v w:M D}{rest:List Expr}
theorem Zn(h:PW X e (RT X.K f)):PT X e (RT X.K f):=h.pt
theorem UU(ha:PT X a (RT X.K f)):PW X (.BoolOp .And [a] pos) (RT X.K f):=VQ ha
theorem Xu(ha:PT X a (RT X.K f)):PW X (.BoolOp .Or [a] pos) (RT X.K f):=Yo ha
theorem Xt(ha:PT X a (RT X.K f))(hb:PW X (.BoolOp .And (b::rest) pos) (RT X.K g)):PW X (.BoolOp .And (a::b::rest) pos) (RT X.K (Ic f g)):=
 Pg (Yn ha hb) λσ H Q z9=>by
  clear 5 z9 Oo c t fi r t' eq k;clear 5(Af eq)kb t1 e1 eq;refine⟨Oo,c,t,fi,kb,t1,e1,λH1 c1 f1 s1=>?_⟩
  cases kb with
  |false=>rw[gG ue5] at eq⊢;cases eq;exact k H1 c1 f1 s1
  |true=>rw[gE rfl] at eq⊢;exact⟨Oo,c1,t1,f1,r,t',eq,λH2 c2 f2 s2=>k H2 c2 f2 (s1.trans s2)⟩
theorem Zo(ha:PT X a (RT X.K f))(hb:PW X (.BoolOp .Or (b::rest) pos) (RT X.K g)):PW X (.BoolOp .Or (a::b::rest) pos) (RT X.K (fOr f g)):=
 Pg (ZH ha hb) λσ H Q z9=>by
  clear 5 z9 Oo c t fi r t' eq k;clear 5(Af eq)kb t1 e1 eq;refine⟨Oo,c,t,fi,kb,t1,e1,λH1 c1 f1 s1=>?_⟩
  cases kb with
  |true=>rw[gE rfl] at eq⊢;cases eq;exact k H1 c1 f1 s1
  |false=>rw[gG ue5] at eq⊢;exact⟨Oo,c1,t1,f1,r,t',eq,λH2 c2 f2 s2=>k H2 c2 f2 (s1.trans s2)⟩
theorem Xr(ha:PT X a (RT X.K f)):PT X (.UnaryOp .Not a pos) (RT X.K (Gk f)):=
 IE (Yl ha) λσ H Q z9=>by
  clear 5 z9 Oo c t fi r t' eq k;clear 5(Af eq)kb t1 e1 eq
  cases eq
  exact⟨Oo,c,t,fi,kb,_,e1,λH1 c1 f1 s1=>k H1 c1 f1 s1⟩
theorem Ix{f:M D}{kb:Bool}{t1:T}(h:Aj f t=some (kb,t1)):f t=some (.bl kb,t1):=by
 clear 5(Af h)d t2 e1 e2;clear 5(Iw e2)b rfl z
 cases z
 exact e1
theorem Xd{op:PySem.BoolOp}(h:PE X a (RE X.K u)):PE X (.BoolOp op [a] pos) (RE X.K u):=Yg h
theorem W7(ha:PE X a (RE X.K u))(hb:PE X (.BoolOp .And (b::rest) pos) (RE X.K v)):PE X (.BoolOp .And (a::b::rest) pos) (RE X.K (Hv u v)):=
 AB (Ya ha hb) λσ H Q z9=>by
  clear 5 z9 Oo c t fi r t' eq k;clear 5(Af eq)kb t1 e1 eq;refine⟨Oo,c,t,fi,_,t1,Ix e1,λx H1 c1 f1 s1 rx=>?_⟩
  cases rx
  refine⟨kb,rfl,?_⟩
  cases kb with
  |false=>rw[gG ue5] at eq⊢;cases eq;exact k _ H1 c1 f1 s1 (.bl false)
  |true=>rw[gE rfl] at eq⊢;exact⟨Oo,c1,t1,f1,r,t',eq,λy H2 c2 f2 s2 ry=>k y H2 c2 f2 (s1.trans s2) ry⟩
theorem Zf(ha:PE X a (RE X.K u))(hb:PE X (.BoolOp .Or (b::rest) pos) (RE X.K v)):PE X (.BoolOp .Or (a::b::rest) pos) (RE X.K (JO u v)):=
 AB (Zz ha hb) λσ H Q z9=>by
  clear 5 z9 Oo c t fi r t' eq k;clear 5(Af eq)kb t1 e1 eq;refine⟨Oo,c,t,fi,_,t1,Ix e1,λx H1 c1 f1 s1 rx=>?_⟩
  cases rx
  refine⟨kb,rfl,?_⟩
  cases kb with
  |true=>rw[gE rfl] at eq⊢;cases eq;exact k _ H1 c1 f1 s1 (.bl true)
  |false=>rw[gG ue5] at eq⊢;exact⟨Oo,c1,t1,f1,r,t',eq,λy H2 c2 f2 s2 ry=>k y H2 c2 f2 (s1.trans s2) ry⟩
theorem Xb(ha:PE X a (RE X.K u)):PE X (.UnaryOp .Not a pos) (RE X.K (Hx u)):=
 AB (Yf ha) λσ H Q z9=>by
  clear 5 z9 Oo c t fi r t' eq k;clear 5(Af eq)kb t1 e1 eq
  cases eq
  refine⟨Oo,c,t,fi,_,_,Ix e1,λx H1 c1 f1 s1 rx=>?_⟩
  cases rx
  exact⟨kb,rfl,k _ H1 c1 f1 s1 (.bl (!kb))⟩
theorem RQ{d:Expr}(hc:PT X d (RT X.K f))(ha:PE X a (RE X.K u))(hb:PE X b (RE X.K v)):PE X (.IfExp d a b pos) (RE X.K (fIf f u v)):=
 AB (SK hc ha hb) λσ H Q z9=>by
  clear 5 z9 Oo c t fi r t' eq k;clear 5(Af eq)kb t1 e1 eq;refine⟨Oo,c,t,fi,kb,t1,e1,λH1 c1 f1 s1=>?_⟩
  cases kb with
  |false=>rw[gG ue5] at eq⊢;exact⟨Oo,c1,t1,f1,r,t',eq,λy H2 c2 f2 s2 ry=>k y H2 c2 f2 (s1.trans s2) ry⟩
  |true=>rw[gE rfl] at eq⊢;exact⟨Oo,c1,t1,f1,r,t',eq,λy H2 c2 f2 s2 ry=>k y H2 c2 f2 (s1.trans s2) ry⟩
end
variable{n:Nat}{p:Pos}
section
variable{X:Cx}{e a b:Expr}{es:List Expr}{pos:Pos}
def Ad:M (List D):=ret []
def Aa(f:M D)(g:M (List D)):M (List D):=bnd f λd=>bnd g λds=>ret (d::ds)
theorem W6:PA X [] (RA X.K Ad):=Pe Hg λσ H Q z9=>by
 clear 5 z9 Oo c t fi r t' eq k
 cases eq
 exact k [] H c fi .refl .nil
theorem Uz{g:M (List D)}(ha:PE X e (RE X.K f))(hr:PA X es (RA X.K g))(hs:autoParam (starEach (e::es) X.env=(false,eval e X.env)::starEach es X.env) q3T):PA X (e::es) (RA X.K (Aa f g)):=
 Pe (D4 ha hr hs) λσ H Q z9=>by
  clear 5 z9 Oo c t fi r t' eq k;clear 5(Af eq)d t1 e1 eq;clear 5(Af eq)ds t2 e2 eq
  cases eq
  exact⟨Oo,c,t,fi,d,t1,e1,λx H1 c1 f1 s1 rx=>⟨Oo,c1,t1,f1,ds,_,e2,λxs H2 c2 f2 s2 rxs=>k _ H2 c2 f2 (s1.trans s2) (.cons (rx.mono s2.ext) rxs)⟩⟩
def lim{α:Type}(n:Nat)(a:α):M α:=λt=>if n<=LIM then some (a,t) else none
set_option tactic.hygienic true in
theorem EA{α:Type}{a:α}{z:α×T}(h:lim n a t=some z):n<=LIM/\z=(a,t):=by
 unfold lim at h
 split at h
 .next h1=>cases h;exact⟨h1,rfl⟩
 .cases h
def AC(f:M (List D)):M D:=bnd f λds=>lim ds.length (.tup ds)
theorem Xf{x1:Nat}{f:M (List D)}(h:PA X es (RA X.K f)):PE X (.Tuple es x1 pos) (RE X.K (AC f)):=
 AB (QA h) λσ H Q z9=>by
  clear 5 z9 Oo c t fi r t' eq k;clear 5(Af eq)ds t1 e1 eq;clear 5(EA eq)hl z
  cases z
  refine⟨Oo,c,t,fi,ds,_,e1,λxs H1 c1 f1 s1 rxs=>⟨by rw[rxs.length];exact um0 hl CO,λp hp=>?_⟩⟩;exact k _ _ c1 (f1.laid hp) (s1.trans (f1.stp_laid hp)) (.tup Am (f1.s.free hp) (rxs.mono (Ext.laid f1.s hp)))
def AD(f:M (List D)):M (List D):=bnd f λds=>lim ds.length ds
theorem Xi{f:M (List D)}(h:PA X es (RA X.K f)):PE X (.List es pos) (RF X.K (AD f)):=
 AB (Yd h) λσ H Q z9=>by
  clear 5 z9 Oo c t fi r t' eq k;clear 5(Af eq)ds t1 e1 eq;clear 5(EA eq)hl z
  cases z
  exact⟨Oo,c,t,fi,_,_,e1,λxs H1 c1 f1 s1 rxs=>⟨by rw[rxs.length];exact um0 hl CO,λp hp=>k p xs H1 c1 f1 s1 rxs hp⟩⟩
def Av(f:M (List D)):M D:=bnd f λds=>ret (.lst ds)
theorem UI{f:M (List D)}(h:PE X e (RF X.K f)):PE X e (RE X.K (Av f)):=
 AB h λσ H Q z9=>by
  clear 5 z9 Oo c t fi r t' eq k;clear 5(Af eq)ds t1 e1 eq
  cases eq
  exact⟨Oo,c,t,fi,ds,_,e1,λp xs H1 c1 f1 s1 rxs hp=>k _ _ c1 (f1.laid hp) (s1.trans (f1.stp_laid hp)) (.lst Am (f1.s.free hp) (rxs.mono (Ext.laid f1.s hp)))⟩
noncomputable def OE(o:Ob):M D:=λt=>some (.obj t.S.length,{t with S:=t.S++[o]})
def Dz(f:M (List D)):M D:=bnd f λds=>OE (.lst ds)
theorem Xc{f:M (List D)}(h:PE X e (RF X.K f)):PE X e (RE X.K (Dz f)):=
 AB h λσ H Q z9=>by
  clear 5 z9 Oo c t fi r t' eq k;clear 5(Af eq)ds t1 e1 eq
  cases eq
  refine⟨Oo,c,t,fi,ds,_,e1,λp xs H1 c1 f1 s1 rxs hp=>?_⟩;obtain⟨c2,f2,s2,e2⟩:=f1.newObj (o:=.lst ds) (u:=.lst xs) hp λc' H' ex hu=>⟨xs,hu,rxs.mono ex⟩;exact k _ _ c2 f2 (s1.trans s2) (.obj e2)
abbrev Fn:=List D->List Ob->Option (D×List Ob)
inductive spF(K:eh)(f:Fn)(vs:List V)(H:Hp)(Q:VK)(E:XK):Prop where
 |mk (c:Cf) (ds:List D) (S:List Ob) (si:SInv K c S H) (rs:Reps K c H vs ds) (r:D) (S':List Ob) (e:f ds S=some (r,S')) (k:∀v H' c',SInv K c' S' H'->Stp c.O c H c' H'->(∀b,c'.O b↔c.O b)->Rep K c' H' v r->Q v H'):spF K f vs H Q E
def Ah(g:Fn)(f:M (List D)):M D:=bnd f λds t=>match g ds t.S with
 |some (r,S')=>some (r,{t with S:=S'})
 |none=>none
theorem GN{g:Fn}{ds:List D}{r:D}{t':T}(h:(match g ds t.S with|some (r,S')=>some (r,{t with S:=S'})|none=>none:Option (D×T))=some (r,t')):∃S',g ds t.S=some (r,S')/\t' = {t with S:=S'}:=by
 cases e:g ds t.S with
 |none=>rw[e] at h;cases h
 |some p=>clear 5 p r' S';rw[e] at h;cases h;exact⟨S',rfl,rfl⟩
theorem UB{k:Nat}{fa:eR}{fd:eV}{ps:List Str}{g:Fn}{f:M (List D)}(F:FnOk X.prog X.w X.K X.mg X.base CX0 k fa fd ps (spF X.K g))(hr:Room k X.A)(hg:Gl X x)(hm:X.mg x=some (.ref fa))(hk:PySem.W.keepIn X.K (.ref fa)=true)(hb:Binds X.K fd ps [])
 (ha:PA X (e::es) (RA X.K f)) (hdb:autoParam ((x==("__debug__":Str))=false) q1T) (he:autoParam (starEach (e::es) X.env=(false,eval e X.env)::starEach es X.env) q3T) (hpl:autoParam ((backTo pos (starEach es X.env)).any (·.1)=false) q3T) :
 PE X (.Call (.Name x p) (e::es) [] pos) (RE X.K (Ah g f)):=
 AB (Vy F hr hg hm hk hb .nil OK ha hdb he hpl) λσ H Q z9=>by
  clear 5 z9 Oo c t fi r t' eq kk;clear 5(Af eq)ds t1 e1 eq;clear 5(GN eq)S' e2 rfl;refine⟨Oo,c,t,fi,ds,t1,e1,λvs H1 c1 f1 s1 rvs=>?_⟩;show spF X.K g (vs++[]) H1 Q E0;rw[ui8];refine⟨c1,ds,t1.S,f1.s,rvs,r,S',e2,λv H' c' si st ho rv=>?_⟩;clear 5(f1.after si st ho)f2 s2;exact kk v H' c' f2 (s1.trans s2) rv
def fB(f:M (List D))(h:List D->M D):M D:=bnd f h
theorem RE.callB{f:M (List D)}{h:List D->M D}{R:List V->Hp->VK->Prop}(s:Eu K R h){σ:L2.St}{H:Hp}{Q:VK}(q:RE K (fB f h) σ H Q):tCB R (RA K f) σ H Q:=by
 clear 5 q Oo c t fi r t' eq k;clear 5(Af eq)ds t1 e1 eq;exact⟨Oo,c,t,fi,ds,t1,e1,λxs H1 c1 f1 s1 rxs=>s f1 rxs eq λv H' c' f' s' rv=>k v H' c' f' (s1.trans s') rv⟩
def fBF(f:M (List D))(h:List D->M (List D)):M (List D):=bnd f h
theorem RF.callB{f:M (List D)}{h:List D->M (List D)}{R:List V->Hp->VK->Prop}(s:KR K R h){σ:L2.St}{H:Hp}{Q:VK}(q:RF K (fBF f h) σ H Q):tCB R (RA K f) σ H Q:=by
 clear 5 q Oo c t fi r t' eq k;clear 5(Af eq)ds t1 e1 eq;exact⟨Oo,c,t,fi,ds,t1,e1,λxs H1 c1 f1 s1 rxs=>s f1 rxs eq λp vs H' c' f' s' rv hp=>k p vs H' c' f' (s1.trans s') rv hp⟩
theorem RF.two{h:D->D->M (List D)}(s:KQ K R h){σ:L2.St}{H:Hp}{Q:VK}(q:RF K (bnd f λx=>bnd g λy=>h x y) σ H Q):tOp R (RE K f) (RE K g) σ H Q:=by
 clear 5 q Oo c t fi r t' eq k;clear 5(Af eq)dx t1 e1 eq;clear 5(Af eq)dy t2 e2 eq;exact⟨Oo,c,t,fi,dx,t1,e1,λx H1 c1 f1 s1 rx=>⟨Oo,c1,t1,f1,dy,t2,e2,λy H2 c2 f2 s2 ry=>s f2 (rx.mono s2.ext) ry eq λp vs H' c' f' s' rv hp=>k p vs H' c' f' ((s1.trans s2).trans s') rv hp⟩⟩
end
variable{μ:Cf->Hp->D->(V->Hp->Prop)->Prop}
section
variable{X:Cx}{e a b:Expr}{pos:Pos}{st:Stmt}{sts:List Stmt}
noncomputable def Ae(f g:M Out):M Out:=λt=>match f t with
 |some (.next,t1)=>g t1
 |z=>z
def Aq:M Out:=ret .next
theorem UT:PSs X [] (RSg X.K μ Aq):=MW VO λE σ H z9=>by
 clear 5 z9 Oo c t fi o t' eq k
 cases eq
 exact k σ H c fi .refl
theorem R9{μ:Cf->Hp->D->(V->Hp->Prop)->Prop}{f g:M Out}(h1:PS X st (RSg X.K μ f))(h2:PSs X sts (RSg X.K μ g)):PSs X (st::sts) (RSg X.K μ (Ae f g)):=
 MW (Il h1 h2) λE σ H z9=>by
  clear 5 z9 Oo c t fi o t' eq k;unfold Ae at eq
  cases e1:f t with
  |none=>rw[e1] at eq;cases eq
  |some p=>
    clear 5 p o1 t1;rw[e1] at eq;refine⟨Oo,c,t,fi,o1,t1,e1,λσ1 H1 c1 f1 s1=>?_⟩
    cases o1 with
    |next=>exact⟨Oo,c1,t1,f1,o,t',eq,λσ2 H2 c2 f2 s2=>k σ2 H2 c2 f2 (s1.trans s2)⟩
    |brk=>cases eq;exact k σ1 H1 c1 f1 s1
    |cont=>cases eq;exact k σ1 H1 c1 f1 s1
    |ret d=>cases eq;exact k σ1 H1 c1 f1 s1
theorem Nf{μ:Cf->Hp->D->(V->Hp->Prop)->Prop}{f:M Out}(h1:PS X st (RSg X.K μ f)):PSs X [st] (RSg X.K μ f):=HH h1
def Ao(f:M D):M Out:=bnd f λd=>ret (.ret d)
theorem PV(h:PE X e (RE X.K f)):PS X (.Return (some e) pos) (RS X.K (Ao f)):=
 Bh (Ml h) λE σ H z9=>by
  clear 5 z9 Oo c t fi o t' eq k;clear 5(Af eq)d t1 e1 eq
  cases eq
  exact⟨Oo,c,t,fi,d,_,e1,λv H1 c1 f1 s1 rv=>k σ H1 c1 f1 s1 v rv⟩
theorem Na:PS X (.Pass pos) (RSg X.K μ Aq):=Bh VN λE σ H z9=>by
 clear 5 z9 Oo c t fi o t' eq k
 cases eq
 exact k σ H c fi .refl
def EK(f:M D):M Out:=bnd f λ_=>ret .next
theorem M9(h:PE X e (RE X.K f))(hs:autoParam (swapsWith e none pos.line X.env=pure false) q3T):PS X (.Expr e pos) (RSg X.K μ (EK f)):=
 Bh (JY h hs) λE σ H z9=>by
  clear 5 z9 Oo c t fi o t' eq k;clear 5(Af eq)d t1 e1 eq
  cases eq
  exact⟨Oo,c,t,fi,d,_,e1,λv H1 c1 f1 s1 rv=>k σ H1 c1 f1 s1⟩
def ifS(f:M Bool)(g h:M Out):M Out:=bnd f λk=>if k=true then g else h
theorem Zm{f:M Bool}{g h:M Out}{sa sb:List Stmt}(hc:PT X e (RT X.K f))(ha:PSs X sa (RSg X.K μ g))(hb:PSs X sb (RSg X.K μ h)):PS X (.If e sa sb pos) (RSg X.K μ (ifS f g h)):=
 Bh (ZG hc ha hb) λE σ H z9=>by
  clear 5 z9 Oo c t fi o t' eq k;clear 5(Af eq)kb t1 e1 eq;refine⟨Oo,c,t,fi,kb,t1,e1,λH1 c1 f1 s1=>?_⟩
  cases kb with
  |true=>rw[gE rfl] at eq⊢;exact⟨Oo,c1,t1,f1,o,t',eq,λσ2 H2 c2 f2 s2=>k σ2 H2 c2 f2 (s1.trans s2)⟩
  |false=>rw[gG ue5] at eq⊢;exact⟨Oo,c1,t1,f1,o,t',eq,λσ2 H2 c2 f2 s2=>k σ2 H2 c2 f2 (s1.trans s2)⟩
noncomputable def As(i:Nat)(d:D):M Unit:=λt=>some ((),{t with env:=t.env.set i (some (.val d))})
def Al(i:Nat)(f:M D):M Out:=bnd f λd=>bnd (As i d) λ_=>ret .next
theorem RS.set{μ:Cf->Hp->D->(V->Hp->Prop)->Prop}{K:eh}{i:Nat}{f:M D}{E:Ends}{σ:L2.St}{H:Hp}(q:RSg K μ (Al i f) E σ H):MF (RE K f) (Ja i) E σ H:=by
 clear 5 q Oo c t fi o t' eq k;clear 5(Af eq)d t1 e1 eq
 cases eq
 exact⟨Oo,c,t,fi,d,t1,e1,λv H1 c1 f1 s1 rv=>k _ H1 c1 (f1.set rv) s1⟩
theorem LJ{pos':Pos}(hN:X.N.Nodup)(hi:X.N[i]?=some x)(hx:Loc X.env.scope x)(he:PE X e (RE X.K f))(hs:autoParam (swapsWith e (some (.Name x pos')) pos.line X.env=pure false) q3T)(hf:autoParam (X.fn x=true\/X.env.scope.names.lookup x=some .local) q0T) :
 PS X (.Assign [.Name x pos'] e pos) (RSg X.K μ (Al i f)):=Bh (Mm hN hi hx he hs hf) λ_ _ _ q=>RS.set q
def DC(i:Nat)(f:M (List D)):M Out:=bnd f λds t=>some (.next,{t with env:=t.env.set i (some (.own ds))})
theorem RS.own{f:M (List D)}{E:Ends}(q:RSg K μ (DC i f) E σ H):MF (RF K f) (Ja i) E σ H:=by
 clear 5 q Oo c t fi o t' eq k;clear 5(Af eq)ds t1 e1 eq
 cases eq
 refine⟨Oo,c,t,fi,ds,t1,e1,λp vs H1 c1 f1 s1 rv hp=>?_⟩;clear 5(f1.setOwn (i:=i) hp rv)c2 f2 s2;exact k _ _ c2 f2 (s1.trans s2)
theorem Xq{f:M (List D)}{pos':Pos}(hN:X.N.Nodup)(hi:X.N[i]?=some x)(hx:Loc X.env.scope x)(he:PE X e (RF X.K f))(hs:autoParam (swapsWith e (some (.Name x pos')) pos.line X.env=pure false) q3T)(hf:autoParam (X.fn x=true\/X.env.scope.names.lookup x=some .local) q0T) :
 PS X (.Assign [.Name x pos'] e pos) (RSg X.K μ (DC i f)):=Bh (Mm hN hi hx he hs hf) λ_ _ _ q=>RS.own q
theorem BW(hN:X.N.Nodup)(hi:X.N[i]?=some x)(hx:Loc X.env.scope x)(hf:autoParam (X.fn x=true\/X.env.scope.names.lookup x=some .local) q0T):PG X (.Name x pos) (RG X.K (As i)):=
 GI (VD hN hi hx hf) λv σ H Q z9=>by
  clear 5 z9 Oo c t d fi rv t' eq k
  cases eq
  exact k _ H c (fi.set rv) .refl
def BP(f:M D)(g:D->M Unit):M Out:=bnd f λd=>bnd (g d) λ_=>ret .next
theorem Xo{g:D->M Unit}(he:PE X e (RE X.K f))(hg:PG X tg (RG X.K g))(hs:autoParam (swapsWithSole [tg] e pos.line X.env=pure false) q3T)(hw:autoParam (swappedStores [tg] e X.env=pure none) q3T)(hp:autoParam ((assignEach [tg] X.env).map (·.2)=[assign tg X.env]) q3T) :
 PS X (.Assign [tg] e pos) (RSg X.K μ (BP f g)):=
 Bh (by first|exact QF he hg hs hw|exact QF he hg hs hw hp) λE σ H z9=>by
  clear 5 z9 Oo c t fi o t' eq k;clear 5(Af eq)d t1 e1 eq;clear 5(Af eq)u t2 e2 eq
  cases eq
  exact⟨Oo,c,t,fi,d,t1,e1,λv H1 c1 f1 s1 rv=>⟨Oo,c1,t1,d,f1,rv,_,e2,λσ2 H2 c2 f2 s2=>k σ2 H2 c2 f2 (s1.trans s2)⟩⟩
inductive RGs(K:eh)(f:List D->M Unit)(vs:List V)(σ:L2.St)(H:Hp)(Q:L2.St->Hp->Prop):Prop where
 |mk (Oo:eR->Prop) (c:Cf) (t:T) (ds:List D) (fi:FInv K Oo c t σ H) (r:Reps K c H vs ds) (t':T) (e:f ds t=some ((),t')) (k:∀σ' H' c',FInv K Oo c' t' σ' H'->Stp Oo c H c' H'->Q σ' H'):RGs K f vs σ H Q
theorem MV{ts:List Expr}{t t':TGs}(h:PGs X ts t)(i:∀v σ H Q,t' v σ H Q->t v σ H Q):PGs X ts t':=λei s σ H vs us Q I r q=>h ei s σ H vs us Q I r (i vs σ H Q q)
def El:List D->M Unit
 |[]=>ret ()
 |_=>fail
def AX(f:D->M Unit)(g:List D->M Unit):List D->M Unit
 |d::ds=>bnd (f d) λ_=>g ds
 |[]=>fail
theorem UJ:PGs X [] (RGs X.K El):=MV VF λvs σ H Q z9=>by
 clear 5 z9 Oo c t ds fi rv t' eq k
 cases rv with
 |nil=>cases eq;exact⟨rfl,k σ H c fi .refl⟩
 |cons _ _=>cases eq
theorem RGs.cons{K:eh}{f:D->M Unit}{g:List D->M Unit}{vs:List V}{σ:L2.St}{H:Hp}{Q:L2.St->Hp->Prop}(q:RGs K (AX f g) vs σ H Q):TZ (RG K f) (RGs K g) vs σ H Q:=by
 clear 5 q Oo c t ds fi rv t' eq k
 cases rv with
 |nil=>cases eq
 |cons r rs=>
   clear 5(Af eq)u t1 e1 eq;exact⟨_,_,rfl,Oo,c,t,_,fi,r,t1,e1,λσ1 H1 c1 f1 s1=>⟨Oo,c1,t1,_,f1,rs.mono s1.ext,t',eq,λσ2 H2 c2 f2 s2=>k σ2 H2 c2 f2 (s1.trans s2)⟩⟩
set_option tactic.hygienic true in
def BS(st:D->M Unit)(b:M Out):List D->M Out
 |[]=>ret .next
 |d::r=>λt=>match st d t with
   |none=>none
   |some (_,t1)=>match b t1 with
     |some (.next,t2)=>BS st b r t2
     |some (.cont,t2)=>BS st b r t2
     |some (.brk,t2)=>some (.next,t2)
     |some (.ret x,t2)=>some (.ret x,t2)
     |none=>none
def BF(f:M (List D))(st:D->M Unit)(b:M Out):M Out:=bnd f λds=>BS st b ds
theorem RS.for{f:M (List D)}{g:D->M Unit}{b:M Out}{E:Ends}(q:RSg K μ (BF f g b) E σ H):Tt (RI K f) (RG K g) (RSg K μ b) E σ H:=by
 clear 5 q Oo c t fi o t' eq k;clear 5(Af eq)ds t1 e1 eq;refine⟨Oo,c,t,fi,ds,t1,e1,λJ H1 c1 f1 s1 it=>?_⟩;refine⟨λi m σ' H'=>m=ds.length-i/\i<=ds.length/\∃c' t2,FInv K Oo c' t2 σ' H'/\Stp Oo c1 H1 c' H'/\BS g b (ds.drop i) t2=some (o,t'),⟨_,rfl,un3 _,c1,t1,f1,.refl,by rw[uk4];exact eq⟩,?_⟩;rintro i m σ' H' ⟨rfl,hi,c',t2,f2,s2,e2⟩
 by_cases hlt:i<ds.length
 .refine .inr ⟨it.go c' H' i s2.ext hlt,λσ3 H3=>∃c3 t3,FInv K Oo c3 t3 σ3 H3/\Stp Oo c1 H1 c3 H3/\BS g b (ds.drop (i+1)) t3=some (o,t'),λσ3 H3 h=>⟨ds.length-(i+1),by lia,rfl,hlt,h⟩,λx H'' hy=>?_⟩;clear 5(it.yld c' H' i x H'' _ s2.ext (ub4 hlt) hy)rfl rx;rw[ub2 hlt] at e2;unfold BS at e2
  cases e3:g ds[i] t2 with
  |none=>rw[e3] at e2;cases e2
  |some p=>
    clear 5 p u t3;rw[e3] at e2
    try dsimp only at e2
    refine⟨Oo,c',t2,_,f2,rx,t3,e3,λσ3 H3 c3 f3 s3=>?_⟩
    cases e4:b t3 with
    |none=>rw[e4] at e2;cases e2
    |some p=>
      clear 5 p o4 t4;rw[e4] at e2
      try dsimp only at e2
      refine⟨Oo,c3,t3,f3,o4,t4,e4,λσ5 H5 c5 f5 s5=>?_⟩;have s':=(s2.trans s3).trans s5
      cases o4 with
      |next=>exact⟨c5,t4,f5,s',e2⟩
      |cont=>exact⟨c5,t4,f5,s',e2⟩
      |brk=>cases e2;exact k σ5 H5 c5 f5 (s1.trans s')
      |ret r=>cases e2;exact k σ5 H5 c5 f5 (s1.trans s')
 .have hi':i=ds.length:=by lia
  subst hi';rw[uh5] at e2
  cases e2
  exact .inl ⟨it.stop c' H' s2.ext,k σ' H' c' f2 (s1.trans s2)⟩
theorem PQ{iter:Expr}{body:List Stmt}{f:M (List D)}{g:D->M Unit}{b:M Out}(hp:PassesOwn (model X.prog X.w) X.A X.env X.xe)(hc:X.calm=true)(hi:PI X tg iter (RI X.K f))(hg:PG X tg (RG X.K g))(hb:PSs X body (RSg X.K μ b))
 (hs:autoParam (∀x,foldedSetIterable iter X.env x=pure x) q2T):PS X (.For tg iter body [] pos) (RSg X.K μ (BF f g b)):=
 Bh (QG hp hc hi hg hb hs) λ_ _ _ q=>RS.for q
theorem ItOk.lst{K:eh}{c:Cf}{H:Hp}{p:eR}{ds:List D}(r:∀c' H',Ext c H c' H'->∃vs,SqL K H' p vs/\Reps K c' H' vs ds):ItOk K (Itl K p) c H ds:=by
 refine⟨λc' H' i ex hi=>?_,λc' H' i x H'' d ex hd hy=>?_,λc' H' ex=>?_⟩
 .clear 5(r c' H' ex)vs h1 h2;obtain⟨v,e,_⟩:=h2.at (ub4 hi);exact⟨vs,v,h1,e⟩
 .clear 5(r c' H' ex)vs h1 h2;clear 5 hy rfl h;exact⟨rfl,h2.get (h vs h1) hd⟩
 .clear 5(r c' H' ex)vs h1 h2;exact⟨vs,h1,by rw[h2.length];exact un2 _⟩
theorem ItOk.tup{K:eh}{c:Cf}{H:Hp}{p:eR}{ds:List D}(r:∀c' H',Ext c H c' H'->∃vs,SqT K H' p vs/\Reps K c' H' vs ds):ItOk K (Itt K p) c H ds:=by
 refine⟨λc' H' i ex hi=>?_,λc' H' i x H'' d ex hd hy=>?_,λc' H' ex=>?_⟩
 .clear 5(r c' H' ex)vs h1 h2;obtain⟨v,e,_⟩:=h2.at (ub4 hi);exact⟨vs,v,h1,e⟩
 .clear 5(r c' H' ex)vs h1 h2;clear 5 hy rfl h;exact⟨rfl,h2.get (h vs h1) hd⟩
 .clear 5(r c' H' ex)vs h1 h2;exact⟨vs,h1,by rw[h2.length];exact un2 _⟩
end
theorem FInv.leave{Oo:eR->Prop}(f:FInv K Oo c t σ H):SInv K ⟨c.ι,Oo⟩ t.S H/\Ext c H ⟨c.ι,Oo⟩ H:=by
 have ext:Ext c H ⟨c.ι,Oo⟩ H:=⟨λ_ _ e _=>e,λb o _ z=>z.elim .inl λw=>.inr (f.sub b w),λ_ _ e=>e⟩;exact⟨⟨f.s.len,f.s.nd,λk a o e1 e2=>(f.s.obs k a o e1 e2).mono ext rfl,λb z=>f.s.trk b (f.sub b z),λb z=>f.s.dis b (f.sub b z)⟩,ext⟩
noncomputable def env0(m:Nat)(ds:List D):List (Option Sl):=ds.map (λd=>some (.val d))++List.replicate (m-ds.length) none
def fnOf(n m:Nat)(g:M Out):Fn:=λds S=>if ds.length=n then(match g ⟨env0 m ds,S⟩ with
 |some (.ret r,t)=>some (r,t.S)
 |some (.next,t)=>some (.non,t.S)
 |_=>none) else none
theorem IX{ds:List D}{N:List Str}(s:SInv K c S H)(r:Reps K c H vs ds):FInv K c.O c ⟨env0 N.length ds,S⟩ (L2.start N vs) H:=by
 have hlen:vs.length=ds.length:=r.length;have none_:∀{i:Nat}{x:Sl},(env0 N.length ds)[i]?=some (some x)->∃d,ds[i]?=some d/\x=.val d:=λ{i x} q=>by
  unfold env0 at q
  by_cases hi:i<ds.length
  .rw[ub1 (by simpa using hi),uf8,ub4 hi] at q;simp at q;exact⟨ds[i],ub4 hi,q.symm⟩
  .rw[ua6 (by simpa using hi),ub6] at q
   split at q<;>simp at q
 refine⟨s,by simp[env0,L2.start,hlen],λ_ z=>z,λi d q=>?_,λi es q=>?_,λi j es _ a q _ _ _=>?_⟩
 .obtain⟨d',h1,h2⟩:=none_ q
  cases h2
  clear 5(r.at h1)v h3 h4;refine⟨v,?_,h4⟩;unfold L2.start;have hi:=(ub0.mp h3).1;rw[ub1 (by simpa using hi),uf8,h3];rfl
 .obtain⟨_,_,h2⟩:=none_ q;cases h2
 .obtain⟨_,_,h2⟩:=none_ q;cases h2
set_option tactic.hygienic true in
theorem Zl{P:eT}{w:eU}{mg:Str->Option eo}{base:Heap}{qual:Str}{st:Stmt}{fa:eR}{fd:eV}{N ps:List Str}{k:Nat}{g:M Out}(F:Fun K x qual st fa fd)(S:FnScope N ps (Ap st))
 (hb:∀(cdv:eo) (A:Around) (outer:List Env) (s:eS) (H:Hp) (E:XK),Room k (A.deeper (PyProof.Rows.envOfC qual (Ap st) s.heap.objs.size fa cdv))->
   PSs (Dy CX0 P w K mg base N qual (Ap st) fa cdv A outer s H E).nox (Bp st) (RS K g)):FnOk P w K mg base CX0 (k+1) fa fd ps (spF K (fnOf ps.length N.length g)):=by
 have hlen:∀{ds:List D}{S:List Ob}{z:D×List Ob},fnOf ps.length N.length g ds S=some z->ds.length=ps.length:=λ{ds S z} h=>by
  unfold fnOf at h
  split at h
  .next h1=>exact h1
  .cases h
 refine F.ok S (λvs H Q E h=>?_) (λcdv A outer s H vs Q E hr h=>?_)
 .obtain⟨c,ds,S,si,rs,r,S',e,_⟩:=h;rw[rs.length];exact hlen e
 clear 5 h c ds S0 si rs r S' e kk;refine⟨RS K g,hb cdv A outer s H E hr,?_⟩;have hl:=hlen e;unfold fnOf at e;rw[gE hl] at e
 cases eg:g ⟨env0 N.length ds,S0⟩ with
 |none=>rw[eg] at e;cases e
 |some p=>
   clear 5 p o t;rw[eg] at e;refine⟨c.O,c,_,IX si rs,o,t,eg,λσ' H' c' f' s'=>?_⟩;clear 5 f'.leave si' ext';have st':Stp c.O c H ⟨c'.ι,c.O⟩ H':=⟨s'.ext.trans ext',s'.oo⟩
   cases o with
   |next=>cases e;exact kk .non H' _ si' st' (λ_=>gD) .non
   |ret d=>cases e;exact λv rv=>kk v H' _ si' st' (λ_=>gD) (rv.mono ext')
   |brk=>cases e
   |cont=>cases e
variable{fr:List Nat}
section
variable{X:Cx}{e a b:Expr}{pos:Pos}
def items:D->M (List D)
 |.lst ds=>ret ds
 |.tup ds=>ret ds
 |.scr ns=>ret (ns.map .int)
 |_=>fail
noncomputable def AQ(lo:Int)(n:Nat):List D:=(List.range n).map λi=>.int (lo+(i:Nat))
theorem ItOk.rng{lo:Int}:ItOk K (Itr lo n) c H (AQ lo n):=by
 refine⟨λc' H' i ex hi=>?_,λc' H' i x H'' d ex hd hy=>?_,λc' H' ex=>?_⟩
 .have:i<n:=by simpa[AQ] using hi
  exact this
 .clear 5 hy rfl rfl;refine⟨rfl,?_⟩;have hi:i<n:=by
   have:=(ub0.mp hd).1;simpa[AQ] using this
  have:d=.int (lo+(i:Nat)):=by
   rw[AQ,uf8,List.getElem?_range hi] at hd;simpa using hd.symm
  rw[this];exact .int _
 .show n<=(AQ lo n).length;simp[AQ]
noncomputable def Bw(i:Int):Bool:=decide (-(2 ^ 62)<=i)&&decide (i<2 ^ 62)
def Ir:List D->M (List D)
 |[.int j]=>λt=>if Bw j=true then some (AQ 0 j.toNat,t) else none
 |_=>fail
def J0:List D->M (List D)
 |[.int i,.int j]=>λt=>if (Bw i&&Bw j)=true then some (AQ i (j-i).toNat,t) else none
 |_=>fail
def Bs(f:M (List D)):M (List D):=bnd f Ir
def Gm(f:M (List D)):M (List D):=bnd f J0
theorem D7{i:Int}(h:Bw i=true) : -(2 ^ 62)<=i/\i<2 ^ 62:=by
 unfold Bw at h;rw[uh3] at h;exact⟨ug7 h.1,ug7 h.2⟩
set_option tactic.hygienic true
theorem PL{f:M (List D)}(hg:Gl X "range")(hm:X.mg "range" = none)(ha:PA X [a] (RA X.K f))(hs:autoParam (starEach [a] X.env=[(false,eval a X.env)]) q3T):PI X tg (.Call (.Name "range" p) [a] [] pos) (RI X.K (Bs f)):=
 ID (QC hg hm ha hs) λσ H R z9=>by
  clear 5 z9 Oo c t fi ds t' eq k;clear 5(Af eq)xs t1 e1 eq;refine⟨Oo,c,t,fi,xs,t1,e1,λvs H1 c1 f1 s1 rv=>?_⟩;unfold Ir at eq
  split at eq
  .next j=>
   split at eq
   .next hs=>
    cases eq
    cases rv with
    |cons r rs=>
      cases rs
      cases r
      clear 5(D7 hs)h1 h2;exact⟨j,rfl,h1,h2,k _ H1 c1 f1 s1 ItOk.rng⟩
   .cases eq
  .cases eq
theorem PN{f:M (List D)}(hg:Gl X "range")(hm:X.mg "range" = none)(ha:PA X [a,b] (RA X.K f))(hs:autoParam (starEach [a,b] X.env=[(false,eval a X.env),(false,eval b X.env)]) q3T)(hs2:autoParam (starEach [b] X.env=[(false,eval b X.env)]) q3T):PI X tg (.Call (.Name "range" p) [a,b] [] pos) (RI X.K (Gm f)):=
 ID (QD hg hm ha hs hs2) λσ H R z9=>by
  clear 5 z9 Oo c t fi ds t' eq k;clear 5(Af eq)xs t1 e1 eq;refine⟨Oo,c,t,fi,xs,t1,e1,λvs H1 c1 f1 s1 rv=>?_⟩;unfold J0 at eq
  split at eq
  .next i j=>
   split at eq
   .next hs=>
    cases eq
    rw[uh3] at hs
    cases rv with
    |cons r rs=>
      cases r
      cases rs with
      |cons r rs=>
        cases rs
        cases r
        clear 5(D7 hs.1)h1 h2;clear 5(D7 hs.2)h3 h4;exact⟨i,j,rfl,⟨h1,h2,h3,h4⟩,k _ H1 c1 f1 s1 ItOk.rng⟩
   .cases eq
  .cases eq
def Bl(st:D->M Unit)(tst:M Bool)(elt:M D):List D->M (List D)
 |[]=>ret []
 |d::r=>bnd (st d) λ_=>bnd tst λk=>if k=true then bnd elt λx=>bnd (Bl st tst elt r) λxs=>ret (x::xs) else Bl st tst elt r
noncomputable def Z0:Option (Option Sl)->Option Sl
 |some (some (.val d))=>some (.val d)
 |_=>none
def cenv(n:Nat)(fr:List Nat)(env:List (Option Sl)):List (Option Sl):=List.replicate n none++fr.map λi=>Z0 env[i]?
noncomputable def ET(n:Nat)(fr:List Nat)(σ:L2.St):L2.St:=List.replicate n none++fr.map λi=>(σ[i]?).join
def AN(n:Nat)(fr:List Nat)(f:M (List D))(st:D->M Unit)(tst:M Bool)(elt:M D):M (List D):=bnd f λds t=>match Bl st tst elt ds ⟨cenv n fr t.env,t.S⟩ with
 |some (xs,t')=>if xs.length<=LIM then some (xs,{t with S:=t'.S}) else none
 |none=>none
set_option tactic.hygienic false
theorem Ia{env:List (Option Sl)}{x:Sl}(h:(cenv n fr env)[j]?=some (some x)):∃i d,n<=j/\fr[j-n]?=some i/\env[i]?=some (some (.val d))/\x=.val d:=by
 unfold cenv at h
 by_cases hj:j<n
 .rw[ub1 (by simpa using hj),ub6] at h
  split at h<;>simp at h
 .rw[ua6 (by simpa using hj),uc7,uf8] at h
  cases e:fr[j-n]? with
  |none=>rw[e] at h;simp at h
  |some i=>
    rw[e] at h;simp only[uj6,ug4] at h
    cases e2:env[i]? with
    |none=>rw[e2] at h;cases h
    |some o=>
      cases o with
      |none=>rw[e2] at h;cases h
      |some sl=>
        cases sl with
        |own _=>rw[e2] at h;cases h
        |val d=>rw[e2] at h;cases h;exact⟨i,d,by lia,rfl,e2,rfl⟩
theorem IW{Oo:eR->Prop}(f:FInv K Oo c t σ H):FInv K c.O c ⟨cenv n fr t.env,t.S⟩ (ET n fr σ) H:=by
 refine⟨f.s,by simp[cenv,ET],λ_ z=>z,λj d q=>?_,λj es q=>?_,λj _ es _ _ q _ _ _=>?_⟩
 .obtain⟨i,d',h0,h1,h2,h3⟩:=Ia q
  cases h3
  clear 5(f.val i d h2)v h4 h5;refine⟨v,?_,h5⟩;unfold ET;rw[ua6 (by simpa using h0),uc7,uf8,h1];simp[h4]
 .obtain⟨_,_,_,_,_,h⟩:=Ia q;cases h
 .obtain⟨_,_,_,_,_,h⟩:=Ia q;cases h
set_option tactic.hygienic true in
theorem RF.comp{f:M (List D)}{st:D->M Unit}{tst:M Bool}{elt:M D}{Q:VK}(q:RF K (AN n fr f st tst elt) σ H Q):K5 (RI K f) (RG K st) (RT K tst) (RE K elt) (ET n fr) σ H Q:=by
 clear 5 q Oo c t fi xs t' eq k;clear 5(Af eq)ds t1 e1 eq;refine⟨Oo,c,t,fi,ds,t1,e1,λJ H1 c1 f1 s1 it=>?_⟩
 cases e3:Bl st tst elt ds ⟨cenv n fr t1.env,t1.S⟩ with
 |none=>rw[e3] at eq;cases eq
 |some p=>
   clear 5 p ys t3;rw[e3] at eq;dsimp only at eq
   split at eq
   case isFalse=>cases eq
   next hl=>
   cases eq
   refine⟨λi m acc σ' H'=>m=ds.length-i/\i<=ds.length/\∃c' t2 zs rest,FInv K c1.O c' t2 σ' H'/\Stp c1.O c1 H1 c' H'/\Reps K c' H' acc zs/\Bl st tst elt (ds.drop i) t2=some (rest,t3)/\xs=zs++rest,
    ⟨_,rfl,un3 _,c1,_,[],xs,IW f1,.refl,.nil,by rw[uk4];exact e3,rfl⟩,?_⟩
   rintro i m acc σ' H' ⟨rfl,hi,c',t2,zs,rest,f2,s2,ra,e2,ez⟩;have hacc:acc.length<=sizeLine:=by
    have:zs.length<=xs.length:=by rw[ez,ue8];exact uh6 _ _
    rw[ra.length];exact um0 this (um0 hl CO)
   refine⟨hacc,?_⟩
   by_cases hlt:i<ds.length
   .refine .inr ⟨it.go c' H' i s2.ext hlt,λx H'' hy=>?_⟩;clear 5(it.yld c' H' i x H'' _ s2.ext (ub4 hlt) hy)rfl rx;rw[ub2 hlt] at e2;unfold Bl at e2;clear 5(Af e2)u t4 e4 e2;clear 5(Af e2)kb t5 e5 e2;refine⟨c1.O,c',t2,_,f2,rx,t4,e4,λσ3 H3 c3 f3 s3=>⟨c1.O,c3,t4,f3,kb,t5,e5,λH4 c4 f4 s4=>?_⟩⟩
    cases kb with
    |false=>
      rw[gG ue5] at e2⊢;exact⟨ds.length-(i+1),by lia,rfl,hlt,c4,t5,zs,rest,f4,(s2.trans s3).trans s4,ra.mono (s3.trans s4).ext,e2,ez⟩
    |true=>
      rw[gE rfl] at e2⊢;clear 5(Af e2)x6 t6 e6 e2;clear 5(Af e2)r7 t7 e7 e2
      cases e2
      refine⟨c1.O,c4,t5,f4,x6,t6,e6,λv H5 c5 f5 s5 rv=>?_⟩;exact⟨ds.length-(i+1),by lia,rfl,hlt,c5,t6,zs++[x6],r7,f5,((s2.trans s3).trans s4).trans s5,(ra.mono ((s3.trans s4).trans s5).ext).append (.cons rv .nil),e7,by rw[ez,ug1];rfl⟩
   .have hi':i=ds.length:=by lia
    subst hi';rw[uh5] at e2
    cases e2
    refine .inl ⟨it.stop c' H' s2.ext,λp hp _=>?_⟩;clear 5 f2.leave si ext;clear 5(f1.after si ⟨s2.ext.trans ext,s2.oo⟩ (λ_=>gD))f6 s6;rw[ui8] at ez;subst ez;exact k p acc H' _ f6 (s1.trans s6) (ra.mono ext) hp
end
end
open PySem.SeqAt
noncomputable def eq0:D->D->Option Bool
 |.int a,.int b=>some (a==b)
 |.str a,.str b=>some (a==b)
 |.bl a,.bl b=>some (a==b)
 |.non,.non=>some true
 |.lst _,.str _=>some false
 |_,_=>none
noncomputable def C9(f:D->D->Option Bool):List D->List D->Option Bool
 |x::xs,y::ys=>match f x y,C9 f xs ys with
   |some a,some b=>some (a&&b)
   |_,_=>none
 |_,_=>some true
def eqN:Nat->D->D->Option Bool
 |0,x,y=>eq0 x y
 |n+1,.tup xs,.tup ys=>(C9 (eqN n) xs ys).map λb=>b&&xs.length==ys.length
 |n+1,.lst xs,.lst ys=>if xs.length=ys.length then C9 (eqN n) xs ys else some false
 |_+1,x,y=>eq0 x y
noncomputable def ej(f:D->D->Option Bool)(xs ys:List D)(j:Nat):Bool:=match xs[j]?,ys[j]? with
 |some d,some e=>(f d e).getD true
 |_,_=>true
theorem Da{f:D->D->Option Bool}:∀{xs ys:List D}{b:Bool},C9 f xs ys=some b->b=(List.range (min xs.length ys.length)).all (ej f xs ys)/\∀(j:Nat) d e,xs[j]?=some d->ys[j]?=some e->∃k,f d e=some k
 |[],ys,b,h=>by
   have h:some true=some b:=by simpa[C9] using h
   cases h
   refine⟨by simp,λj d e q _=>by simp at q⟩
 |x::xs,[],b,h=>by
   have h:some true=some b:=by simpa[C9] using h
   cases h
   refine⟨by simp,λj d e _ q=>by simp at q⟩
 |x::xs,y::ys,b,h=>by
   unfold C9 at h
   cases e1:f x y with
   |none=>rw[e1] at h;cases h
   |some a=>
     cases e2:C9 f xs ys with
     |none=>rw[e1,e2] at h;cases h
     |some c=>
       rw[e1,e2] at h
       cases h
       clear 5(Da e2)h1 h2;refine⟨?_,λj d e q1 q2=>?_⟩
       .have hm:min (x::xs).length (y::ys).length=min xs.length ys.length+1:=by simp[Nat.succ_min_succ]
        rw[hm,List.range_succ_eq_map,ul1,um5,h1];have:ej f (x::xs) (y::ys) 0=a:=by simp[ej,e1]
        rw[this];rfl
       .cases j with
        |zero=>simp at q1 q2;subst q1 q2;exact⟨a,e1⟩
        |succ j=>exact h2 j d e (by simpa using q1) (by simpa using q2)
section
variable{P:eT}{w:eU}{H:Hp}{vs:List V}
theorem Ez{h:Heap}{a:eR}(o:HOk P w H h)(e:H a=some (.lst vs)):∃its:List eo,Vals vs its/\h.IsList a its.toArray:=by
 obtain⟨_,its,n,r,q⟩:=o a _ e;exact⟨its,r,_,q,rfl,n,rfl⟩
theorem HA{h:Heap}{a:eR}(o:HOk P w H h)(e:H a=some (.tup vs)):∃its:List eo,Vals vs its/\h.IsTuple a its.toArray:=by
 obtain⟨_,its,r,q⟩:=o a _ e;exact⟨its,r,q⟩
theorem Ju{its:List eo}{j:Nat}(r:Vals vs its)(h:j<its.toArray.size):∃v,vs[j]?=some v/\RelV v its.toArray[j]:=by
 have h':j<its.length:=by simpa using h
 have hl:j<vs.length:=by rw[r.length];exact h'
 clear 5(r.get (ub4 hl))u e1 e2;refine⟨vs[j],ub4 hl,?_⟩;rw[ub4 h'] at e1
 cases e1
 simpa using e2
variable{b:Bool}
theorem Px{f:D->D->Option Bool}{xs ys:List D}(h:C9 f xs ys=some b)(ht:∀(j:Nat) d e k,xs[j]?=some d->ys[j]?=some e->f d e=some k->k=true):b=true:=by
 clear 5(Da h)h1 h2;rw[h1,uh7];intro j hj;have hj':=uk2.mp hj;have l1:j<xs.length:=by lia
 have l2:j<ys.length:=by lia
 clear 5(h2 j _ _ (ub4 l1) (ub4 l2))k ek;have:=ht j _ _ k (ub4 l1) (ub4 l2) ek;unfold ej;rw[ub4 l1,ub4 l2];simp[ek,this]
theorem GQ{x y:D}(e:eq0 x y=some b):(∃i j,x=.int i/\y=.int j/\(i==j)=b)\/(∃i j,x=.str i/\y=.str j/\(i==j)=b)\/(∃i j,x=.bl i/\y=.bl j/\(i==j)=b)\/(x=.non/\y=.non/\true=b)\/(∃ys j,x=.lst ys/\y=.str j/\false=b):=by
 unfold eq0 at e
 split at e
 .cases e;exact .inl ⟨_,_,rfl,rfl,rfl⟩
 .cases e;exact .inr (.inl ⟨_,_,rfl,rfl,rfl⟩)
 .cases e;exact .inr (.inr (.inl ⟨_,_,rfl,rfl,rfl⟩))
 .cases e;exact .inr (.inr (.inr (.inl ⟨rfl,rfl,rfl⟩)))
 .cases e;exact .inr (.inr (.inr (.inr ⟨_,_,rfl,rfl,rfl⟩)))
 .cases e
theorem GU{n:Nat}{x y:D}(e:eqN n x y=some b):eq0 x y=some b\/(∃m xs ys,n=m+1/\x=.lst xs/\y=.lst ys/\(if xs.length=ys.length then C9 (eqN m) xs ys else some false)=some b)\/∃m xs ys b',n=m+1/\x=.tup xs/\y=.tup ys/\C9 (eqN m) xs ys=some b'/\(b'&&xs.length==ys.length)=b:=by
 unfold eqN at e
 split at e
 .exact .inl e
 .clear 5(uc4.mp e)b' e1 e2;exact .inr (.inr ⟨_,_,_,b',rfl,rfl,rfl,e1,e2⟩)
 .exact .inr (.inl ⟨_,_,_,rfl,rfl,rfl,e⟩)
 .exact .inl e
variable{K:eh}{c:Cf}
theorem M4:∀(n:Nat){v:V}{d e:D}{b:Bool},Rep K c H v d->Rep K c H v e->eqN n d e=some b->b=true
 :=by
  intro n
  induction n using Nat.strongRecOn with
  |ind n ih=>
  intro v d e b rd re q;have items:∀{m:Nat}{vs:List V}{ds es:List D}{b':Bool},n=m+1->Reps K c H vs ds->Reps K c H vs es->C9 (eqN m) ds es=some b'->b'=true:=λ{m vs ds es b'} hm r1 r2 e'=>
   Px e' λj d e k q1 q2 ek=>by
    clear 5(r1.at q1)v g1 g2;exact ih m ∅ g2 (r2.get g1 q2) ek
  rcases GU q with q0|⟨m,ds,es,hm,rfl,rfl,q0⟩|⟨m,ds,es,b',hm,rfl,rfl,q1,q2⟩
  .rcases GQ q0 with⟨i,j,rfl,rfl,rfl⟩|⟨i,j,rfl,rfl,rfl⟩|⟨i,j,rfl,rfl,rfl⟩|⟨rfl,rfl,rfl⟩|⟨ys,j,rfl,rfl,rfl⟩
   .have h:=rd.rv.symm.trans re.rv;cases h;simp
   .have h:=rd.rv.symm.trans re.rv;cases h;simp
   .have h:=rd.rv.symm.trans re.rv;cases h;simp
   .rfl
   .obtain⟨a,vs,e,_⟩:=rd.rv;cases (re.rv.symm.trans e)
  .obtain⟨a,vs,rfl,h1,_,h3⟩:=rd.rv
   .obtain⟨_,ws,k,g1,_,g3⟩:=re.rv
    .  cases k
       rw[h1] at g1;cases g1
       rw[gE (h3.length.symm.trans g3.length)] at q0;exact items hm h3 g3 q0
  .obtain⟨a,vs,rfl,h1,_,h3⟩:=rd.rv
   .obtain⟨_,ws,k,g1,_,g3⟩:=re.rv
    .  cases k
       rw[h1] at g1;cases g1
       rw[<-q2,items hm h3 g3 q1,h3.length.symm.trans g3.length];simp
theorem JM{s:eS}(hok:HOk P w H s.heap):∀(n:Nat){A:Around}{x y:V}{u v:eo}{dx dy:D}{b:Bool},RelV x u->RelV y v->Rep K c H x dx->Rep K c H y dy->eqN n dx dy=some b->A.units+n<cLine->
 RcAt A s u v b/\(EqAt A s u v b)
 :=by
  intro n
  induction n using Nat.strongRecOn with
  |ind n ih=>
  intro A x y u v dx dy b ru rv rx ry e hu;have items:∀{m:Nat}{vs ws:List V}{is js:List eo}{ds es:List D}{b':Bool},n=m+1->Vals vs is->Vals ws js->Reps K c H vs ds->Reps K c H ws es->C9 (eqN m) ds es=some b'->
   ∀j (h1:j<is.toArray.size) (h2:j<js.toArray.size),EqAt A.in1 s is.toArray[j] js.toArray[j] (ej (eqN m) ds es j):=λ{m vs ws is js ds es b'} hm r1 r2 q1 q2 e' j h1 h2=>by
   clear 5(Ju r1 h1)v1 a1 a2;clear 5(Ju r2 h2)v2 b1 b2;clear 5(ub0.mp a1)l1 g1;clear 5(ub0.mp b1)l2 g2;have k1:ds[j]?=some (ds[j]'(by rw[<-q1.length];exact l1)):=ub4 _;have k2:es[j]?=some (es[j]'(by rw[<-q2.length];exact l2)):=ub4 _;clear 5((Da e').2 j _ _ k1 k2)kk ek;have:ej (eqN m) ds es j=kk:=by unfold ej;rw[k1,k2];simp[ek]
   rw[this];have hu':A.in1.units+m<cLine:=by
    have:A.in1.units=A.units+1:=by first|rfl|exact Around.units_in1 _|simp[Around.in1,Around.units]
    lia
   exact(ih m ∅ a2 b2 (q1.get a1 k1) (q2.get b1 k2) ek hu').2
  have hu0:A.units<cLine:=by lia
  have conc:∀{p q:eR}{k:Bool},p≠q->RcAt A s (.ref p) (.ref q) k->RcAt A s (.ref p) (.ref q) k/\EqAt A s (.ref p) (.ref q) k:=λhn h=>⟨h,EqAt.of_refs hn h⟩;rcases GU e with e0|⟨m,ds,es,hm,rfl,rfl,e0⟩|⟨m,ds,es,b',hm,rfl,rfl,e1,e2⟩
  .rcases GQ e0 with⟨i,j,rfl,rfl,rfl⟩|⟨i,j,rfl,rfl,rfl⟩|⟨i,j,rfl,rfl,rfl⟩|⟨rfl,rfl,rfl⟩|⟨ys,j,rfl,rfl,rfl⟩
   .cases (show x=_ from rx.rv);cases (show y=_ from ry.rv);clear 5 ru t' rfl;clear 5 rv t rfl;exact⟨RcAt.int_int _ _ _ _,EqAt.int_int _ _ _ _⟩
   .cases (show x=_ from rx.rv);cases (show y=_ from ry.rv);clear 5 ru t' rfl;clear 5 rv t rfl;exact⟨RcAt.str_str _ _ _ _,EqAt.str_str _ _ _ _⟩
   .cases (show x=_ from rx.rv);cases (show y=_ from ry.rv);cases ru;cases rv;exact⟨RcAt.bool_bool _ _,EqAt.bool_bool _ _⟩
   .cases (show x=_ from rx.rv);cases (show y=_ from ry.rv);cases ru;cases rv;exact⟨RcAt.none_none,EqAt.same _⟩
   .cases ry;cases rx with|lst h1 h2 h3=>cases ru;clear 5 rv t rfl;clear 5(Ez hok h1)its r l;exact⟨RcAt.list_str _ _ l hu0,EqAt.list_str _ _ l hu0⟩
  .obtain⟨p,vs,rfl,g1,g2,g3⟩:=rx.rv
   .obtain⟨q,ws,rfl,h1,h2,h3⟩:=ry.rv
    .
     cases ru
     cases rv
     clear 5(Ez hok g1)is r1 l1;clear 5(Ez hok h1)js r2 l2;have hs1:is.toArray.size=ds.length:=by rw[<-g3.length,r1.length];simp
     have hs2:js.toArray.size=es.length:=by rw[<-h3.length,r2.length];simp
     by_cases hl:ds.length=es.length
     .rw[gE hl] at e0;have hsz:is.toArray.size=js.toArray.size:=by rw[hs1,hs2,hl]
      have rc:=RcAt.lists l1 l2 hsz hu0 (items hm r1 r2 g3 h3 e0);have eb:(List.range is.toArray.size).all (ej (eqN m) ds es)=b:=by rw[(Da e0).1,hs1,<-hl,Nat.min_self]
      rw[eb] at rc
      by_cases hpq:p=q
      .refine⟨rc,?_⟩;subst hpq;rw[M4 n rx ry e];exact EqAt.same _
      .exact conc hpq rc
     .rw[gG hl] at e0
      cases e0
      have hsz:(is.toArray.size != js.toArray.size)=true:=by rw[hs1,hs2];simpa using hl
      refine conc (λz=>hl ?_) (RcAt.lists_lengths l1 l2 hsz hu0);subst z;rw[g1] at h1;cases h1
      rw[<-g3.length,<-h3.length]
  .obtain⟨p,vs,rfl,g1,g2,g3⟩:=rx.rv
   .obtain⟨q,ws,rfl,h1,h2,h3⟩:=ry.rv
    .
     cases ru
     cases rv
     clear 5(HA hok g1)is r1 l1;clear 5(HA hok h1)js r2 l2;have hs1:is.toArray.size=ds.length:=by rw[<-g3.length,r1.length];simp
     have hs2:js.toArray.size=es.length:=by rw[<-h3.length,r2.length];simp
     have rc:=RcAt.tuples l1 l2 hu0 (items hm r1 r2 g3 h3 e1);have eb:((List.range (min is.toArray.size js.toArray.size)).all (ej (eqN m) ds es)&&is.toArray.size==js.toArray.size)=b:=by rw[hs1,hs2,<-(Da e1).1];exact e2
     rw[eb] at rc
     by_cases hpq:p=q
     .refine⟨rc,?_⟩;subst hpq;rw[M4 n rx ry e];exact EqAt.same _
     .exact conc hpq rc
theorem Vk{s:eS}(hok:HOk P w H s.heap)(n:Nat){A:Around}{x y:V}{u v:eo}{dx dy:D}{b:Bool}(ru:RelV x u)(rv:RelV y v)(rx:Rep K c H x dx)(ry:Rep K c H y dy)(e:eqN n dx dy=some b)(hu:A.units+n<cLine) :
 RcNeAt A s u v (!b):=by
 have items:∀{m:Nat}{vs ws:List V}{is js:List eo}{ds es:List D}{b':Bool},n=m+1->Vals vs is->Vals ws js->Reps K c H vs ds->Reps K c H ws es->C9 (eqN m) ds es=some b'->
  ∀j (h1:j<is.toArray.size) (h2:j<js.toArray.size),EqAt A.in1 s is.toArray[j] js.toArray[j] (ej (eqN m) ds es j):=λ{m vs ws is js ds es b'} hm r1 r2 q1 q2 e' j h1 h2=>by
  clear 5(Ju r1 h1)v1 a1 a2;clear 5(Ju r2 h2)v2 b1 b2;clear 5(ub0.mp a1)l1 g1;clear 5(ub0.mp b1)l2 g2;have k1:ds[j]?=some (ds[j]'(by rw[<-q1.length];exact l1)):=ub4 _;have k2:es[j]?=some (es[j]'(by rw[<-q2.length];exact l2)):=ub4 _;clear 5((Da e').2 j _ _ k1 k2)kk ek;have:ej (eqN m) ds es j=kk:=by unfold ej;rw[k1,k2];simp[ek]
  rw[this];have hu':A.in1.units+m<cLine:=by
   have:A.in1.units=A.units+1:=rfl;lia
  exact(JM hok m a2 b2 (q1.get a1 k1) (q2.get b1 k2) ek hu').2
 have hu0:A.units<cLine:=by lia
 rcases GU e with e0|⟨m,ds,es,hm,rfl,rfl,e0⟩|⟨m,ds,es,b',hm,rfl,rfl,e1,e2⟩
 .rcases GQ e0 with⟨i,j,rfl,rfl,rfl⟩|⟨i,j,rfl,rfl,rfl⟩|⟨i,j,rfl,rfl,rfl⟩|⟨rfl,rfl,rfl⟩|⟨ys,j,rfl,rfl,rfl⟩
  .cases (show x=_ from rx.rv);cases (show y=_ from ry.rv);clear 5 ru t' rfl;clear 5 rv t rfl;exact RcNeAt.int_int _ _ _ _
  .cases (show x=_ from rx.rv);cases (show y=_ from ry.rv);clear 5 ru t' rfl;clear 5 rv t rfl;exact RcNeAt.str_str _ _ _ _
  .cases (show x=_ from rx.rv);cases (show y=_ from ry.rv);cases ru;cases rv;exact RcNeAt.bool_bool _ _
  .cases (show x=_ from rx.rv);cases (show y=_ from ry.rv);cases ru;cases rv;exact RcNeAt.none_none
  .cases ry;cases rx with|lst h1 h2 h3=>cases ru;clear 5 rv t rfl;clear 5(Ez hok h1)its r l;exact RcNeAt.list_str _ _ l hu0
 .obtain⟨p,vs,rfl,g1,g2,g3⟩:=rx.rv
  .obtain⟨q,ws,rfl,h1,h2,h3⟩:=ry.rv
   .
    cases ru
    cases rv
    clear 5(Ez hok g1)is r1 l1;clear 5(Ez hok h1)js r2 l2;have hs1:is.toArray.size=ds.length:=by rw[<-g3.length,r1.length];simp
    have hs2:js.toArray.size=es.length:=by rw[<-h3.length,r2.length];simp
    by_cases hl:ds.length=es.length
    .rw[gE hl] at e0;have hsz:is.toArray.size=js.toArray.size:=by rw[hs1,hs2,hl]
     have rc:=RcNeAt.lists l1 l2 hsz hu0 (items hm r1 r2 g3 h3 e0);rw[show(List.range is.toArray.size).all (ej (eqN m) ds es)=b by rw[(Da e0).1,hs1,<-hl,Nat.min_self]] at rc;exact rc
    .rw[gG hl] at e0
     cases e0
     exact RcNeAt.lists_lengths l1 l2 (by rw[hs1,hs2];simpa using hl) hu0
 .obtain⟨p,vs,rfl,g1,g2,g3⟩:=rx.rv
  .obtain⟨q,ws,rfl,h1,h2,h3⟩:=ry.rv
   .
    cases ru
    cases rv
    clear 5(HA hok g1)is r1 l1;clear 5(HA hok h1)js r2 l2;have hs1:is.toArray.size=ds.length:=by rw[<-g3.length,r1.length];simp
    have hs2:js.toArray.size=es.length:=by rw[<-h3.length,r2.length];simp
    have rc:=RcNeAt.tuples l1 l2 hu0 (items hm r1 r2 g3 h3 e1);have eb:((List.range (min is.toArray.size js.toArray.size)).all (ej (eqN m) ds es)&&is.toArray.size==js.toArray.size)=b:=by rw[hs1,hs2,<-(Da e1).1];exact e2
    rw[eb] at rc;exact rc
def EQD:Nat:=40
def neD(x y:D):M D:=λt=>(eqN EQD x y).map λb=>(.bl (!b),t)
def OO(K:eh)(g:Bool->Bool):R2:=λx y H Q=>∃c dx dy b,Rep K c H x dx/\Rep K c H y dy/\eqN EQD dx dy=some b/\Q (.bl (g b)) H
theorem Qs{X:Cx}(hu:X.A.units+64<cLine):OpR X (compareOp .Eq) (OO X.K id):=by
 intro ei s σ H x y v u Q I rx ry h;clear 5 h c dx dy b q1 q2 e q;have hu':X.A.units+EQD<cLine:=by unfold EQD;lia
 exact(JM I.hok EQD rx ry q1 q2 e hu').1 X.prog X.w _ _ ⟨.bl b,H,I,rfl,q⟩
theorem Mf{X:Cx}(hu:X.A.units+64<cLine):OpR X (compareOp .NotEq) (OO X.K (!·)):=by
 intro ei s σ H x y v u Q I rx ry h;clear 5 h c dx dy b q1 q2 e q;have hu':X.A.units+EQD<cLine:=by unfold EQD;lia
 exact Vk I.hok EQD rx ry q1 q2 e hu' X.prog X.w _ _ ⟨.bl (!b),H,I,rfl,q⟩
end
section
variable{g:Int->Int->D}{t:T}{z:D×T}{X:Cx}{c:Cf}{H:Hp}
section
variable{K:eh}
def i2(g:Int->Int->D):D->D->M D
 |.int i,.int j=>ret (g i j)
 |_,_=>fail
theorem Xx{x y:D}(h:i2 g x y t=some z):∃i j,x=.int i/\y=.int j/\z=(g i j,t):=by
 cases x with
 |int i=>cases y with
   |int j=>cases h;exact⟨i,j,rfl,rfl,rfl⟩
   |_=>cases h
 |_=>cases h
theorem YC{gV:Int->Int->V}(hr:∀i j c H,Rep K c H (gV i j) (g i j)):A5 K (rI0 gV) (i2 g):=λ{Oo c t σ H x y dx dy r t' Q} f rx ry eq k=>by
 clear 5(Xx eq)i j rfl rfl z
 cases z
 cases rx
 cases ry
 exact⟨i,j,rfl,rfl,k _ H c f .refl (hr i j c H)⟩
def i2C(C:Int->Int->Bool)(g:Int->Int->D):D->D->M D
 |.int i,.int j=>λt=>if C i j=true then some (g i j,t) else none
 |_,_=>fail
theorem U6{C:Int->Int->Bool}{x y:D}(h:i2C C g x y t=some z):∃i j,x=.int i/\y=.int j/\C i j=true/\z=(g i j,t):=by
 cases x with
 |int i=>cases y with
   |int j=>
     unfold i2C at h;dsimp only at h
     by_cases hc:C i j=true
     .rw[gE hc] at h;cases h;exact⟨i,j,rfl,rfl,hc,rfl⟩
     .rw[gG hc] at h;cases h
   |_=>cases h
 |_=>cases h
theorem Fa{P:Int->Int->Prop}{C:Int->Int->Bool}{gV:Int->Int->V}(hP:∀i j,C i j=true->P i j)(hr:∀i j c H,Rep K c H (gV i j) (g i j)):A5 K (rI P gV) (i2C C g):=λ{Oo c t σ H x y dx dy r t' Q} f rx ry eq k=>by
 clear 5(U6 eq)i j rfl rfl hc z
 cases z
 cases rx
 cases ry
 exact⟨i,j,rfl,rfl,hP i j hc,k _ H c f .refl (hr i j c H)⟩
def BE:=i2 λi j=>.int (i-j)
noncomputable def KU(_ j:Int):Bool:=decide (0<j)&&decide (j<1073741824)
def E2:=i2C KU λi j=>.int (i/j)
def EE:=i2C (λ_ j=>decide (0<j)) λi j=>.int (i%j)
noncomputable def K4(i j:Int):Bool:=decide (0<=j)&&decide (j<=1000000)&&decide (i.natAbs<2 ^ 64)
def Hj:=i2C K4 λi j=>.int (i ^ j.toNat)
noncomputable def E5(i j:Int):Bool:=(decide (-(2 ^ 64)<i)&&decide (i<2 ^ 64))||(decide (-(2 ^ 64)<j)&&decide (j<2 ^ 64))
def MA:=i2C (λ_ j=>decide (0<=j)) λi j=>.int (i/2 ^ j.toNat)
theorem Wa:A5 K (rI0 λi j=>.int (i-j)) BE:=YC λi j _ _=>.int _
theorem Tg:A5 K (rI WG λi j=>.int (i/j)) E2:=Fa (λi j h=>by
 unfold KU at h;rw[uh3] at h;exact⟨ug7 h.1,ug7 h.2⟩) λi j _ _=>.int _
theorem V3:A5 K (rI (λ_ j=>0<j) λi j=>.int (i%j)) EE:=Fa (λi j h=>ug7 h) λi j _ _=>.int _
theorem V7:A5 K (rI WH λi j=>.int (i ^ j.toNat)) Hj:=Fa (λi j h=>by
 unfold K4 at h;rw[uh3,uh3] at h;exact⟨ug7 h.1.1,ug7 h.1.2,ug7 h.2⟩) λi j _ _=>.int _
theorem V8:A5 K (rI (λ_ j=>0<=j) λi j=>.int (i/2 ^ j.toNat)) MA:=Fa (λi j h=>ug7 h) λi j _ _=>.int _
theorem Ql{i j:Int}(h:E5 i j=true):CMul i j:=by
 unfold E5 at h;rw[Bool.or_eq_true,uh3,uh3] at h;rcases h with h|h
 .exact .inl ⟨ug7 h.1,ug7 h.2⟩
 .exact .inr ⟨ug7 h.1,ug7 h.2⟩
def L5:D->M D
 |.int i=>ret (.int (-i))
 |_=>fail
theorem V5:WL K (rU λi=>.int (-i)) L5:=λ{Oo c t σ H x dx r t' Q} f rx eq k=>by
 cases rx with
 |int i=>cases eq;exact⟨i,rfl,k _ H c f .refl (.int _)⟩
 |_=>cases eq
def WO:D->D->M D
 |.int i,.int j=>ret (.int (i+j))
 |.str x,.str y=>lim (x.length+y.length) (.str (x++y))
 |.lst xs,.lst ys=>lim (xs.length+ys.length) (.lst (xs++ys))
 |_,_=>fail
def VR:R2:=λx y H Q=>∃i j,x=.str i/\y=.str j/\i.length+j.length<=sizeLine/\Q (.str (i++j)) H
def ON(K:eh):R2:=λx y H Q=>rI0 (λi j=>.int (i+j)) x y H Q\/(VR x y H Q\/SS x y H Q)
theorem Vq:OpR X (binaryOp .Add) (ON X.K):=op_add.or (op_add_str.or Qr)
theorem VU:A5 K (ON K) WO:=λ{Oo c t σ H x y dx dy r t' Q} f rx ry eq k=>by
 cases rx with
 |int i=>
   cases ry with
   |int j=>cases eq;exact .inl ⟨i,j,rfl,rfl,k _ H c f .refl (.int _)⟩
   |_=>cases eq
 |str i=>
   cases ry with
   |str j=>
     clear 5(EA eq)h z
     cases z
     exact .inr (.inl ⟨i,j,rfl,rfl,um0 h CO,k _ H c f .refl (.str _)⟩)
   |_=>cases eq
 |@lst a vs ds h1 h2 h3=>
   cases ry with
   |@lst b ws es g1 g2 g3=>
     clear 5(EA eq)h z
     cases z
     refine .inr (.inr ⟨a,b,vs,ws,rfl,rfl,h1,g1,?_,λp hp=>?_⟩)
     .rw[h3.length,g3.length];exact um0 h CO
     .exact k _ _ c (f.laid hp) (f.stp_laid hp) (.lst Am (f.s.free hp) ((h3.append g3).mono (Ext.laid f.s hp)))
   |_=>cases eq
 |_=>cases eq
def JK:D->D->M (List D)
 |.lst xs,.lst ys=>lim (xs.length+ys.length) (xs++ys)
 |_,_=>fail
theorem Te:KQ K SS JK:=λ{Oo c t σ H x y dx dy r t' Q} f rx ry eq k=>by
 cases rx with
 |@lst a vs ds h1 h2 h3=>
   cases ry with
   |@lst b ws es g1 g2 g3=>
     clear 5(EA eq)h z
     cases z
     refine⟨a,b,vs,ws,rfl,rfl,h1,g1,?_,λp hp=>k p _ H c f .refl (h3.append g3) hp⟩;rw[h3.length,g3.length];exact um0 h CO
   |_=>cases eq
 |_=>cases eq
def isC:D->D->M D
 |x,.non=>λt=>some (.bl (match x with | .non=>true|_=>false),t)
 |x,.bl b=>λt=>some (.bl (match x with | .bl c=>c==b|_=>false),t)
 |_,_=>fail
def FZ(x y:D):M D:=bnd (isC x y) λd=>match d with | .bl b=>ret (.bl (!b))|_=>fail
def rIs(g:Bool->Bool):R2:=λx y H Q=>(y=.non\/∃b,y=.bl b)/\Q (.bl (g (decide (x=y)))) H
theorem MZ{x y:V}{v u:eo}(rx:RelV x v)(ry:RelV y u)(hy:y=.non\/∃b,y=.bl b):plainIs v u=true/\(v==u)=decide (x=y):=by
 rcases hy with rfl|⟨b,rfl⟩
 .cases ry
  cases x with
  |non=>cases rx;exact⟨rfl,by simp⟩
  |bl _=>cases rx;exact⟨rfl,by simp⟩
  |int _=>clear 5 rx t rfl;exact⟨rfl,by simp⟩
  |str _=>clear 5 rx t rfl;exact⟨rfl,by simp⟩
  |byt _=>clear 5 rx t rfl;exact⟨rfl,by simp⟩
  |flt _=>clear 5 rx t rfl;exact⟨rfl,by simp⟩
  |ref _=>cases rx;exact⟨rfl,by simp⟩
  |ty _=>cases rx;exact⟨rfl,by simp⟩
 .cases ry
  cases x with
  |non=>cases rx;exact⟨rfl,by simp⟩
  |bl c=>cases rx;exact⟨rfl,by simp;cases c<;>cases b<;>rfl⟩
  |int _=>clear 5 rx t rfl;exact⟨rfl,by simp⟩
  |str _=>clear 5 rx t rfl;exact⟨rfl,by simp⟩
  |byt _=>clear 5 rx t rfl;exact⟨rfl,by simp⟩
  |flt _=>clear 5 rx t rfl;exact⟨rfl,by simp⟩
  |ref _=>cases rx;exact⟨rfl,by simp⟩
  |ty _=>cases rx;exact⟨rfl,by simp⟩
theorem X2:OpR X (compareOp .Is) (rIs id):=by
 intro ei s σ H x y v u Q I rx ry h;clear 5 h hy q;clear 5(MZ rx ry hy)h1 h2;exact wpAny_is_plain h1 ⟨.bl _,H,I,by rw[h2];rfl,q⟩
theorem Qw:OpR X (compareOp .IsNot) (rIs (!·)):=by
 intro ei s σ H x y v u Q I rx ry h;clear 5 h hy q;clear 5(MZ rx ry hy)h1 h2;exact wpAny_isNot_plain h1 ⟨.bl _,H,I,by rw[h2];rfl,q⟩
set_option tactic.hygienic true in
theorem Nj{x y:V}{dx dy:D}(rx:Rep K c H x dx)(ry:Rep K c H y dy)(eq:isC dx dy t=some z):(y=.non\/∃b,y=.bl b)/\z=(.bl (decide (x=y)),t):=by
 cases ry with
 |non=>
   refine⟨.inl rfl,?_⟩
   cases rx<;>(cases eq;first|rfl|simp)
 |bl b=>
   refine⟨.inr ⟨b,rfl⟩,?_⟩
   cases rx<;>(cases eq;first|rfl|simp)
   next a=>cases a<;>cases b<;>rfl
 |_=>cases eq
theorem YE:A5 K (rIs id) isC:=λ{Oo c t σ H x y dx dy r t' Q} f rx ry eq k=>by
 clear 5(Nj rx ry eq)h z
 cases z
 exact⟨h,k _ H c f .refl (.bl _)⟩
theorem QW:A5 K (rIs (!·)) FZ:=λ{Oo c t σ H x y dx dy r t' Q} f rx ry eq k=>by
 clear 5(Af eq)d t1 e1 eq;clear 5(Nj rx ry e1)h z
 cases z
 cases eq
 exact⟨h,k _ H c f .refl (.bl _)⟩
noncomputable def Ds:D->Bool
 |.non=>true | .bl _=>true | .int _=>true | .str _=>true|_=>false
noncomputable def OW:D->Option (List D)
 |.lst ds=>some ds
 |.tup ds=>some ds
 |_=>none
noncomputable def toV:D->V
 |.bl b=>.bl b | .int i=>.int i | .str x=>.str x|_=>.non
theorem EF{v:V}{d:D}(r:Rep K c H v d)(h:Ds d=true):v=toV d:=by cases r<;>first|rfl|cases h
theorem DX{c:Cf}{H:Hp}:∀{vs:List V}{ds:List D},Reps K c H vs ds->ds.all Ds=true->vs=ds.map toV
 |_,_,.nil,_=>rfl
 |_,_,.cons r t,h=>by
   rw[ul1,uh3] at h;rw[uk9,EF r h.1,DX t h.2]
theorem Ey:∀d:D,DN (toV d)=true:=λd=>by cases d<;>rfl
def inD(neg:Bool)(x y:D):M D:=λt=>match OW y with
 |some ds=>if Ds x=true/\ds.all Ds=true then some (.bl (if neg then !inV (toV x) (ds.map toV) else inV (toV x) (ds.map toV)),t) else none
 |none=>none
set_option tactic.hygienic true in
theorem YD{neg:Bool}:A5 K (rIn K neg) (inD neg):=λ{Oo c t σ H x y dx dy r t' Q} f rx ry eq k=>by
 unfold inD at eq
 cases ry with
 |@lst a vs ds h1 h2 h3=>
   dsimp only[OW] at eq
   split at eq
   .next h=>
    cases eq
    refine⟨a,vs,rfl,.inl (SqL.of h1),?_,?_,?_⟩
    .rw[EF rx h.1];exact Ey _
    .rw[DX h3 h.2,um5,uh7];exact λd _=>Ey d
    .rw[EF rx h.1,DX h3 h.2];exact k _ H c f .refl (.bl _)
   .cases eq
 |@tup a vs ds h1 h2 h3=>
   dsimp only[OW] at eq
   split at eq
   .next h=>
    cases eq
    refine⟨a,vs,rfl,.inr (SqT.of h1),?_,?_,?_⟩
    .rw[EF rx h.1];exact Ey _
    .rw[DX h3 h.2,um5,uh7];exact λd _=>Ey d
    .rw[EF rx h.1,DX h3 h.2];exact k _ H c f .refl (.bl _)
   .cases eq
 |_=>cases eq
def ixD:D->D->M D
 |.lst ds,.int i=>λt=>(atI ds i).map λd=>(d,t)
 |.tup ds,.int i=>λt=>(atI ds i).map λd=>(d,t)
 |.scr ns,.int i=>λt=>(atI ns i).map λn=>(.int n,t)
 |.str x,.int i=>λt=>if x.length<=LIM then(atI x.cps.toList i).map λn=>(.str ⟨#[n]⟩,t) else none
 |.obj k,.int i=>λt=>match t.S[k]? with
   |some (.lst ds)=>(atI ds i).map λd=>(d,t)
   |_=>none
 |_,_=>fail
theorem Gf{vs:List V}{ds:List D}{i:Int}{d:D}(r:Reps K c H vs ds)(h:atI ds i=some d):∃v,atI vs i=some v/\Rep K c H v d:=by
 unfold atI at h⊢;clear 5(Option.bind_eq_some_iff.mp h)j h1 h2;clear 5(r.at h2)v h3 h4;exact⟨v,by rw[r.length,h1];exact h3,h4⟩
theorem Uo{α β:Type}(g:α->β)(xs:List α)(i:Int):atI (xs.map g) i=(atI xs i).map g:=by
 unfold atI;rw[ui6]
 cases ixN xs.length i with
 |none=>rfl
 |some j=>simp
theorem XA{dx dy r:D}{t':T}(eq:ixD dx dy t=some (r,t')):∃i,dy=.int i/\((∃ds,dx=.lst ds)\/(∃ds,dx=.tup ds)\/(∃ns,dx=.scr ns)\/(∃z,dx=.str z)\/∃k,dx=.obj k):=by
 unfold ixD at eq
 split at eq
 .exact⟨_,rfl,.inl ⟨_,rfl⟩⟩
 .exact⟨_,rfl,.inr (.inl ⟨_,rfl⟩)⟩
 .exact⟨_,rfl,.inr (.inr (.inl ⟨_,rfl⟩))⟩
 .exact⟨_,rfl,.inr (.inr (.inr (.inl ⟨_,rfl⟩)))⟩
 .exact⟨_,rfl,.inr (.inr (.inr (.inr ⟨_,rfl⟩)))⟩
 .cases eq
set_option tactic.hygienic true in
theorem YF:A5 K (rIx K) ixD:=λ{Oo c t σ H x y dx dy r t' Q} f rx ry eq k=>by
 clear 5(XA eq)i rfl hd
 cases ry
 rcases hd with⟨ds,rfl⟩|⟨ds,rfl⟩|⟨ns,rfl⟩|⟨z,rfl⟩|⟨kk,rfl⟩
 .obtain⟨a,vs,rfl,h1,h2,h3⟩:=rx.rv
  clear 5(uc4.mp eq)d e1 e2
  cases e2
  clear 5(Gf h3 e1)v e3 e4;exact .inl ⟨a,vs,i,v,rfl,rfl,SqL.of h1,e3,k _ H c f .refl e4⟩
 .obtain⟨a,vs,rfl,h1,h2,h3⟩:=rx.rv
  clear 5(uc4.mp eq)d e1 e2
  cases e2
  clear 5(Gf h3 e1)v e3 e4;exact .inr (.inl ⟨a,vs,i,v,rfl,rfl,SqT.of h1,e3,k _ H c f .refl e4⟩)
 .obtain⟨a,rfl,h1⟩:=rx.rv
  clear 5(uc4.mp eq)n e1 e2
  cases e2
  exact .inl ⟨a,_,i,.int n,rfl,rfl,h1.sq,by rw[Uo,e1];rfl,k _ H c f .refl (.int n)⟩
 .cases rx
  unfold ixD at eq;dsimp only at eq
  split at eq
  .next hl=>
   clear 5(uc4.mp eq)n e1 e2
   cases e2
   exact .inr (.inr ⟨z,i,n,rfl,rfl,um0 hl CO,e1,k _ H c f .refl (.str _)⟩)
  .cases eq
 .obtain⟨a,rfl,h1⟩:=rx.rv
  unfold ixD at eq;dsimp only at eq
  cases es:t.S[kk]? with
  |none=>rw[es] at eq;cases eq
  |some o=>
    rw[es] at eq
    cases o with
    |dct _|ins _ _=>cases eq
    |lst ds=>
      clear 5(uc4.mp eq)d e1 e2
      cases e2
      clear 5(f.s.obs kk a _ h1 es)vs g1 g2;clear 5(Gf g2 e1)v e3 e4;exact .inl ⟨a,vs,i,v,rfl,rfl,SqL.of g1,e3,k _ H c f .refl e4⟩
end
variable{f:M D}{id:String}{R:List V->Hp->VK->Prop}{x:Str}{p:Pos}
section
variable{X:Cx}{e a b:Expr}{es:List Expr}{pos:Pos}
inductive RO(K:eh)(f:M (Option Int))(σ:L2.St)(H:Hp)(Q:Option Int->Hp->Prop):Prop where
 |mk (Oo:eR->Prop) (c:Cf) (t:T) (fi:FInv K Oo c t σ H) (r:Option Int) (t':T) (e:f t=some (r,t')) (k:∀H' c',FInv K Oo c' t' σ H'->Stp Oo c H c' H'->Q r H'):RO K f σ H Q
theorem Pf{oe:Option Expr}{t t':TO}(h:PO X oe t)(i:∀σ H Q,t' σ H Q->t σ H Q):PO X oe t':=λei s σ H Q I q=>h ei s σ H Q I (i σ H Q q)
def fNo:M (Option Int):=ret none
def asI:D->M (Option Int)
 |.int i=>ret (some i)
 |_=>fail
def Cy(f:M D):M (Option Int):=bnd f asI
theorem UO:PO X none (RO X.K fNo):=Pf VJ λσ H Q z9=>by
 clear 5 z9 Oo c t fi r t' eq k
 cases eq
 exact k H c fi .refl
theorem UP(h:PE X e (RE X.K f)):PO X (some e) (RO X.K (Cy f)):=Pf (VL h) λσ H Q z9=>by
 clear 5 z9 Oo c t fi r t' eq k;clear 5(Af eq)d t1 e1 eq;refine⟨Oo,c,t,fi,d,t1,e1,λv H1 c1 f1 s1 rv=>?_⟩
 cases rv with
 |int i=>cases eq;exact⟨i,rfl,k H1 c1 f1 s1⟩
 |_=>cases eq
def Rk(K:eh)(R:V->Option Int->Option Int->Hp->VK->Prop)(h:D->Option Int->Option Int->M D):Prop:=∀{Oo:eR->Prop}{c:Cf}{t:T}{σ:L2.St}{H:Hp}{x:V}{dx r:D}{lo hi:Option Int}{t':T}{Q:VK},FInv K Oo c t σ H->Rep K c H x dx->h dx lo hi t=some (r,t')->
 (∀v H' c',FInv K Oo c' t' σ H'->Stp Oo c H c' H'->Rep K c' H' v r->Q v H')->R x lo hi H Q
def fSl(f:M D)(l u:M (Option Int))(h:D->Option Int->Option Int->M D):M D:=bnd f λx=>bnd l λlo=>bnd u λhi=>h x lo hi
theorem RW{R:V->Option Int->Option Int->Hp->VK->Prop}{h:D->Option Int->Option Int->M D}{l u:M (Option Int)}{lo hi:Option Expr}{p2:Pos}(hr:SlR X R)(s:Rk X.K R h)(he:PE X e (RE X.K f))(hl:PO X lo (RO X.K l))(hu:PO X hi (RO X.K u)):PE X (.Subscript e (.Slice lo hi none p2) pos) (RE X.K (fSl f l u h)):=
 AB (SM hr he hl hu) λσ H Q z9=>by
  clear 5 z9 Oo c t fi r t' eq k;clear 5(Af eq)d t1 e1 eq;clear 5(Af eq)ol t2 e2 eq;clear 5(Af eq)oh t3 e3 eq;exact⟨Oo,c,t,fi,d,t1,e1,λv H1 c1 f1 s1 rv=>⟨Oo,c1,t1,f1,ol,t2,e2,λH2 c2 f2 s2=>⟨Oo,c2,t2,f2,oh,t3,e3,λH3 c3 f3 s3=>
   s f3 (rv.mono (s2.trans s3).ext) eq λv H' c' f' s' rv'=>k v H' c' f' (((s1.trans s2).trans s3).trans s') rv'⟩⟩⟩
def Cw{α:Type}(xs:List α)(lo hi:Option Int):List α:=(xs.drop (HT.sIx xs.length 0 lo)).take (HT.sIx xs.length xs.length hi-HT.sIx xs.length 0 lo)
def slD:D->Option Int->Option Int->M D
 |.lst ds,lo,hi=>ret (.lst (Cw ds lo hi))
 |.scr ns,lo,hi=>ret (.lst ((Cw ns lo hi).map .int))
 |_,_,_=>fail
theorem Ta{K:eh}{vs:List V}{ds:List D}(r:Reps K c H vs ds)(lo hi:Option Int):Reps K c H (Ib vs lo hi) (Cw ds lo hi):=by
 unfold Ib Cw;rw[r.length];exact(r.drop _).take _
theorem RB{α β:Type}(g:α->β)(xs:List α)(lo hi:Option Int):Cw (xs.map g) lo hi=(Cw xs lo hi).map g:=by
 unfold Cw;rw[ui6,ul3,fY]
theorem Pu(ns:List Int)(lo hi:Option Int):Ib (ns.map V.int) lo hi=(Cw ns lo hi).map V.int:=RB V.int ns lo hi
def SV(K:eh):V->Option Int->Option Int->Hp->VK->Prop:=Yv K
theorem sl2:SlR X (SV X.K):=Wi
theorem YG{K:eh}:Rk K (SV K) slD:=λ{Oo c t σ H x dx r lo hi t' Q} f rx eq k=>by
 cases rx with
 |@lst p vs ds h1 h2 h3=>
   cases eq
   exact⟨p,vs,rfl,SqL.of h1,λq hq=>k _ _ c (f.laid hq) (f.stp_laid hq) (.lst Am (f.s.free hq) ((Ta h3 lo hi).mono (Ext.laid f.s hq)))⟩
 |@scr p ns h1=>
   cases eq
   refine⟨p,_,rfl,h1.sq,λq hq=>k _ _ c (f.laid hq) (f.stp_laid hq) (.lst Am (f.s.free hq) ?_)⟩;rw[Pu];exact Reps.ints _
 |_=>cases eq
theorem bc{h:List D->M D}{f:M (List D)}(hc:B4 X (.builtin id) R)(s:Eu X.K R h)(hg:Gl X x)(hm:X.mg x=none)(hv:bootBuiltins x=some (.builtin id))(ha:PA X (e::es) (RA X.K f))(hn:autoParam (x≠"__name__") q1T)(hdb:autoParam ((x==("__debug__":Str))=false) q1T)
 (he:autoParam (starEach (e::es) X.env=(false,eval e X.env)::starEach es X.env) q3T) (hpl:autoParam ((backTo pos (starEach es X.env)).any (·.1)=false) q3T):PE X (.Call (.Name x p) (e::es) [] pos) (RE X.K (fB f h)):=
 AB (Gy hc hg hm hv ha hn hdb he hpl) λ_ _ _ q=>RE.callB s q
theorem bf{h:List D->M D}{f:M (List D)}(hc:B4 X (.type id) R)(s:Eu X.K R h)(hg:Gl X x)(hm:X.mg x=none)(hv:bootBuiltins x=some (.type id))(ha:PA X (e::es) (RA X.K f))(hn:autoParam (x≠"__name__") q1T)(hdb:autoParam ((x==("__debug__":Str))=false) q1T)
 (he:autoParam (starEach (e::es) X.env=(false,eval e X.env)::starEach es X.env) q3T) (hpl:autoParam ((backTo pos (starEach es X.env)).any (·.1)=false) q3T):PE X (.Call (.Name x p) (e::es) [] pos) (RE X.K (fB f h)):=
 AB (KB hc hg hm hv ha hn hdb he hpl) λ_ _ _ q=>RE.callB s q
theorem bg{h:List D->M (List D)}{f:M (List D)}(hc:B4 X (.type id) R)(s:KR X.K R h)(hg:Gl X x)(hm:X.mg x=none)(hv:bootBuiltins x=some (.type id))(ha:PA X (e::es) (RA X.K f))(hn:autoParam (x≠"__name__") q1T)(hdb:autoParam ((x==("__debug__":Str))=false) q1T)
 (he:autoParam (starEach (e::es) X.env=(false,eval e X.env)::starEach es X.env) q3T) (hpl:autoParam ((backTo pos (starEach es X.env)).any (·.1)=false) q3T):PE X (.Call (.Name x p) (e::es) [] pos) (RF X.K (fBF f h)):=
 AB (KB hc hg hm hv ha hn hdb he hpl) λ_ _ _ q=>RF.callB s q
theorem TW{op:Operator}{R:R2}{g:M D}{h:D->D->M (List D)}(ho:OpR X (binaryOp op) R)(s:KQ X.K R h)(ha:PE X a (RE X.K f))(hb:PE X b (RE X.K g)):PE X (.BinOp a op b pos) (RF X.K (bnd f λx=>bnd g λy=>h x y)):=
 AB (OL ho ha hb) λ_ _ _ q=>RF.two s q
end
section
variable{K:eh}
theorem E6{xs:List V}{d:D}(r:Reps K c H xs [d]):∃v,xs=[v]/\Rep K c H v d:=by
 cases r with
 |cons r rs=>cases rs;exact⟨_,rfl,r⟩
theorem Jn{xs:List V}{d e:D}(r:Reps K c H xs [d,e]):∃v u,xs=[v,u]/\Rep K c H v d/\Rep K c H u e:=by
 cases r with
 |cons r rs=>
   clear 5(E6 rs)u rfl q;exact⟨_,u,rfl,r,q⟩
def AH:List D->M D
 |[.lst ds]=>ret (.int ds.length)
 |[.tup ds]=>ret (.int ds.length)
 |[.scr ns]=>ret (.int ns.length)
 |[.str x]=>lim x.length (.int x.length)
 |[.obj k]=>λt=>match t.S[k]? with
   |some (.lst ds)=>some (.int ds.length,t)
   |_=>none
 |_=>fail
theorem VZ:Eu K (λxs H Q=>∃x n,xs=[x]/\WK K x H n/\Q (.int n) H) AH:=λ{Oo c t σ H xs ds r t' Q} f rx eq k=>by
 match ds,rx,eq with
 |[],_,eq=>cases eq
 |d0::_::_,_,eq=>cases d0<;>cases eq
 |[d],rx,eq=>
   clear 5(E6 rx)v rfl rv
   cases rv with
   |@lst a vs ds h1 h2 h3=>cases eq;exact⟨_,ds.length,rfl,.inl ⟨vs,SqL.of h1,h3.length.symm⟩,k _ H c f .refl (.int _)⟩
   |@tup a vs ds h1 h2 h3=>cases eq;exact⟨_,ds.length,rfl,.inr ⟨vs,SqT.of h1,h3.length.symm⟩,k _ H c f .refl (.int _)⟩
   |@scr a ns h1=>cases eq;exact⟨_,ns.length,rfl,.inl ⟨_,h1.sq,by simp⟩,k _ H c f .refl (.int _)⟩
   |str x=>
     clear 5(EA eq)hl z
     cases z
     exact⟨_,x.length,rfl,⟨um0 hl CO,rfl⟩,k _ H c f .refl (.int _)⟩
   |@obj a kk h1=>
     unfold AH at eq;dsimp only at eq
     cases es:t.S[kk]? with
     |none=>rw[es] at eq;cases eq
     |some o=>
       rw[es] at eq
       cases o with
       |dct _|ins _ _=>cases eq
       |lst ds=>
         cases eq
         clear 5(f.s.obs kk a _ h1 es)vs g1 g2;exact⟨_,ds.length,rfl,.inl ⟨vs,SqL.of g1,g2.length.symm⟩,k _ H c f .refl (.int _)⟩
   |_=>cases eq
noncomputable def tyD:D->Option String
 |.non=>some "NoneType"
 |.bl _=>some "bool"
 |.int _=>some "int"
 |.str _=>some "str"
 |.lst _=>some "list"
 |.tup _=>some "tuple"
 |.dic=>some "dict"
 |_=>none
noncomputable def C1(n m:String):Option Bool:=match m with
 | "int"=>some (n == "int" || n == "bool")
 | "bool"=>some (n == "bool")
 | "str"=>some (n == "str")
 | "list"=>some (n == "list")
 | "tuple"=>some (n == "tuple")
 | "dict"=>some (n == "dict")
 |_=>none
def Gq:List D->M D
 |[d,.ty m]=>λt=>match tyD d with
   |some n=>(C1 n m).map λb=>(.bl b,t)
   |none=>none
 |_=>fail
theorem HE{d:D}{n m:String}{b:Bool}(h1:tyD d=some n)(h2:C1 n m=some b):PySem.W.kitOne K (.type n) (.type m)=some b:=by
 have hm:m = "int"\/m = "bool"\/m = "str"\/m = "list"\/m = "tuple"\/m = "dict":=by
  unfold C1 at h2
  split at h2<;>simp_all
 have hn:n = "NoneType"\/n = "bool"\/n = "int"\/n = "str"\/n = "list"\/n = "tuple"\/n = "dict":=by
  cases d<;>simp[tyD] at h1<;>simp[<-h1]
 rcases hm with rfl|rfl|rfl|rfl|rfl|rfl<;>rcases hn with rfl|rfl|rfl|rfl|rfl|rfl|rfl<;>(cases h2;rfl)
def ST(K:eh):List V->Hp->VK->Prop:=λxs H Q=>∃x n t b,xs=[x,.ty n]/\TyOf K H x t/\PySem.W.kitOne K t (.type n)=some b/\Q (.bl b) H
theorem Rx:B4 X (.builtin "isinstance") (ST X.K):=by
 intro ei s σ H xs us Q I r h;clear 5 h x n t b rfl ty e q;clear 5(HR r)u w' rfl rx rt
 cases rt
 exact Kx I rx ty e λtk=>⟨.bl b,H,I.tok tk,rfl,q⟩
set_option tactic.hygienic true in
theorem VY:Eu K (ST K) Gq:=λ{Oo c t σ H xs ds r t' Q} f rx eq k=>by
 unfold Gq at eq
 split at eq
 .next d m=>
  clear 5(Jn rx)v u rfl rv ru
  cases ru
  cases et:tyD d with
  |none=>rw[et] at eq;cases eq
  |some n=>
    rw[et] at eq;clear 5(uc4.mp eq)b e1 e2
    cases e2
    refine⟨v,m,.type n,b,rfl,?_,HE et e1,k _ H c f .refl (.bl b)⟩
    cases rv<;>first|(cases et;first|exact .non|exact .bl _|exact .int _|exact .str _|exact .lst ‹_› | exact .tup ‹_› | exact .dK ‹_›)|cases et
 .cases eq
def Iy:List D->M D
 |[.lst ds]=>ret (.tup ds)
 |[.tup ds]=>ret (.tup ds)
 |[.obj k]=>λt=>match t.S[k]? with
   |some (.lst ds)=>some (.tup ds,t)
   |_=>none
 |_=>fail
theorem Wb:Eu K (λxs H Q=>∃p ys,xs=[.ref p]/\((SqL K H p ys/\∀l,H l=none->Q (.ref l) (upd H l (.tup ys)))\/(SqT K H p ys/\Q (.ref p) H))) Iy:=λ{Oo c t σ H xs ds r t' Q} f rx eq k=>by
 match ds,rx,eq with
 |[],_,eq=>cases eq
 |d0::_::_,_,eq=>cases d0<;>cases eq
 |[d],rx,eq=>
   clear 5(E6 rx)v rfl rv
   cases rv with
   |@lst a vs ds h1 h2 h3=>cases eq;exact⟨a,vs,rfl,.inl ⟨SqL.of h1,λq hq=>k _ _ c (f.laid hq) (f.stp_laid hq) (.tup Am (f.s.free hq) (h3.mono (Ext.laid f.s hq)))⟩⟩
   |@tup a vs ds h1 h2 h3=>cases eq;exact⟨a,vs,rfl,.inr ⟨SqT.of h1,k _ H c f .refl (.tup h1 h2 h3)⟩⟩
   |@obj a kk h1=>
     unfold Iy at eq;dsimp only at eq
     cases es:t.S[kk]? with
     |none=>rw[es] at eq;cases eq
     |some o=>
       rw[es] at eq
       cases o with
       |dct _|ins _ _=>cases eq
       |lst ds=>
         cases eq
         clear 5(f.s.obs kk a _ h1 es)vs g1 g2;exact⟨a,vs,rfl,.inl ⟨SqL.of g1,λq hq=>k _ _ c (f.laid hq) (f.stp_laid hq) (.tup Am (f.s.free hq) (g2.mono (Ext.laid f.s hq)))⟩⟩
   |_=>cases eq
def FT:List D->M (List D)
 |[.lst ds]=>ret ds
 |[.tup ds]=>ret ds
 |[.scr ns]=>ret (ns.map .int)
 |[.obj k]=>λt=>match t.S[k]? with
   |some (.lst ds)=>some (ds,t)
   |_=>none
 |_=>fail
theorem V0:KR K (λxs H Q=>∃p ys,xs=[.ref p]/\(SqL K H p ys\/SqT K H p ys)/\∀l,H l=none->Q (.ref l) (upd H l (.lst ys))) FT:=λ{Oo c t σ H xs ds r t' Q} f rx eq k=>by
 match ds,rx,eq with
 |[],_,eq=>cases eq
 |d0::_::_,_,eq=>cases d0<;>cases eq
 |[d],rx,eq=>
   clear 5(E6 rx)v rfl rv
   cases rv with
   |@lst a vs ds h1 h2 h3=>cases eq;exact⟨a,vs,rfl,.inl (SqL.of h1),λq hq=>k q vs H c f .refl h3 hq⟩
   |@tup a vs ds h1 h2 h3=>cases eq;exact⟨a,vs,rfl,.inr (SqT.of h1),λq hq=>k q vs H c f .refl h3 hq⟩
   |@scr a ns h1=>cases eq;exact⟨a,_,rfl,.inl h1.sq,λq hq=>k q _ H c f .refl (Reps.ints ns) hq⟩
   |@obj a kk h1=>
     unfold FT at eq;dsimp only at eq
     cases es:t.S[kk]? with
     |none=>rw[es] at eq;cases eq
     |some o=>
       rw[es] at eq
       cases o with
       |dct _|ins _ _=>cases eq
       |lst ds=>
         cases eq
         clear 5(f.s.obs kk a _ h1 es)vs g1 g2;exact⟨a,vs,rfl,.inl (SqL.of g1),λq hq=>k q vs H c f .refl g2 hq⟩
   |_=>cases eq
def GX:List D->M D
 |[.int i]=>ret (.int i)
 |[.bl b]=>ret (.int (if b then 1 else 0))
 |_=>fail
theorem VX:Eu K (λxs H Q=>(∃i,xs=[.int i]/\Q (.int i) H)\/∃k,xs=[.bl k]/\Q (.int (if k then 1 else 0)) H) GX:=λ{Oo c t σ H xs ds r t' Q} f rx eq k=>by
 match ds,rx,eq with
 |[],_,eq=>cases eq
 |d0::_::_,_,eq=>cases d0<;>cases eq
 |[d],rx,eq=>
   clear 5(E6 rx)v rfl rv
   cases rv with
   |int i=>cases eq;exact .inl ⟨i,rfl,k _ H c f .refl (.int _)⟩
   |bl b=>cases eq;exact .inr ⟨b,rfl,k _ H c f .refl (.int _)⟩
   |_=>cases eq
def aX:List D->M D
 |[.int i]=>ret (.int (if i<0 then -i else i))
 |_=>fail
def Fp:List D->M D
 |[.int i,.int j]=>ret (.int (if j<i then j else i))
 |_=>fail
def br:List D->M D
 |[.int i,.int j]=>ret (.int (if j > i then j else i))
 |_=>fail
set_option tactic.hygienic true
theorem V2:Eu K (λxs H Q=>∃i j,xs=[.int i,.int j]/\Q (.int (if j<i then j else i)) H) Fp:=λ{Oo c t σ H xs ds r t' Q} f rx eq k=>by
 unfold Fp at eq
 split at eq
 .next i j=>
  clear 5(Jn rx)v u rfl rv ru
  cases rv;cases ru;cases eq
  exact⟨i,j,rfl,k _ H c f .refl (.int _)⟩
 .cases eq
def JX:List D->M D
 |[.str x]=>λt=>if x.length=1 then some (.int (x.cps.getD 0 0:Nat),t) else none
 |_=>fail
theorem V6:Eu K (λxs H Q=>∃x,xs=[.str x]/\x.length=1/\Q (.int (x.cps.getD 0 0:Nat)) H) JX:=λ{Oo c t σ H xs ds r t' Q} f rx eq k=>by
 match ds,rx,eq with
 |[],_,eq=>cases eq
 |d0::_::_,_,eq=>cases d0<;>cases eq
 |[d],rx,eq=>
   clear 5(E6 rx)v rfl rv
   cases rv with
   |str x=>
     unfold JX at eq;dsimp only at eq
     split at eq
     .next h=>cases eq;exact⟨x,rfl,h,k _ H c f .refl (.int _)⟩
     .cases eq
   |_=>cases eq
end
end
open AutoSeq1 (wpAny_loadPart')
open AutoSeq1 (wpAny_loadPart')
section
variable{X:Cx}{a b c d:Expr}{ta tb tc td:TE}{pos:Pos}
end
section
variable{K:eh}
def Ar(x y:D):M D:=WO x y
def T5(K:eh):R2:=ON K
theorem NC{X:Cx}:OpR X (binaryOp .Add) (T5 X.K):=Vq
theorem Mu:A5 K (T5 K) Ar:=VU
def OD:D->D->M D
 |.int i,.int j=>λt=>if E5 i j=true then some (.int (i*j),t) else none
 |.lst xs,.int k=>λt=>if Bw k=true/\xs.length*k.toNat<=LIM then some (.lst (List.replicate k.toNat xs).flatten,t) else none
 |_,_=>fail
def OQ(K:eh):R2:=λx y H Q=>rI CMul (λi j=>.int (i*j)) x y H Q\/SU x y H Q
theorem op_mul3{X:Cx}:OpR X (binaryOp .Mult) (OQ X.K):=op_mul.or Qx
set_option tactic.hygienic true in
theorem V4:A5 K (OQ K) OD:=λ{Oo c t σ H x y dx dy r t' Q} f rx ry eq k=>by
 cases ry with
 |int j=>
   cases rx with
   |int i=>
     unfold OD at eq;dsimp only at eq
     split at eq
     .next h=>cases eq;exact .inl ⟨i,j,rfl,rfl,Ql h,k _ H c f .refl (.int _)⟩
     .cases eq
   |@lst a vs ds h1 h2 h3=>
     unfold OD at eq;dsimp only at eq
     split at eq
     .next h=>
      cases eq
      clear 5(D7 h.1)g1 g2;refine .inr ⟨a,j,vs,rfl,rfl,h1,by lia,by lia,by rw[h3.length];exact um0 h.2 CO,λp hp=>?_⟩;exact k _ _ c (f.laid hp) (f.stp_laid hp) (.lst Am (f.s.free hp) ((h3.rep j.toNat).mono (Ext.laid f.s hp)))
     .cases eq
   |_=>cases eq
 |_=>cases rx<;>cases eq
end
section
variable{K:eh}
section
variable{X:Cx}{e a b:Expr}{pos:Pos}
def BN(xs:List D):List D->Option (List D)
 |[d]=>if xs.length<LIM then some (xs++[d]) else none
 |_=>none
def ownM(i:Nat)(h:List D->List D->Option (List D))(g:M (List D)):M Out:=λt=>match t.env[i]? with
 | some (some (.own _))=>bnd g (λds t1=>match t1.env[i]? with
   |some (some (.own xs))=>(h xs ds).map λys=>(.next,{t1 with env:=t1.env.set i (some (.own ys))})
   |_=>none) t
 |_=>none
def Rl(K:eh)(R:V->List V->Hp->VK->Prop)(h:List D->List D->Option (List D)):Prop:=∀{c:Cf}{S:List Ob}{H:Hp}{a:eR}{vs us:List V}{xs ds ys:List D}{Q:VK},SInv K c S H->H a=some (.lst vs)->Reps K c H vs xs->Reps K c H us ds->h xs ds=some ys->
 (∀ws,Reps K c H ws ys->Q .non (upd H a (.lst ws)))->R (.ref a) us H Q
set_option tactic.hygienic true
theorem NN:Rl K NJ BN:=λ{c S H a vs us xs ds ys Q} s h r rs e k=>by
 unfold BN at e
 split at e
 .next d=>
  split at e
  .next hl=>
   cases e
   clear 5(E6 rs)v rfl rv;exact⟨a,vs,v,rfl,rfl,h,by rw[r.length];exact ue3 hl CO,k _ (r.append (.cons rv .nil))⟩
  .cases e
 .cases e
theorem RS.ownM{μ:Cf->Hp->D->(V->Hp->Prop)->Prop}{K:eh}{i:Nat}{h:List D->List D->Option (List D)}{g:M (List D)}{R:V->List V->Hp->VK->Prop}(s:Rl K R h){E:Ends}{σ:L2.St}{H:Hp}(q:RSg K μ (L2.ownM i h g) E σ H):Ue (tBM K "list" R (YR i) (RA K g)) E σ H:=by
 clear 5 q Oo c t fi o t' eq k;unfold L2.ownM at eq
 split at eq
 .next xs0 e0=>
  clear 5(Af eq)ds t1 e1 eq;clear 5(fi.own i xs0 e0)a vs0 h1 h2 h3 h4 h5;refine⟨.ref a,h1,.inl ⟨rfl,vs0,SqL.of h4⟩,Oo,c,t,fi,ds,t1,e1,λus H1 c1 f1 s1 rus=>?_⟩
  split at eq
  .next xs ex=>
   clear 5(uc4.mp eq)ys ey ez
   cases ez
   clear 5(f1.own i xs ex)a' vs g1 g2 g3 g4 g5;rw[h1] at g1;injection g1 with g1;injection g1 with g1;injection g1 with g1;subst g1
   refine s f1.s g4 g5 rus ey λws rws=>?_;clear 5(f1.wrOwn ex h1 rws)f2 s2;exact k σ _ c1 f2 (s1.trans s2)
  .cases eq
 .cases eq
set_option tactic.hygienic false
theorem PP{μ:Cf->Hp->D->(V->Hp->Prop)->Prop}(i:Nat){x:Str}{es:List Expr}{g:M (List D)}{px apos cpos:Pos}(ha:PA X (e::es) (RA X.K g))(hN:autoParam (X.N[i]?=some x) q3T)(hv:autoParam (Vis X.env.scope x) q0T)(hd:autoParam ((x==("__debug__":Str))=false) q1T)
 (hcd:autoParam ((x==("__classdict__":Str))=false) q1T)
 (hbase:autoParam (attributeBase (.Name x px) "append" X.env (eval (.Name x px) X.env)=eval (.Name x px) X.env) q3T)
 (hfew:autoParam (((backTo cpos (starEach (e::es) X.env)).all (λx=>!x.1)&&(backToKw cpos (keywordEach [] X.env)).all (λx=>x.1.isSome)&&decide ((e::es).length+([]:List Keyword).length+(if ([]:List Keyword).isEmpty then 0 else 1)<30))=true) q3T)
 (hline:autoParam ((apos.endLine==cpos.line)=true) q3T) (hs:autoParam (starEach (e::es) X.env=(false,eval e X.env)::starEach es X.env) q3T) (hplain:autoParam ((backTo cpos (starEach es X.env)).any (·.1)=false) q3T) :
 PS X (.Expr (.Call (.Attribute (.Name x px) "append" apos) (e::es) [] cpos) pos) (RSg X.K μ (ownM i BN g)):=
 Bh (JY (K2 ub7 ff fg Kz (CT hN hv hd hcd) ha hbase hfew hline hs hplain)) λ_ _ _ q=>RS.ownM NN q
def objM(h:List D->List D->Option (List D))(f:M D)(g:M (List D)):M D:=bnd f λo=>match o with
 |.obj k=>λt=>match t.S[k]? with
   | some (.lst _)=>bnd g (λds t1=>match t1.S[k]? with
     |some (.lst xs)=>(h xs ds).map λys=>(.non,{t1 with S:=t1.S.set k (.lst ys)})
     |_=>none) t
   |_=>none
 |_=>fail
set_option tactic.hygienic true in
theorem RE.objM{K:eh}{h:List D->List D->Option (List D)}{f:M D}{g:M (List D)}{R:V->List V->Hp->VK->Prop}(s:Rl K R h){σ:L2.St}{H:Hp}{Q:VK}(q:RE K (L2.objM h f g) σ H Q):tBM K "list" R (RE K f) (RA K g) σ H Q:=by
 clear 5 q Oo c t fi r t' eq k;clear 5(Af eq)o t0 e0 eq;refine⟨Oo,c,t,fi,o,t0,e0,λx H0 c0 f0 s0 rx=>?_⟩
 cases rx with
 |@obj a kk hk=>
   dsimp only at eq
   split at eq
   .next xs0 ex0=>
    clear 5(Af eq)ds t1 e1 eq;clear 5(f0.s.obs kk a _ hk ex0)vs0 g0 g0';refine⟨.inl ⟨rfl,vs0,SqL.of g0⟩,Oo,c0,t0,f0,ds,t1,e1,λus H1 c1 f1 s1 rus=>?_⟩
    split at eq
    .next xs ex=>
     clear 5(uc4.mp eq)ys ey ez
     cases ez
     have hk1:=s1.ext.io _ _ hk;clear 5(f1.s.obs kk a _ hk1 ex)vs g1 g2;refine s f1.s g1 g2 rus ey λws rws=>?_;obtain⟨f2,s2⟩:=f1.wrObj (o:=.lst ys) (u:=.lst ws) hk1 λc' H' ext hu=>⟨ws,hu,rws.mono ext⟩;exact k _ _ c1 f2 ((s0.trans s1).trans s2) .non
    .cases eq
   .cases eq
 |_=>cases eq
theorem Pz{o:Expr}{es:List Expr}{f:M D}{g:M (List D)}{apos cpos:Pos}(ho:PE X o (RE X.K f))(ha:PA X (e::es) (RA X.K g))
 (hbase:autoParam (attributeBase o "append" X.env (eval o X.env)=eval o X.env) q3T)
 (hfew:autoParam (((backTo cpos (starEach (e::es) X.env)).all (λx=>!x.1)&&(backToKw cpos (keywordEach [] X.env)).all (λx=>x.1.isSome)&&decide ((e::es).length+([]:List Keyword).length+(if ([]:List Keyword).isEmpty then 0 else 1)<30))=true) q3T)
 (hline:autoParam ((apos.endLine==cpos.line)=true) q3T) (hs:autoParam (starEach (e::es) X.env=(false,eval e X.env)::starEach es X.env) q3T) (hplain:autoParam ((backTo cpos (starEach es X.env)).any (·.1)=false) q3T) :
 PE X (.Call (.Attribute o "append" apos) (e::es) [] cpos) (RE X.K (objM BN f g)):=
 AB (K2 ub7 ff fg Kz ho ha hbase hfew hline hs hplain) λ_ _ _ q=>RE.objM NN q
def FV(o i d:D):M Unit:=match o,i with
 |.obj k,.int j=>λt=>match t.S[k]? with
   |some (.lst xs)=>(ixN xs.length j).map λn=>((),{t with S:=t.S.set k (.lst (xs.set n d))})
   |_=>none
 |_,_=>fail
def stD(f g:M D)(d:D):M Unit:=bnd f λo=>bnd g λi=>FV o i d
set_option tactic.hygienic true in
theorem Xj{o i:Expr}{f g:M D}(ho:PE X o (RE X.K f))(hi:PE X i (RE X.K g))
 (ha:∀v,assign (.Subscript o i pos) X.env v=(do
   let ov <-holding [v] (eval o X.env)
   let iv <-holding [v,ov] (eval i X.env)
   standAt pos
   holding [v,ov,iv] (setItem ov iv v)
   release [v,ov,iv] []):=by intro _;rfl):PG X (.Subscript o i pos) (RG X.K (stD f g)):=
 GI (Mi ho hi Mx ha) λv σ H Q z9=>by
  clear 5 z9 Oo c t d fi rv t' eq k;clear 5(Af eq)d0 t1 e1 eq;clear 5(Af eq)di t2 e2 eq;refine⟨Oo,c,t,fi,_,t1,e1,λx H1 c1 f1 s1 rx=>⟨Oo,c1,t1,f1,di,t2,e2,λy H2 c2 f2 s2 ry=>?_⟩⟩;unfold FV at eq
  split at eq
  .cases ry with
   |int j=>
   obtain⟨a,rfl,hk⟩:=rx.rv
   split at eq
   .next xs ex=>
    clear 5(uc4.mp eq)n en ez
    cases ez
    have hk2:=s2.ext.io _ _ hk;clear 5(f2.s.obs _ a _ hk2 ex)vs g1 g2;refine⟨a,vs,_,n,rfl,rfl,g1,by rw[g2.length];exact en,?_⟩;have rv2:=rv.mono (s1.trans s2).ext;obtain⟨f3,s3⟩:=f2.wrObj (o:=.lst (xs.set n d)) (u:=.lst (vs.set n v)) hk2 λc' H' ext hu=>⟨_,hu,(Reps.set rv2 n g2).mono ext⟩;exact k σ _ c2 f3 ((s1.trans s2).trans s3)
   .cases eq
  .cases eq
end
variable{H:Hp}
section
variable{X:Cx}{e a b tg iter elt:Expr}{ifs:List Expr}{pos:Pos}{scope:Scope}{N':List Str}{n:Nat}{fr:List Nat}{f:M (List D)}{st:D->M Unit}{tst:M Bool}{el:M D}
def Bk:M Bool:=ret true
theorem UL:PIf X [] (RT X.K Bk):=λei s σ H Q I z9=>by
 clear 5 z9 Oo c t fi r t' eq k;exact VG ei s σ H Q I (by cases eq;exact k H c fi .refl)
theorem CW(O:CmpOk X scope N' (ET n fr))(hc:X.calm=true)(hi:PI X tg iter (RI X.K f))
 (hg:∀cl C s2 H2 fp,PG (BD X N' scope cl C s2 H2 fp) tg (RG X.K st)) (ht:∀cl C s2 H2 fp,PIf (BD X N' scope cl C s2 H2 fp) ifs (RT X.K tst)) (he:∀cl C s2 H2 fp,PE (BD X N' scope cl C s2 H2 fp) elt (RE X.K el))
 (hs:autoParam (∀x,foldedSetIterable iter X.env x=pure x) q2T):PE X (.ListComp elt [⟨tg,iter,ifs,0⟩] scope pos) (RF X.K (AN n fr f st tst el)):=
 AB (NE O hc hi hg ht he hs) λ_ _ _ q=>RF.comp q
theorem RF.ofPure{f:M (List D)}{σ:L2.St}{Q:VK}(q:RE K (Av f) σ H Q):RF K f σ H Q:=by
 clear 5 q Oo c t fi r t' eq k;clear 5(Af eq)ds t1 e1 eq
 cases eq
 exact⟨Oo,c,t,fi,ds,_,e1,λp xs H1 c1 f1 s1 rxs hp=>k _ _ c1 (f1.laid hp) (s1.trans (f1.stp_laid hp)) (.lst Am (f1.s.free hp) (rxs.mono (Ext.laid f1.s hp)))⟩
theorem Nc{μ:Cf->Hp->D->(V->Hp->Prop)->Prop}{i:Nat}{y:Str}{py spos:Pos}(O:CmpOk X scope N' (ET n fr))(hc:X.calm=true)(hN:X.N.Nodup)(hiN:X.N[i]?=some y)(hx:X.env.scope.names.lookup y=some .local)(hi:PI X tg iter (RI X.K f))
 (hg:∀cl C s2 H2 fp,PG (BD X N' scope cl C s2 H2 fp) tg (RG X.K st)) (ht:∀cl C s2 H2 fp,PIf (BD X N' scope cl C s2 H2 fp) ifs (RT X.K tst)) (he:∀cl C s2 H2 fp,PE (BD X N' scope cl C s2 H2 fp) elt (RE X.K el))
 (hsw:autoParam (swapsWith (.ListComp elt [⟨tg,iter,ifs,0⟩] scope pos) (some (.Name y py)) spos.line X.env=pure true) q3T)
 (hs:autoParam (∀x,foldedSetIterable iter X.env x=pure x) q2T):PS X (.Assign [.Name y py] (.ListComp elt [⟨tg,iter,ifs,0⟩] scope pos) spos) (RSg X.K μ (Al i (Av (AN n fr f st tst el)))):=
 Bh (NG O hc hN hiN hx hi hg ht he hsw hs) λE σ H q=>RF.comp (RF.ofPure (RS.set q))
theorem Cb(tgs:List Str)(frn:List (Nat×Str))(hk:scope.kind=.function)(hcell:(scope.names.all λy=>y.2 != .cell)=true)(hloc:(scope.names.all λy=>y.2 != .local||scope.names.lookup y.1==some .local)=true)
 (hfree:(scope.names.all λy=>y.2 != .free||X.env.kindOf y.1==some .cell||X.env.kindOf y.1==some .free)=true)
 (hf:(frn.all λp=>X.N[p.1]?==some p.2&&scope.names.lookup p.2==some .free)=true):CmpOk X scope (tgs++frn.map (·.2)) (ET tgs.length (frn.map (·.1))):=by
 rw[uh7] at hcell hloc hfree hf;refine⟨hk,λy hy=>by simpa using hcell y hy,λy hy hl=>?_,λy hy hl=>?_,λσ _=>by simp[ET],λσ j x v h1 h2=>?_⟩
 .have:=hloc y hy;simpa[hl] using this
 .have:=hfree y hy;simpa[hl] using this
 .unfold ET at h2
  by_cases hj:j<tgs.length
  .rw[ub1 (by simpa using hj),ub6] at h2
   split at h2<;>simp at h2
  .rw[ua6 (by simpa using hj),uc7,uf8,uf8] at h2;rw[ua6 (by simpa using hj),uf8] at h1
   cases e:frn[j-tgs.length]? with
   |none=>rw[e] at h1;cases h1
   |some p=>
     rw[e] at h1 h2;simp only[uj6,ug4] at h1 h2;have hp:=hf p (ud6 e);rw[uh3] at hp;refine⟨p.1,by rw[<-h1];simpa using hp.1,?_,by rw[<-h1];simpa using hp.2⟩
     cases e2:σ[p.1]? with
     |none=>rw[e2] at h2;cases h2
     |some o=>rw[e2] at h2;simpa using h2
end
mutual
noncomputable def Bg:D->Bool
 |.tup xs=>Fs xs
 |.lst xs=>Fs xs
 |.obj _=>false
 |.scr _=>false
 |.exc _ _=>false
 |_=>true
noncomputable def Fs:List D->Bool
 |[]=>true
 |d::r=>Bg d&&Fs r
end
def c0:Cf:=⟨[],λ_=>False⟩
theorem GL(a:eR):¬c0.A a:=λh=>h.elim (λz=>nomatch z) λz=>z
mutual
theorem DL{K:eh}{c:Cf}{H:Hp}{v:V}{d:D}(r:Rep K c H v d)(p:Bg d=true):Rep K c0 H v d:=by
 cases r with
 |non=>exact .non
 |bl b=>exact .bl b
 |int i=>exact .int i
 |str x=>exact .str x
 |ty n=>exact .ty n
 |tup h n r=>exact .tup h (GL _) (HJ r (by simpa[Bg] using p))
 |lst h n r=>exact .lst h (GL _) (HJ r (by simpa[Bg] using p))
 |scr h=>simp[Bg] at p
 |dic h n=>exact .dic h (GL _)
 |obj h=>simp[Bg] at p
 |exc _ _ _ _ _=>simp[Bg] at p
theorem HJ{K:eh}{c:Cf}{H:Hp}{vs:List V}{ds:List D}(r:Reps K c H vs ds)(p:Fs ds=true):Reps K c0 H vs ds:=by
 cases r with
 |nil=>exact .nil
 |cons h t=>
   simp only[Fs,uh3] at p;exact .cons (DL h p.1) (HJ t p.2)
end
noncomputable def Em(S:List Ob):D->D
 |.obj k=>match S[k]? with
   |some (.lst ds)=>.lst ds
   |_=>.obj k
 |d=>d
noncomputable def JS:D->Bool
 |.obj _=>true
 |_=>false
def eqS(g:Bool->Bool)(x y:D):M D:=λt=>
 if (JS x||JS y)=true then(if (Bg (Em t.S x)&&Bg (Em t.S y))=true then(eqN EQD (Em t.S x) (Em t.S y)).map λb=>(.bl (g b),t) else none)
 else(eqN EQD x y).map λb=>(.bl (g b),t)
set_option tactic.hygienic true
theorem GA{c:Cf}{S:List Ob}{v:V}{d:D}(s:SInv K c S H)(r:Rep K c H v d)(p:Bg (Em S d)=true):Rep K c0 H v (Em S d):=by
 cases r with
 |@obj a k hk=>
   unfold Em at p⊢;dsimp only at p⊢
   split
   .next ds e=>
    rw[e] at p;clear 5(s.obs k a _ hk e)vs h1 h2;exact .lst h1 (GL _) (HJ h2 (by simpa[Bg] using p))
   .next h=>
    split at p
    .next ds e=>exact absurd e (h ds)
    .simp[Bg] at p
 |non=>exact .non
 |bl b=>exact .bl b
 |int b=>exact .int b
 |str b=>exact .str b
 |ty b=>exact .ty b
 |tup h n q=>exact DL (.tup h n q) p
 |lst h n q=>exact DL (.lst h n q) p
 |scr h=>exact DL (c:=c) (.scr h) p
 |dic h n=>exact DL (.dic h n) p
 |exc a b n f q=>exact DL (.exc a b n f q) p
theorem HN{g:Bool->Bool}:A5 K (OO K g) (eqS g):=λ{Oo c t σ H x y dx dy r t' Q} f rx ry eq k=>by
 unfold eqS at eq
 split at eq
 .split at eq
  .next hp=>
   rw[uh3] at hp;clear 5(uc4.mp eq)b e1 e2
   cases e2
   exact⟨c0,_,_,b,GA f.s rx hp.1,GA f.s ry hp.2,e1,k _ H c f .refl (.bl (g b))⟩
  .cases eq
 .obtain⟨b,e1,e2⟩:=uc4.mp eq
  cases e2
  exact⟨c,dx,dy,b,rx,ry,e1,k _ H c f .refl (.bl (g b))⟩
set_option tactic.hygienic false
theorem P9{a:eR}{ns:List Int}{f:Fn}{S':List Ob}(hO:N4 H)(hS:SqL K H a (ns.map V.int))(e:f [.scr ns] []=some (.bl true,S')):spF K f [.ref a] H (λv _=>v=.bl true) λ_ _ _=>False:=by
 refine⟨c0,[.scr ns],[],⟨rfl,List.Pairwise.nil,λk a o h=>by simp[c0] at h,λb z=>z.elim,λb z=>z.elim⟩,.cons (.scr ?_) .nil,.bl true,S',e,λv H' c' _ _ _ rv=>by cases rv;rfl⟩;rcases hS with (h|h)|h
 .rcases hO a with z|⟨o,xs,z⟩
  .rw[z] at h;cases h
  .rw[z] at h;cases h
 .exact .inl ⟨h,GL _⟩
 .exact .inr h
end
section
variable{prog:eT}{w:eU}{A:Around}{E:eo->eS->Prop}{s:eS}
theorem IR{it l:eR}{items:Array eo}(hne:l≠it):∀(n i:Nat) (s:eS) (Q:List eo->eS->Prop),s.heap.IsListIter it l i->s.heap.IsList l items->i+n<=items.size->
 (∀h',h'.IsListIter it l (i+n)->Heap.SameBut it s.heap h'->Q ((items.toList.drop i).take n) {s with heap:=h'})->wpAny (model prog w) A (draw (.ref it) n) Q E s
 |0,i,s,Q,hit,_,_,hQ=>un7 (by simpa using hQ s.heap hit (Heap.SameBut.refl ..))
 |n+1,i,s,Q,hit,ht,hle,hQ=>by
   have hlt:i<items.size:=by lia
   refine un6 (wpAny_pyNext_list_item hit ht (x:=items[i]) (by simp[hlt]) λh1 hit1 hs1=>?_);refine un6 (ul7 (IR hne n (i+1) _ _ hit1 (ht.extBut hs1.extBut hne) ∅ λh2 hit2 hs2=>un7 ?_));have hd:items.toList.drop i=items[i]::items.toList.drop (i+1):=by simp[ub2,hlt]
   have:=hQ h2 (by rw[show i+(n+1)=i+1+n by lia];exact hit2) (hs1.trans hs2);rw[hd,List.take_succ_cons] at this;exact this
theorem MI{l:eR}{items:Array eo}{targets:List (Bool×(eo->Sem Unit))}{Q:Unit->eS->Prop}(hh:A.handled=none)(ht:s.heap.IsList l items)(hn:targets.length=items.size)(hstar:targets.findIdx? (·.1)=none)
 (h:∀h',Heap.ExtBut s.heap.objs.size s.heap h'->wpAny (model prog w) A (assignInOrder (targets.map (·.2)) items.toList) Q E {s with heap:=h'}):wpAny (model prog w) A (unpack (.ref l) targets) Q E s:=by
 have hlt:l≠s.heap.objs.size:=by obtain⟨o,ho,_⟩:=ht;exact ul9 (ul8 ho)
 unfold unpack;rw[hn,hstar];refine un6 (ul7 ?_);unfold unpackItems;refine un6 ?_;unfold notIterableAtAll;refine un6 (wpAny_specialOf ht.typeIs PySem.F.slot_list_iter.lookup ?_);refine un7 ?_;simp only[ue9,gw];refine un6 (ul7 (wpAny_pyIter_list ht ?_));have hp:Heap.IsList (s.heap.push {cls:=.type "list_iterator",data:=.fields #[.ref l,.int 0 0]}) l items:=by
  clear 5 ht o ho r;exact⟨o,uc1 _ ho,r⟩
 refine un6 (ul7 (IR hlt items.size 0 _ _ ⟨_,ud9 _ rfl,rfl,rfl⟩ hp ∅ λh1 hit1 hs1=>?_));have hall:List.take items.size (List.drop 0 items.toList)=items.toList:=by
  rw[uk4];exact uc5 (by simp)
 rw[hall];rw[gG (by simp)];have ht1:Heap.IsList h1 l items:=hp.extBut hs1.extBut hlt;refine un6 (ul7 (wpAny_pyNext_list_end hh hit1 ht1 (by simp) λh2 he2=>?_));simp only[Option.isSome_none,ue9,gw];exact un7 (h h2 λb o hb e=>he2 b o hb (hs1.extBut b o hb (uc1 _ e)))
end
section
variable{X:Cx}{pos:Pos}
def gUn(K:eh)(n:Nat)(t:TGs):TG:=λv σ H Q=>∃a xs,v=.ref a/\(SqT K H a xs\/SqL K H a xs)/\xs.length=n/\t xs σ H Q
theorem ZB{es:List Expr}{k:Nat}{t:TGs}{n:Nat}(hc:X.calm=true)(h:PGs X es t)
 (hn:autoParam ((assignEach es X.env).length=n) q3T) (hst:autoParam ((assignEach es X.env).findIdx? (·.1)=none) q3T):PG X (.Tuple es k pos) (gUn X.K n t):=by
 intro ei s σ H v u Q I r hw;obtain⟨a,xs,e1,hq|hq,hl,hw⟩:=hw
 .exact Yh hc h hn hst ei s σ H v u Q I r ⟨a,xs,e1,hq,hl,hw⟩
 .subst e1
  cases r
  clear 5(I.list hq)its rv ht hz;rw[assign_Tuple];refine un6 (fX (MI (I.ok.hd hc) ht.isList (by simp[hn,<-hl,rv.length]) hst λh' hx=>?_));have I1:Inv X ei σ H {s with heap:=h'}:=I.kept (t':=s.toks) λb o e=>hx b o (ul9 (ul8 e)) e;exact h ei _ σ H xs _ Q I1 (by simpa using rv) hw
end
section
open HT
variable{prog:eT}{w:eU}{A:Around}{E:eo->eS->Prop}{s:eS}
end
section
variable{X:Cx}
end
noncomputable def Its(z:Str):It:=⟨λi _=>i<z.cps.size,λi H x H'=>H'=H/\∃c,z.cps[i]?=some c/\x=.str ⟨#[c]⟩,λi _=>i=z.cps.size⟩
theorem MH{P:eT}{w:eU}{K:eh}{tg:Expr}{T:String}{x:Str}{t:Tok}(it:eR)(hT:["enumerate", "zip", "dict_itemiterator", "dict_reverseitemiterator", "odict_iterator", "itertools.zip_longest", "itertools.pairwise"].contains T=false)
 (W:∀A:Around,A.handled=none->Walks P w A it [it] [it] x.cps.size (SignAt x) (λi h=>h.IsStrIter it T x t i))
 (self:∀(A:Around) (i:Nat) (s:eS) (Q:eo->eS->Prop) (E:eo->eS->Prop),s.heap.IsStrIter it T x t i->Q (.ref it) s->wpAny (model P w) A (pyIter (.ref it)) Q E s) :
 Turn P w K tg (Its x) [it] it (λi h=>h.IsStrIter it T x t i) where
 mem:=by simp
 obj:=λi h st b hb=>by
  have e:b=it:=by simpa using hb
  subst e;clear 5 st o e c d;exact⟨o,e,λv z=>by rw[d] at z;cases z⟩
 keep:=λi h h' st k=>by
  clear 5 st o e r;exact⟨o,k it (by simp) o e,r⟩
 item:=by
  intro X hP hw hK hc i ei s σ H E I hf st hg;subst hP hw hK;clear 5(hf it (by simp))f0 f1 f2 f3 f4 f5;refine(W X.A (I.ok.hd hc)).item i s _ _ hg st λv h' tk hv st' kk=>?_;clear 5 hv c u hcc rfl;have I1:Inv X ei σ H {s with heap:=h',toks:=tk}:=I.turned (λb o hb e=>kk b o (by simpa using hb) e) f0 f1 f3 f4 f5;clear 5(id st')o e ec ed;exact⟨_,rfl,KZ (s:={s with heap:=h',toks:=tk}) e ec ed hT ⟨.str ⟨#[c]⟩,H,I1,⟨u,rfl⟩,⟨rfl,c,hcc,rfl⟩,st',λb hb=>(hf b hb).1⟩⟩
 done:=by
  intro X hP hw hK hc i ei s σ H E I hf st hg;subst hP hw hK;clear 5(hf it (by simp))f0 f1 f2 f3 f4 f5;have hg':i=x.cps.size:=hg;subst hg';exact(W X.A (I.ok.hd hc)).done s _ _ st λh' tk kk=>⟨rfl,I.turned (λb o hb e=>kk b o (by simpa using hb) e) f0 f1 f3 f4 f5⟩
 self:=λA i s Q E st h=>self A i s Q E st h
section
variable{X:Cx}{tg:Expr}{pos:Pos}
def bn(K:eh)(tl:TE):TI:=λσ H R=>tl σ H λx H1=>(∃a,x=.ref a/\(∃xs,SqL K H1 a xs)/\R (Itl K a) H1)\/(∃a,x=.ref a/\(∃xs,SqT K H1 a xs)/\R (Itt K a) H1)\/∃z,x=.str z/\R (Its z) H1
theorem QB{l:Expr}{tl:TE}(hl:PE X l tl):PI X tg l (bn X.K tl):=by
 intro ei s σ H R I h;refine thn (hl ei s σ H _ I h) λv s1 z9=>?_;clear 5 z9 x H1 I1 r1 q1;have fp:∀b∈[s1.heap.objs.size],FpOk X ei H1 b:=λb hb=>by
  have e:b=s1.heap.objs.size:=by simpa using hb
  subst e;exact I1.fpOk (un2 _) (I1.hok.fresh (un2 _))
 rcases q1 with⟨a,rfl,⟨xs,hq⟩,q⟩|⟨a,rfl,⟨xs,hq⟩,q⟩|⟨z,rfl,q⟩
 .cases r1
  clear 5(I1.list hq)its rv p hz;refine wpAny_pyIter_list p.isList ?_;exact⟨s1.heap.objs.size,[s1.heap.objs.size],_,_,H1,rfl,I1.kept (t':=s1.toks) λb o e=>uc1 _ e,Q6 a _,⟨_,ud9 _ rfl,rfl,rfl⟩,fp,q⟩
 .cases r1
  clear 5(I1.tuple hq)its rv p hz;refine wpAny_pyIter_tuple (show s1.heap.IsTuple a its.toArray from p) ?_;exact⟨s1.heap.objs.size,[s1.heap.objs.size],_,_,H1,rfl,I1.kept (t':=s1.toks) λb o e=>uc1 _ e,O2 a _,⟨_,ud9 _ rfl,rfl,rfl⟩,fp,q⟩
 .obtain⟨t,rfl⟩:=r1
  cases ha:z.cps.all (· < 128)
  .refine wpAny_pyIter_wide ha ?_;exact⟨s1.heap.objs.size,[s1.heap.objs.size],_,_,H1,rfl,I1.kept (t':=s1.toks) λb o e=>uc1 _ e,MH (T:="str_iterator") (x:=z) (t:=t) _ (by decide) (λA hA=>Walks.strWide hA _ z t) (λ_ _ _ _ _ st h=>wpAny_pyIter_striter_wide st h),⟨_,ud9 _ rfl,rfl,rfl⟩,fp,q⟩
  .refine wpAny_pyIter_ascii ha ?_;exact⟨s1.heap.objs.size,[s1.heap.objs.size],_,_,H1,rfl,I1.kept (t':=s1.toks) λb o e=>uc1 _ e,MH (T:="str_ascii_iterator") (x:=z) (t:=t) _ (by decide) (λA hA=>Walks.strAscii hA _ z t) (λ_ _ _ _ _ st h=>wpAny_pyIter_striter_ascii st h),⟨_,ud9 _ rfl,rfl,rfl⟩,fp,q⟩
def Ub:R2:=λx y H Q=>∃z k,x=.str z/\y=.int k/\MulOk z k/\Q (.str (Txt.mul z k)) H
theorem Vt:OpR X (binaryOp .Mult) Ub:=by
 intro ei s σ H x y v u Q I rx ry h;clear 5 h z k rfl rfl hk q;clear 5 rx t rfl;clear 5 ry t' rfl;exact SB.mul hk λt2 tk=>⟨.str _,H,I.tok tk,⟨t2,rfl⟩,q⟩
def Gz(g:Int->Int->Bool)(h:List Nat->List Nat->Bool):R2:=λx y H Q=>(∃i j,x=.int i/\y=.int j/\Q (.bl (g i j)) H)\/∃i j,x=.str i/\y=.str j/\Q (.bl (h i.cps.toList j.cps.toList)) H
theorem X3:OpR X (compareOp .Lt) (Gz (λi j=>decide (i<j)) λi j=>decide (i<j)):=op_lt.or λei s σ H x y v u Q I rx ry h=>by
 clear 5 h i j rfl rfl q;clear 5 rx t rfl;clear 5 ry t' rfl;exact P.lt_str ⟨.bl _,H,I,rfl,q⟩
theorem Hf:OpR X (compareOp .LtE) (Gz (λi j=>decide (i<=j)) λi j=>!(decide (j<i))):=op_le.or λei s σ H x y v u Q I rx ry h=>by
 clear 5 h i j rfl rfl q;clear 5 rx t rfl;clear 5 ry t' rfl;exact P.le_str ⟨.bl _,H,I,rfl,q⟩
theorem Qu:OpR X (compareOp .Gt) (Gz (λi j=>decide (j<i)) λi j=>decide (j<i)):=op_gt.or λei s σ H x y v u Q I rx ry h=>by
 clear 5 h i j rfl rfl q;clear 5 rx t rfl;clear 5 ry t' rfl;exact P.gt_str ⟨.bl _,H,I,rfl,q⟩
theorem Qt:OpR X (compareOp .GtE) (Gz (λi j=>decide (j<=i)) λi j=>!(decide (i<j))):=op_ge.or λei s σ H x y v u Q I rx ry h=>by
 clear 5 h i j rfl rfl q;clear 5 rx t rfl;clear 5 ry t' rfl;exact P.ge_str ⟨.bl _,H,I,rfl,q⟩
end
def DK:D->M (List D)
 |.lst ds=>ret ds
 |.scr ns=>ret (ns.map .int)
 |.tup ds=>ret ds
 |.str x=>ret (x.cps.toList.map λc=>.str ⟨#[c]⟩)
 |_=>fail
def BZ(f:M D):M (List D):=bnd f DK
def Dg:D->D->M D
 |.str x,.int k=>λt=>if Bw k=true/\x.length*k.toNat<=LIM/\k<=LIM/\x.length<=LIM then some (.str (Txt.mul x k),t) else none
 |x,y=>OD x y
def En:D->Option Int->Option Int->M D:=slD
def Lx(g:Int->Int->Bool)(h:List Nat->List Nat->Bool):D->D->M D
 |.int i,.int j=>ret (.bl (g i j))
 |.str x,.str y=>ret (.bl (h x.cps.toList y.cps.toList))
 |_,_=>fail
def ltA:=Lx (λi j=>decide (i<j)) (λi j=>decide (i<j))
def leA:=Lx (λi j=>decide (i<=j)) (λi j=>!(decide (j<i)))
def gtA:=Lx (λi j=>decide (j<i)) (λi j=>decide (j<i))
def geA:=Lx (λi j=>decide (j<=i)) (λi j=>!(decide (i<j)))
def unS(n:Nat)(g:List D->M Unit):D->M Unit
 |.tup ds=>if ds.length=n then g ds else fail
 |.lst ds=>if ds.length=n then g ds else fail
 |_=>fail
def bb:M D:=fC .dic
def GB(i:Nat)(g:M D)(d:D):M Unit:=λt=>match t.env[i]? with
 | some (some (.own _))=>bnd g (λj t1=>match j,t1.env[i]? with
   |.int j,some (some (.own xs))=>(ixN xs.length j).map λn=>((),{t1 with env:=t1.env.set i (some (.own (xs.set n d)))})
   |_,_=>none) t
 |_=>none
section
variable{tg:Expr}{K:eh}{n:Nat}{g:List D->M Unit}{es:List Expr}
section
variable{X:Cx}{e a b:Expr}{pos:Pos}{st:Stmt}
theorem ItOk.str{K:eh}{c:Cf}{H:Hp}{x:Str}:ItOk K (Its x) c H (x.cps.toList.map λc=>.str ⟨#[c]⟩):=by
 refine⟨λc' H' i ex hi=>?_,λc' H' i y H'' d ex hd hy=>?_,λc' H' ex=>?_⟩
 .show i<x.cps.size;simpa using hi
 .clear 5 hy rfl n hn rfl;refine⟨rfl,?_⟩;have:d=.str ⟨#[n]⟩:=by
   rw[uf8] at hd;have hn':x.cps.toList[i]?=some n:=by simpa using hn
   rw[hn'] at hd;simpa using hd.symm
  rw[this];exact .str _
 .show _=x.cps.size;simp
theorem Xl{f:M D}(h:PE X e (RE X.K f)):PI X tg e (RI X.K (BZ f)):=
 ID (QB h) λσ H R z9=>by
  clear 5 z9 Oo c t fi ds t' eq k;clear 5(Af eq)d t1 e1 eq;refine⟨Oo,c,t,fi,d,t1,e1,λv H1 c1 f1 s1 rv=>?_⟩
  cases rv with
  |@lst p vs ds' h1 h2 h3=>
    cases eq
    exact .inl ⟨p,rfl,⟨vs,SqL.of h1⟩,k _ H1 c1 f1 s1 (ItOk.lst λc' H' ex=>⟨vs,SqL.of (ex.keep _ _ h1 h2),h3.mono ex⟩)⟩
  |@scr p ns h1=>
    cases eq
    exact .inl ⟨p,rfl,⟨_,h1.sq⟩,k _ H1 c1 f1 s1 (ItOk.lst λc' H' ex=>⟨_,(h1.mono ex).sq,Reps.ints ns⟩)⟩
  |@tup p vs ds' h1 h2 h3=>
    cases eq
    exact .inr (.inl ⟨p,rfl,⟨vs,SqT.of h1⟩,k _ H1 c1 f1 s1 (ItOk.tup λc' H' ex=>⟨vs,SqT.of (ex.keep _ _ h1 h2),h3.mono ex⟩)⟩)
  |str x=>
    cases eq
    exact .inr (.inr ⟨x,rfl,k _ H1 c1 f1 s1 ItOk.str⟩)
  |_=>cases eq
theorem RG.un{v:V}{σ:L2.St}{H:Hp}{Q:L2.St->Hp->Prop}(q:RG K (unS n g) v σ H Q):gUn K n (RGs K g) v σ H Q:=by
 clear 5 q Oo c t d fi rv t' eq k
 cases rv with
 |@tup a vs ds h1 h2 h3=>
   unfold unS at eq
   by_cases hn:ds.length=n
   .dsimp only at eq;rw[gE hn] at eq;exact⟨a,vs,rfl,.inl (SqT.of h1),by rw[h3.length];exact hn,Oo,c,t,ds,fi,h3,t',eq,k⟩
   .dsimp only at eq;rw[gG hn] at eq;cases eq
 |@lst a vs ds h1 h2 h3=>
   unfold unS at eq
   by_cases hn:ds.length=n
   .dsimp only at eq;rw[gE hn] at eq;exact⟨a,vs,rfl,.inr (SqL.of h1),by rw[h3.length];exact hn,Oo,c,t,ds,fi,h3,t',eq,k⟩
   .dsimp only at eq;rw[gG hn] at eq;cases eq
 |_=>cases eq
theorem Zi{k:Nat}(hc:X.calm=true)(h:PGs X es (RGs X.K g))(hn:autoParam ((assignEach es X.env).length=n) q3T)(hst:autoParam ((assignEach es X.env).findIdx? (·.1)=none) q3T):PG X (.Tuple es k pos) (RG X.K (unS n g)):=
 GI (ZB hc h hn hst) λ_ _ _ _ q=>RG.un q
theorem RZ{f:D->M Unit}(h1:PG X e (RG X.K f))(h2:PGs X es (RGs X.K g))(hs:autoParam ((assignEach (e::es) X.env).map (·.2)=assign e X.env::(assignEach es X.env).map (·.2)) q3T):PGs X (e::es) (RGs X.K (AX f g)):=
 MV (SN h1 h2 hs) λ_ _ _ _ q=>RGs.cons q
set_option tactic.hygienic true in
theorem PK(i:Nat){x:Str}{ix:Expr}{g:M D}{px:Pos}(hi:PE X ix (RE X.K g))(hN:autoParam (X.N[i]?=some x) q3T)(hv:autoParam (Vis X.env.scope x) q0T)(hd:autoParam ((x==("__debug__":Str))=false) q1T)
 (hcd:autoParam ((x==("__classdict__":Str))=false) q1T)
 (ha:∀v,assign (.Subscript (.Name x px) ix pos) X.env v=(do
   let ov <-holding [v] (eval (.Name x px) X.env)
   let iv <-holding [v,ov] (eval ix X.env)
   standAt pos
   holding [v,ov,iv] (setItem ov iv v)
   release [v,ov,iv] []):=by intro _;rfl):PG X (.Subscript (.Name x px) ix pos) (RG X.K (GB i g)):=
 GI (Mi (CT hN hv hd hcd) hi Mx ha) λv σ H Q z9=>by
  clear 5 z9 Oo c t d fi rv t' eq k;unfold GB at eq
  split at eq
  .next xs0 e0=>
   clear 5(Af eq)j t1 e1 eq;clear 5(fi.own i xs0 e0)a vs0 h1 h2 h3 h4 h5;refine⟨.ref a,h1,Oo,c,t,fi,j,t1,e1,λy H1 c1 f1 s1 ry=>?_⟩
   split at eq
   .next j' xs ex=>
    clear 5(uc4.mp eq)n en ez
    cases ez
    cases ry
    clear 5(f1.own i xs ex)a' vs g1 g2 g3 g4 g5;rw[h1] at g1;injection g1 with g1;injection g1 with g1;injection g1 with g1;subst g1
    refine⟨a,vs,j',n,rfl,rfl,g4,by rw[g5.length];exact en,?_⟩;clear 5(f1.wrOwn ex h1 (Reps.set (rv.mono s1.ext) n g5))f2 s2;exact k σ _ c1 f2 (s1.trans s2)
   .cases eq
  .cases eq
end
variable{x:Str}
section
variable{K:eh}
def Ua(K:eh):R2:=λx y H Q=>OQ K x y H Q\/Ub x y H Q
theorem Vs{X:Cx}:OpR X (binaryOp .Mult) (Ua X.K):=op_mul3.or Vt
theorem MS{k:Int}(h:Bw k=true/\x.length*k.toNat<=LIM/\k<=LIM/\x.length<=LIM):MulOk x k:=by
 clear 5(D7 h.1)g1 g2;have hL:LIM=100000:=rfl;refine⟨?_,λh1 _=>?_,λh1 _=>?_⟩
 .rw[Bool.or_eq_false_iff];exact⟨uk1 ∅,uk1 ∅⟩
 .have h2:k<=100000:=by have:=h.2.2.1;rw[hL] at this;exact this
  have h3:x.length<=100000:=by have:=h.2.2.2;rw[hL] at this;exact this
  have h4:(92233720368547:Int)<=(2 ^ 63-1)/k:=by
   rw[fk ∅];lia
  lia
 .have h5:=h.2.1;rw[hL] at h5;unfold Builtin.Str.tooLong
  first|exact uk1 (by unfold sizeLine;lia)|(unfold sizeLine;exact uk1 ∅)
set_option tactic.hygienic true in
theorem Tj:A5 K (Ua K) Dg:=λ{Oo c t σ H x y dx dy r t' Q} f rx ry eq k=>by
 unfold Dg at eq
 split at eq
 .next z kk=>
  split at eq
  .next h=>
   cases eq
   cases rx
   cases ry
   exact .inr ⟨z,kk,rfl,rfl,MS h,k _ H c f .refl (.str _)⟩
  .cases eq
 .exact .inl (V4 f rx ry eq k)
def Yu(K:eh):V->Option Int->Option Int->Hp->VK->Prop:=SV K
theorem sl3{X:Cx}:SlR X (Yu X.K):=sl2
theorem V9:Rk K (Yu K) En:=YG
theorem HM{g:Int->Int->Bool}{h:List Nat->List Nat->Bool}:A5 K (Gz g h) (Lx g h):=λ{Oo c t σ H x y dx dy r t' Q} f rx ry eq k=>by
 cases rx with
 |int i=>cases ry with
   |int j=>cases eq;exact .inl ⟨i,j,rfl,rfl,k _ H c f .refl (.bl _)⟩
   |_=>cases eq
 |str i=>cases ry with
   |str j=>cases eq;exact .inr ⟨i,j,rfl,rfl,k _ H c f .refl (.bl _)⟩
   |_=>cases eq
 |_=>cases eq
theorem V1:A5 K (Gz (λi j=>decide (i<j)) λi j=>decide (i<j)) ltA:=HM
theorem F9:A5 K (Gz (λi j=>decide (i<=j)) λi j=>!(decide (j<i))) leA:=HM
theorem NQ:A5 K (Gz (λi j=>decide (j<i)) λi j=>decide (j<i)) gtA:=HM
theorem NO:A5 K (Gz (λi j=>decide (j<=i)) λi j=>!(decide (i<j))) geA:=HM
end
variable{fa:eR}{fd:eV}
theorem Xn{P:eT}{w:eU}{mg:Str->Option eo}{base:Heap}{qual:Str}{st:Stmt}{N ps:List Str}{k m:Nat}{g:M Out}(e1:ps.length=n)(e2:N.length=m)(F:Fun K x qual st fa fd)(S:FnScope N ps (Ap st))
 (hb:∀(cdv:eo) (A:Around) (outer:List Env) (s:eS) (H:Hp) (E:XK),Room k (A.deeper (PyProof.Rows.envOfC qual (Ap st) s.heap.objs.size fa cdv))->
   PSs (Dy CX0 P w K mg base N qual (Ap st) fa cdv A outer s H E).nox (Bp st) (RS K g)):FnOk P w K mg base CX0 (k+1) fa fd ps (spF K (fnOf n m g)):=by
 subst e1 e2;exact Zl F S hb
theorem YB{P:eT}{w:eU}{mg:Str->Option eo}{base:Heap}{ps:List Str}{k:Nat}{f g:Fn}(e:f=g)(h:FnOk P w K mg base CX0 k fa fd ps (spF K g)):FnOk P w K mg base CX0 k fa fd ps (spF K f):=by rw[e];exact h
theorem WT:bootBuiltins "len" = some (.builtin "len"):=by decide +kernel
theorem CP:bootBuiltins "isinstance" = some (.builtin "isinstance"):=by decide +kernel
theorem WV:bootBuiltins "ord" = some (.builtin "ord"):=by decide +kernel
theorem WU:bootBuiltins "min" = some (.builtin "min"):=by decide +kernel
theorem WS:bootBuiltins "int" = some (.type "int"):=by decide +kernel
theorem WW:bootBuiltins "str" = some (.type "str"):=by decide +kernel
theorem Up:bootBuiltins "bool" = some (.type "bool"):=by decide +kernel
theorem M0:bootBuiltins "list" = some (.type "list"):=by decide +kernel
theorem Lk:bootBuiltins "tuple" = some (.type "tuple"):=by decide +kernel
noncomputable def A4:Expr->Bool
 |.Starred _ _=>true
 |_=>false
theorem AJ{e:Expr}{env:Env}(h:A4 e=false):starEach (e::es) env=(false,eval e env)::starEach es env:=by
 cases e<;>first|rfl|cases h
def A9(es:List Expr):Bool:=es.all λe=>!A4 e
theorem AL:∀{es:List Expr}{env:Env}{p:Pos},A9 es=true->(backTo p (starEach es env)).any (·.1)=false/\(backTo p (starEach es env)).all (λx=>!x.1)=true
 |[],env,p,_=>⟨rfl,rfl⟩
 |e::es,env,p,h=>by
   have h':A4 e=false/\A9 es=true:=by
    rw[A9,ul1,uh3] at h;exact⟨by simpa using h.1,h.2⟩
   clear 5(AL (es:=es) (env:=env) (p:=p) h'.2)h1 h2;rw[AJ h'.1];refine⟨?_,?_⟩
   .show(false||(backTo p (starEach es env)).any (·.1))=false;rw[h1];rfl
   .show(!false&&(backTo p (starEach es env)).all (λx=>!x.1))=true;rw[h2];rfl
variable{f:M (List D)}{p:Pos}{id:String}{R:List V->Hp->VK->Prop}
section
variable{X:Cx}{e a b:Expr}{es:List Expr}{pos:Pos}
theorem RK{f:M D}{g:M (List D)}(ha:PE X e (RE X.K f))(hr:PA X es (RA X.K g))(hs:autoParam (A4 e=false) q3T):PA X (e::es) (RA X.K (Aa f g)):=Uz ha hr (AJ hs)
theorem RL{k:Nat}{ps:List Str}{g:Fn}(F:FnOk X.prog X.w X.K X.mg X.base CX0 k fa fd ps (spF X.K g))(hr:Room k X.A)(hg:Gl X x)(hm:X.mg x=some (.ref fa))(hk:PySem.W.keepIn X.K (.ref fa)=true)(hb:Binds X.K fd ps [])
 (ha:PA X (e::es) (RA X.K f)) (hdb:autoParam ((x==("__debug__":Str))=false) q1T) (h1:autoParam (A4 e=false) q3T) (h2:autoParam (A9 es=true) q3T) :
 PE X (.Call (.Name x p) (e::es) [] pos) (RE X.K (Ah g f)):=UB F hr hg hm hk hb ha hdb (AJ h1) (AL h2).1
theorem IU{h:List D->M D}(hc:B4 X (.builtin id) R)(s:Eu X.K R h)(hg:Gl X x)(hm:X.mg x=none)(hv:bootBuiltins x=some (.builtin id))(ha:PA X (e::es) (RA X.K f))(hn:autoParam (x≠"__name__") q1T)(hdb:autoParam ((x==("__debug__":Str))=false) q1T)
 (h1:autoParam (A4 e=false) q3T) (h2:autoParam (A9 es=true) q3T):PE X (.Call (.Name x p) (e::es) [] pos) (RE X.K (fB f h)):=bc hc s hg hm hv ha hn hdb (AJ h1) (AL h2).1
theorem TU{h:List D->M D}(hc:B4 X (.type id) R)(s:Eu X.K R h)(hg:Gl X x)(hm:X.mg x=none)(hv:bootBuiltins x=some (.type id))(ha:PA X (e::es) (RA X.K f))(hn:autoParam (x≠"__name__") q1T)(hdb:autoParam ((x==("__debug__":Str))=false) q1T)
 (h1:autoParam (A4 e=false) q3T) (h2:autoParam (A9 es=true) q3T):PE X (.Call (.Name x p) (e::es) [] pos) (RE X.K (fB f h)):=bf hc s hg hm hv ha hn hdb (AJ h1) (AL h2).1
theorem Zh{h:List D->M (List D)}(hc:B4 X (.type id) R)(s:KR X.K R h)(hg:Gl X x)(hm:X.mg x=none)(hv:bootBuiltins x=some (.type id))(ha:PA X (e::es) (RA X.K f))(hn:autoParam (x≠"__name__") q1T)(hdb:autoParam ((x==("__debug__":Str))=false) q1T)
 (h1:autoParam (A4 e=false) q3T) (h2:autoParam (A9 es=true) q3T):PE X (.Call (.Name x p) (e::es) [] pos) (RF X.K (fBF f h)):=bg hc s hg hm hv ha hn hdb (AJ h1) (AL h2).1
theorem Oi(hg:Gl X "range")(hm:X.mg "range" = none)(ha:PA X [a] (RA X.K f))(h1:autoParam (A4 a=false) q3T):PI X tg (.Call (.Name "range" p) [a] [] pos) (RI X.K (Bs f)):=PL hg hm ha (AJ h1)
theorem Oj(hg:Gl X "range")(hm:X.mg "range" = none)(ha:PA X [a,b] (RA X.K f))(h1:autoParam (A4 a=false) q3T)(h2:autoParam (A4 b=false) q3T):PI X tg (.Call (.Name "range" p) [a,b] [] pos) (RI X.K (Gm f)):=
 PN hg hm ha (by rw[AJ h1,AJ h2];rfl) (AJ h2)
theorem Xh{cpos:Pos}(h1:A4 e=false)(h2:A9 es=true)(h3:es.length<20):((backTo cpos (starEach (e::es) X.env)).all (λx=>!x.1)&&(backToKw cpos (keywordEach [] X.env)).all (λx=>x.1.isSome)&&decide ((e::es).length+([]:List Keyword).length+(if ([]:List Keyword).isEmpty then 0 else 1)<30))=true:=by
 rw[(AL (es:=e::es) (env:=X.env) (p:=cpos) (by rw[A9,ul1,h1];exact h2)).2];show(true&&true&&decide (es.length+1+0+0<30))=true;simp;lia
theorem On{μ:Cf->Hp->D->(V->Hp->Prop)->Prop}(i:Nat){x:Str}{g:M (List D)}{px apos cpos:Pos}(ha:PA X (e::es) (RA X.K g))(hN:autoParam (X.N[i]?=some x) q3T)(hv:autoParam (Vis X.env.scope x) q0T)(hd:autoParam ((x==("__debug__":Str))=false) q1T)
 (hcd:autoParam ((x==("__classdict__":Str))=false) q1T) (hline:autoParam ((apos.endLine==cpos.line)=true) q3T) (h1:autoParam (A4 e=false) q3T) (h2:autoParam (A9 es=true) q3T) (h3:autoParam (es.length<20) q1T) :
 PS X (.Expr (.Call (.Attribute (.Name x px) "append" apos) (e::es) [] cpos) pos) (RSg X.K μ (ownM i BN g)):=PP i ha hN hv hd hcd rfl (Xh h1 h2 h3) hline (AJ h1) (AL h2).1
end
end
end L2
namespace HT
open PySem PySem.Spec L2 PyProof.Rows
section
variable{prog:eT}{w:eU}{A:Around}{E:eo->eS->Prop}{s:eS}
end
end HT
namespace L2
open PySem PySem.Spec PyProof.Rows
section
variable{X:Cx}{e ek:Expr}{p2 pos:Pos}{te:TE}{tk:TO}
end
section
variable{X:Cx}
theorem GO:∀{ys:List Str}{us:List eo},Vals (ys.map V.str) us->CarriedAll us (ys.map PyData.str)
 |[],_,r=>by cases r;exact .nil
 |_::_,_,r=>by
   cases r with
   |cons r1 r2=>clear 5 r1 t rfl;exact .cons (.str _ _) (GO r2)
def T9(K:eh):V->List V->Hp->VK->Prop:=λx xs H Q=>∃z a ys,x=.str z/\xs=[.ref a]/\SqL K H a (ys.map V.str)/\(∀y∈ys,y.length<=8)/\z.length<=8/\ys.length<=1048576/\Q (.str (Txt.join z ys)) H
theorem Vi:MtR X "str.join" (T9 X.K):=by
 intro ei s σ H x xs v us Q I rx rs h;clear 5 h z a ys rfl rfl ha h1 h2 h3 q;clear 5 rx t rfl;clear 5(FO rs)u rfl ru
 cases ru
 obtain⟨its,r,pl,_⟩:=I.list ha;refine join_madeW (l:=ys) (g:=id) 8 pl.isList (by rw[List.map_id];exact GO r) h1 h3 ∅ λt' k=>?_;rw[List.map_id];exact⟨.str _,H,I.tok _,⟨_,rfl⟩,q⟩
end
section
variable{X:Cx}
end
section
variable{X:Cx}
end
section
variable{X:Cx}{K:eh}
noncomputable def FA:List D->Option (List Str)
 |[]=>some []
 |.str x::r=>if x.length<=8 then(FA r).map (x :: ·) else none
 |_=>none
def joinM(f:M D)(g:M (List D)):M D:=bnd f λo=>bnd g λas=>match o,as with
 |.str z,[.lst ds]=>λt=>match FA ds with
   |some ys=>if z.length<=8/\ys.length<=1048576 then some (.str (Txt.join z ys),t) else none
   |none=>none
 |_,_=>fail
set_option tactic.hygienic true
theorem MD{c:Cf}{H:Hp}:∀{ds:List D}{vs:List V}{ys:List Str},Reps K c H vs ds->FA ds=some ys->vs=ys.map V.str/\∀y∈ys,y.length<=8
 |[],_,ys,r,e=>by
   cases r
   cases e
   exact⟨rfl,λ_ h=>nomatch h⟩
 |d::ds,_,ys,r,e=>by
   cases r with
   |cons r1 r2=>
     cases r1 with
     |str x=>
       unfold FA at e
       split at e
       .next hx=>
        clear 5(uc4.mp e)zs e1 rfl;clear 5(MD r2 e1)h1 h2;refine⟨by rw[h1];rfl,λy hy=>?_⟩;rcases uk8.mp hy with rfl|hy
        .exact hx
        .exact h2 y hy
       .cases e
     |_=>cases e
theorem RE.joinM{f:M D}{g:M (List D)}{σ:L2.St}{H:Hp}{Q:VK}(q:RE K (L2.joinM f g) σ H Q):tBM K "str" (T9 K) (RE K f) (RA K g) σ H Q:=by
 clear 5 q Oo c t fi r t' eq k;clear 5(Af eq)d t1 e1 eq;clear 5(Af eq)as t2 e2 eq;refine⟨Oo,c,t,fi,d,t1,e1,λv H1 c1 f1 s1 rv=>?_⟩
 split at eq
 .next z ds=>
  cases rv
  refine⟨rfl,Oo,c1,t1,f1,_,t2,e2,λus H2 c2 f2 s2 rus=>?_⟩;clear 5(E6 rus)w rfl rw'
  split at eq
  .next ys ey=>
   split at eq
   .next hz=>
    cases eq
    obtain⟨p,vs,rfl,h1,h2,h3⟩:=rw'.rv
    clear 5(MD h3 ey)h4 h5;subst h4;exact⟨_,p,ys,rfl,rfl,SqL.of h1,h5,hz.1,hz.2,k _ _ c2 f2 (s1.trans s2) (.str _)⟩
   .cases eq
  .cases eq
 .cases eq
set_option tactic.hygienic false
theorem UG{o e:Expr}{es:List Expr}{f:M D}{g:M (List D)}{apos cpos:Pos}(ho:PE X o (RE X.K f))(ha:PA X (e::es) (RA X.K g))
 (hbase:autoParam (attributeBase o "join" X.env (eval o X.env)=eval o X.env) q3T)
 (hfew:autoParam (((backTo cpos (starEach (e::es) X.env)).all (λx=>!x.1)&&(backToKw cpos (keywordEach [] X.env)).all (λx=>x.1.isSome)&&decide ((e::es).length+([]:List Keyword).length+(if ([]:List Keyword).isEmpty then 0 else 1)<30))=true) q3T)
 (hline:autoParam ((apos.endLine==cpos.line)=true) q3T) (hs:autoParam (starEach (e::es) X.env=(false,eval e X.env)::starEach es X.env) q3T) (hplain:autoParam ((backTo cpos (starEach es X.env)).any (·.1)=false) q3T) :
 PE X (.Call (.Attribute o "join" apos) (e::es) [] cpos) (RE X.K (joinM f g)):=
 AB (K2 PySem.F.plainAttrs_str PySem.F.slot_str_join PySem.F.type_str_join Vi ho ha hbase hfew hline hs hplain) λ_ _ _ q=>RE.joinM q
end
def QJ:R2:=λx y H Q=>∃a kvs k v,x=.ref a/\y=.str k/\H a=some (.dK kvs)/\Ep kvs (Sum.inr k:Key)=some v/\Q v H
def Yp:V->V->V->Hp->(Hp->Prop)->Prop:=λo i v H Q=>∃a kvs k,o=.ref a/\i=.str k/\H a=some (.dK kvs)/\kvs.length<sizeLine/\Q (upd H a (.dK (DG kvs (Sum.inr k:Key) v)))
section
variable{X:Cx}
theorem Xz:IxR X QJ:=by
 intro value slice ei s σ H x y v u Q I rx ry h hs;clear 5 h a kvs k z rfl rfl e l q
 cases rx
 obtain⟨_,_,vs,rel,dd⟩:=IQ I.hok e;have g:DGet H a (kV (Sum.inr k:Key)) (some z):=by rw[<-l];exact DGet.k e
 have hT:=dd.typeIs;unfold subscriptTail;refine un6 ?_;rw[getitemInPython_of_ne hT.not_modules];refine un6 (wpAny_specialOf hT PySem.F.slot_dict_getitem.lookup ?_);have get:wpAny (model X.prog X.w) X.A (getItem (.ref a) u) (EP X ei σ Q) X.xe s:=by
  clear 5(RelO.some_of (v:=z) (o:=valueAt vs (Sum.inr k:Key)) (by rw[<-l];exact rel.val _))w' hw rw';exact wpAny_getItem_of (Ou (k:=(Sum.inr k:Key)) ry) dd.mapOf hw ⟨z,H,I.tok _,rw',q⟩
 have fin:wpAny (model X.prog X.w) X.A (subscripted slice false (.ref a) u) (λr s₃=>wpAny (model X.prog X.w) X.A (letTemporaryGo value (.ref a) r >>= λ_=>pure r) (EP X ei σ Q) X.xe s₃) X.xe s:=by
  rw[hs];exact wpAny_operating (un8 get (λr s₃ h₃=>un6 (wpAny_letTemporaryGo (un7 h₃))) λ_ _ x=>x)
 first
  |exact un7 (un6 fin)
  |exact un6 (un7 (un6 fin))
  |exact un6 fin
theorem Wc:Rj X Yp:=by
 intro ei s σ H o i v ov iv u Q I ro ri rv h;clear 5 h a kvs k rfl rfl e l q
 cases ro
 clear 5(IQ I.hok e)z hd vs rel dd;have hz:vs.length<=sizeLine:=by rw[<-rel.length];exact z
 have hl:(DG kvs (Sum.inr k:Key) v).length<=sizeLine:=by have:=HW kvs (Sum.inr k:Key) v;lia
 refine wpAny_setItem_pairs (hsz:=hz) (Ou (k:=(Sum.inr k:Key)) ri) dd λh' dd' hs=>⟨_,?_,q⟩;have he:∃q,h'.get? a=some q:=let ⟨q,_,_,hq,_⟩:=dd';⟨q,hq⟩;exact M2 I (by rw[e];exact True.intro) hs he (Pw hl hd (rel.put _ rv) dd')
end
noncomputable def Bf(kvs:List (Key×D))(k:Key):Option D:=(kvs.find? λkv=>decide (kv.1=k)).map (·.2)
noncomputable def kvPut(kvs:List (Key×D))(k:Key)(d:D):List (Key×D):=
 if (kvs.any λkv=>decide (kv.1=k))=true then kvs.map (λkv=>if kv.1=k then(kv.1,d) else kv) else kvs++[(k,d)]
def AG:D->D->M D
 |.obj n,.str x=>λt=>match t.S[n]? with
   |some (.dct kvs)=>(Bf kvs (.inr x)).map λd=>(d,t)
   |_=>none
 |_,_=>fail
def Ga:D->D->D->M Unit
 |.obj n,.str x,d=>λt=>match t.S[n]? with
   |some (.dct kvs)=>if kvs.length<LIM then some ((),{t with S:=t.S.set n (.dct (kvPut kvs (.inr x) d))}) else none
   |_=>none
 |_,_,_=>fail
def Cm(f g:M D)(d:D):M Unit:=bnd f λo=>bnd g λi=>Ga o i d
def DJ:List (Str×M D)->M (List (Key×D))
 |[]=>ret []
 |(k,f)::r=>bnd f λd=>bnd (DJ r) λps=>ret ((.inr k,d)::ps)
def D3(ps:List (Key×D)):List (Key×D):=ps.foldl (λacc kv=>kvPut acc kv.1 kv.2) []
def E8(n:Nat)(ps:List (Key×D)):M D:=λt=>match t.S[n]? with
 |some (.dct [])=>if ps.length<=15 then some (.obj n,{t with S:=t.S.set n (.dct (D3 ps))}) else none
 |_=>none
def Dp(l:List (Str×M D)):M D:=λt=>bnd (DJ l) (E8 t.S.length) {t with S:=t.S++[.dct []]}
def EM(i:Nat)(g:M D):M D:=λt=>match t.env[i]? with
 | some (some (.own _))=>bnd g (λj t1=>match j,t1.env[i]? with
   |.int j,some (some (.own xs))=>(atI xs j).map λd=>(d,t1)
   |_,_=>none) t
 |_=>none
section
variable{K:eh}{c:Cf}{H:Hp}
theorem KVR.get{us:List (Key×V)}{kvs:List (Key×D)}(r:KVR K c H us kvs)(k:Key){d:D}(e:Bf kvs k=some d):∃v,Ep us k=some v/\Rep K c H v d:=by
 unfold KVR at r
 induction r with
 |nil=>simp[Bf] at e
 |@cons p q ps qs h t ih=>
   by_cases hk:p.1=k
   .have hq:q.1=k:=h.1.symm.trans hk;have:Bf (q::qs) k=some q.2:=by simp[Bf,uj4,hq]
    rw[this] at e;cases e
    exact⟨p.2,MK hk,h.2⟩
   .have hq:¬q.1=k:=λz=>hk (h.1.trans z);have:Bf (q::qs) k=Bf qs k:=by simp[Bf,uj4,hq]
    rw[this] at e;rw[MJ hk];exact ih e
theorem KVR.any{us:List (Key×V)}{kvs:List (Key×D)}(r:KVR K c H us kvs)(k:Key):(us.any λkv=>decide (kv.1=k))=(kvs.any λkv=>decide (kv.1=k)):=by
 unfold KVR at r
 induction r with
 |nil=>rfl
 |@cons p q ps qs h t ih=>rw[ul2,ul2,ih,h.1]
theorem KVR.put{us:List (Key×V)}{kvs:List (Key×D)}(r:KVR K c H us kvs)(k:Key){v:V}{d:D}(rv:Rep K c H v d):KVR K c H (DG us k v) (kvPut kvs k d):=by
 unfold DG kvPut;rw[r.any k]
 by_cases q:(kvs.any λkv=>decide (kv.1=k))=true
 .rw[gE q,gE q];clear q;unfold KVR at r⊢
  induction r with
  |nil=>exact .nil
  |@cons p q ps qs h t ih=>
    rw[uk9,uk9];refine .cons ?_ ih
    by_cases e:p.1=k
    .rw[gE e,gE (h.1.symm.trans e)];exact⟨h.1,rv⟩
    .rw[gG e,gG (λz=>e (h.1.trans z))];exact h
 .rw[gG q,gG q];exact Paired.snoc r ⟨rfl,rv⟩
theorem KVR.length{us:List (Key×V)}{kvs:List (Key×D)}(r:KVR K c H us kvs):us.length=kvs.length:=Paired.length r
theorem KVR.mono{c':Cf}{H':Hp}{us:List (Key×V)}{kvs:List (Key×D)}(e:Ext c H c' H')(r:KVR K c H us kvs):KVR K c' H' us kvs:=Paired.mapP r λ_ _ z=>⟨z.1,z.2.mono e⟩
theorem KVR.merge:∀{ps:List (Key×D)}{us:List (Key×V)}{acc:List (Key×D)}{ua:List (Key×V)},KVR K c H us ps->KVR K c H ua acc->KVR K c H (Fo ua us) (ps.foldl (λacc kv=>kvPut acc kv.1 kv.2) acc):=by
 intro ps us acc ua r;unfold KVR at r
 induction r generalizing acc ua with
 |nil=>intro q;exact q
 |@cons p q ps qs h t ih=>
   intro r0;refine ih ?_;show KVR K c H (DG ua p.1 p.2) (kvPut acc q.1 q.2);have:=KVR.put r0 p.1 h.2;rw[<-h.1];exact this
set_option tactic.hygienic true in
theorem QU:A5 K QJ AG:=λ{Oo c t σ H x y dx dy r t' Q} f rx ry eq k=>by
 unfold AG at eq
 split at eq
 .next n z=>
  cases ry
  obtain⟨a,rfl,hk⟩:=rx.rv
  split at eq
  .next kvs es=>
   clear 5(uc4.mp eq)d e1 e2
   cases e2
   clear 5(f.s.obs _ a _ hk es)us g1 g2;clear 5(g2.get _ e1)v e3 e4;exact⟨a,us,z,v,rfl,rfl,g1,e3,k _ H c f .refl e4⟩
  .cases eq
 .cases eq
end
section
variable{X:Cx}{pos:Pos}{e:Expr}
set_option tactic.hygienic true in
theorem PJ{o i:Expr}{f g:M D}(ho:PE X o (RE X.K f))(hi:PE X i (RE X.K g))
 (ha:∀v,assign (.Subscript o i pos) X.env v=(do
   let ov <-holding [v] (eval o X.env)
   let iv <-holding [v,ov] (eval i X.env)
   standAt pos
   holding [v,ov,iv] (setItem ov iv v)
   release [v,ov,iv] []):=by intro _;rfl):PG X (.Subscript o i pos) (RG X.K (Cm f g)):=
 GI (Mi ho hi Wc ha) λv σ H Q z9=>by
  clear 5 z9 Oo c t d fi rv t' eq k;clear 5(Af eq)d0 t1 e1 eq;clear 5(Af eq)di t2 e2 eq;refine⟨Oo,c,t,fi,_,t1,e1,λx H1 c1 f1 s1 rx=>⟨Oo,c1,t1,f1,di,t2,e2,λy H2 c2 f2 s2 ry=>?_⟩⟩;unfold Ga at eq
  split at eq
  .next n z dd=>
   cases ry
   obtain⟨a,rfl,hk⟩:=rx.rv
   split at eq
   .next kvs es=>
    split at eq
    .next hl=>
     cases eq
     have hk2:=s2.ext.io _ _ hk;clear 5(f2.s.obs _ a _ hk2 es)us g1 g2;refine⟨a,us,z,rfl,rfl,g1,by rw[g2.length];exact Nat.lt_trans hl WI,?_⟩;have rv2:=rv.mono (s1.trans s2).ext;obtain⟨f3,s3⟩:=f2.wrObj (o:=.dct (kvPut kvs (.inr z) d)) (u:=.dK (DG us (.inr z) v)) hk2 λc' H' ext hu=>⟨_,hu,(g2.put _ rv2).mono ext⟩;exact k σ _ c2 f3 ((s1.trans s2).trans s3)
    .cases eq
   .cases eq
  .cases eq
def RP(K:eh)(f:M (List (Key×D)))(σ:St)(H:Hp)(Q:List (V×V)->Hp->Prop):Prop:=
 ∃Oo c t,FInv K Oo c t σ H/\∃ps t',f t=some (ps,t')/\∀us H' c',FInv K Oo c' t' σ H'->Stp Oo c H c' H'->KVR K c' H' us ps->Q (us.map λkv=>(kV kv.1,kv.2)) H'
def PPf(X:Cx)(pos:Pos)(keys:List (Option Expr))(values:List Expr)(f:M (List (Key×D))):Prop:=
 ∃trs,PPs X pos keys values trs/\∀σ H Q,RP X.K f σ H Q->Jt trs σ H Q
theorem UQ:PPf X pos [] [] (DJ []):=⟨[],VM,λσ H Q z9=>by
 clear 5 z9 Oo c t fi ps t' eq k
 cases eq
 exact k [] H c fi .refl .nil⟩
theorem R7{k:Str}{j:Nat}{kp:Pos}{v:Expr}{ks:List (Option Expr)}{vs:List Expr}{f:M D}{r:List (Str×M D)}(hv:PE X v (RE X.K f))(hr:PPf X pos ks vs (DJ r)) :
 PPf X pos (some (.Constant (.str k) j kp)::ks) (v::vs) (DJ ((k,f)::r)):=by
 clear 5 hr trs h1 h2;refine⟨_,SO Qz hv h1,λσ H Q z9=>?_⟩;clear 5 z9 Oo c t fi ps t' eq kk;clear 5(Af eq)d t1 e1 eq;clear 5(Af eq)qs t2 e2 eq
 cases eq
 refine⟨Oo,c,t,fi,d,t1,e1,λy H1 c1 f1 s1 ry=>?_⟩;refine h2 σ H1 _ ⟨Oo,c1,t1,f1,qs,_,e2,λus H2 c2 f2 s2 ru=>?_⟩;exact kk ((.inr k,y)::us) H2 c2 f2 (s1.trans s2) (.cons ⟨rfl,ry.mono s2.ext⟩ ru)
set_option tactic.hygienic true
theorem UC{keys:List (Option Expr)}{values:List Expr}{l:List (Str×M D)}(h:PPf X pos keys values (DJ l))(hall:autoParam (keys.all (·.isSome)=true) q3T)(hl:autoParam (keys.length=values.length) q3T)(h0:autoParam (keys≠[]) q5T)
 (h15:autoParam (keys.length<=15) q6T):PE X (.Dict keys values pos) (RE X.K (Dp l)):=by
 clear 5 h trs h1 h2;refine AB (VA h1 hall hl h0 h15) λσ H Q z9=>?_;clear 5 z9 Oo c t fi r t' eq k;intro p hp;obtain⟨c1,f1,s1,e1⟩:=fi.newObj (o:=.dct []) (u:=.dK []) hp λc' H' ex hu=>⟨[],hu,.nil⟩;clear 5(Af eq)ps t2 e2 eq;refine h2 σ _ _ ⟨Oo,c1,_,f1,ps,t2,e2,λus H2 c2 f2 s2 ru=>?_⟩;unfold E8 at eq
 split at eq
 .next es=>
  split at eq
  .next hl15=>
   cases eq
   have hk2:=s2.ext.io _ _ e1;clear 5(f2.s.obs _ p _ hk2 es)u0 g1 g2
   cases g2
   refine⟨g1,us,rfl,by rw[ru.length];exact hl15,?_⟩;obtain⟨f3,s3⟩:=f2.wrObj (o:=.dct (D3 ps)) (u:=.dK (Fo [] us)) hk2 λc' H' ext hu=>⟨_,hu,(KVR.merge ru .nil).mono ext⟩;exact k _ _ c2 f3 (s1.trans (s2.trans s3)) (.obj hk2)
  .cases eq
 .cases eq
theorem RV(i:Nat){x:Str}{ix:Expr}{g:M D}{px:Pos}(hi:PE X ix (RE X.K g))(hs:JA ix)(hN:autoParam (X.N[i]?=some x) q3T)(hv:autoParam (Vis X.env.scope x) q0T)(hd:autoParam ((x==("__debug__":Str))=false) q1T)
 (hcd:autoParam ((x==("__classdict__":Str))=false) q1T):PE X (.Subscript (.Name x px) ix pos) (RE X.K (EM i g)):=
 AB (T2 ix_list (CT hN hv hd hcd) hi hs) λσ H Q z9=>by
  clear 5 z9 Oo c t fi r t' eq k;unfold EM at eq
  split at eq
  .next xs0 e0=>
   clear 5(Af eq)j t1 e1 eq;clear 5(fi.own i xs0 e0)a vs0 h1 h2 h3 h4 h5;refine⟨.ref a,h1,Oo,c,t,fi,j,t1,e1,λy H1 c1 f1 s1 ry=>?_⟩
   split at eq
   .next j' xs ex=>
    clear 5(uc4.mp eq)d en ez
    cases ez
    cases ry
    clear 5(f1.own i xs ex)a' vs g1 g2 g3 g4 g5;rw[h1] at g1;injection g1 with g1;injection g1 with g1;injection g1 with g1;subst g1
    clear 5(Gf g5 en)v e3 e4;exact⟨a,vs,j',v,rfl,rfl,SqL.of g4,e3,k _ H1 c1 f1 s1 e4⟩
   .cases eq
  .cases eq
end
section
variable{X:Cx}
end
section
variable{X:Cx}{pos:Pos}{e:Expr}{es:List Expr}
end
section
variable{prog:eT}{w:eU}{A:Around}{I:eR}{fp wr:List eR}{G:Array GenState->Array GenState->Prop}{n:Nat}{P:Nat->eo->Prop}{St:Nat->eS->Prop}
end
section
variable{X:Cx}
end
section
variable{X:Cx}{pos:Pos}{e:Expr}
end
noncomputable def CU(f:M Bool)(b:M Out):Nat->M Out
 |0=>λ_=>none
 |n+1=>λt=>match f t with
   |none=>none
   |some (false,t1)=>some (.next,t1)
   |some (true,t1)=>match b t1 with
     |some (.next,t2)=>CU f b n t2
     |some (.cont,t2)=>CU f b n t2
     |some (.brk,t2)=>some (.next,t2)
     |some (.ret x,t2)=>some (.ret x,t2)
     |none=>none
def FG:Nat:=1000000
def FD(f:M Bool)(b:M Out):M Out:=CU f b FG
theorem RS.while{μ:Cf->Hp->D->(V->Hp->Prop)->Prop}{K:eh}{f:M Bool}{b:M Out}{E:Ends}{σ:L2.St}{H:Hp}(q:RSg K μ (FD f b) E σ H):Q3 (RT K f) (RSg K μ b) E σ H:=by
 clear 5 q Oo c t fi o t' eq k;refine⟨λm σ' H'=>∃c' t2,FInv K Oo c' t2 σ' H'/\Stp Oo c H c' H'/\CU f b m t2=some (o,t'),⟨FG,c,t,fi,.refl,eq⟩,?_⟩;rintro m σ' H' ⟨c',t2,f2,s2,e2⟩
 cases m with
 |zero=>cases e2
 |succ m=>
 rw[CU] at e2;dsimp only at e2
 cases ef:f t2 with
 |none=>rw[ef] at e2;cases e2
 |some p=>
 clear 5 p r t3;rw[ef] at e2;refine⟨Oo,c',t2,f2,r,t3,ef,λH3 c3 f3 s3=>?_⟩
 cases r with
 |false=>
   cases e2
   exact k σ' H3 c3 f3 (s2.trans s3)
 |true=>
   rw[gE rfl];dsimp only at e2;refine⟨λσ4 H4=>∃c4 t4,FInv K Oo c4 t4 σ4 H4/\Stp Oo c H c4 H4/\CU f b m t4=some (o,t'),λσ4 H4 h=>⟨m,uh0 m,h⟩,?_⟩
   cases eb:b t3 with
   |none=>rw[eb] at e2;cases e2
   |some p=>
   clear 5 p ob t4;rw[eb] at e2;refine⟨Oo,c3,t3,f3,ob,t4,eb,λσ4 H4 c4 f4 s4=>?_⟩
   cases ob with
   |next=>exact⟨c4,t4,f4,(s2.trans s3).trans s4,e2⟩
   |cont=>exact⟨c4,t4,f4,(s2.trans s3).trans s4,e2⟩
   |brk=>
     cases e2
     exact k σ4 H4 c4 f4 ((s2.trans s3).trans s4)
   |ret x=>
     cases e2
     exact k σ4 H4 c4 f4 ((s2.trans s3).trans s4)
section
variable{X:Cx}{pos:Pos}
theorem LK{μ:Cf->Hp->D->(V->Hp->Prop)->Prop}{e:Expr}{body:List Stmt}{f:M Bool}{b:M Out}(hp:PassesOwn (model X.prog X.w) X.A X.env X.xe)(hc:PT X e (RT X.K f))(hb:PSs X body (RSg X.K μ b)):PS X (.While e body [] pos) (RSg X.K μ (FD f b)):=
 Bh (SQ hp hc hb) λ_ _ _ q=>RS.while q
end
section
variable{X:Cx}{tg:Expr}
end
section
variable{X:Cx}{pos:Pos}{e:Expr}{es:List Expr}
end
section
variable{K:eh}{Oo:eR->Prop}{c:Cf}{t:T}{σ:L2.St}{H:Hp}
end
section
variable{X:Cx}{pos:Pos}{e:Expr}{es:List Expr}
inductive spFF(K:eh)(f:Fn)(vs:List V)(H:Hp)(Q:VK)(E:XK):Prop where
 |mk (c:Cf) (ds:List D) (S:List Ob) (si:SInv K c S H) (rp:Reps K c H vs ds) (rs:List D) (S':List Ob) (e:f ds S=some (.lst rs,S')) (k:∀p us H' c',SInv K c' S' H'->Stp c.O c H c' H'->(∀b,c'.O b↔c.O b)->Reps K c' H' us rs->H' p=none->Q (.ref p) (upd H' p (.lst us))):spFF K f vs H Q E
abbrev spB(b:Bool)(K:eh)(f:Fn):Sp:=match b with
 |true=>spFF K f
 |false=>spF K f
end
section
variable{X:Cx}
theorem Vx{o:Expr}{to:TE}{apos cpos:Pos}(ho:PE X o to)(hbase:autoParam (attributeBase o "bit_length" X.env (eval o X.env)=eval o X.env) q3T)(hline:autoParam ((apos.endLine==cpos.line)=true) q3T) :
 PE X (.Call (.Attribute o "bit_length" apos) [] [] cpos) (λσ H Q=>to σ H λv H1=>∃i,v=.int i/\Q (.int (Builtin.Int.intBits i:Nat)) H1):=by
 intro ei s σ H Q I h;refine Call_method0 hbase hline (thn (ho ei s σ H _ I h) λu s1 z9=>?_);clear 5 z9 v H1 I1 rv i ex q;subst ex;clear 5 rv t rfl;exact⟨"int", "int.bit_length",PySem.F.plainAttrs_int,ua4,PySem.F.type_int_bit_length,gn _ _ _,(λ_ e=>nomatch e),
  method0_gives ua4 PySem.F.entry_int_bit_length (gn _ _ _) (PySem.F.args_int_bit_length_1 _) (PySem.AutoIntG2.int_bit_length_int_0 i t) ⟨.int (Builtin.Int.intBits i:Nat),H1,I1.tok _,⟨_,rfl⟩,q⟩⟩
end
def IG:D->M D
 |.int i=>ret (.int (Builtin.Int.intBits i:Nat))
 |_=>fail
section
variable{X:Cx}{pos:Pos}{e:Expr}{es:List Expr}
set_option tactic.hygienic true in
theorem PC{o:Expr}{f:M D}{apos cpos:Pos}(ho:PE X o (RE X.K f))(hbase:autoParam (attributeBase o "bit_length" X.env (eval o X.env)=eval o X.env) q3T)(hline:autoParam ((apos.endLine==cpos.line)=true) q3T) :
 PE X (.Call (.Attribute o "bit_length" apos) [] [] cpos) (RE X.K (fUn f IG)):=
 AB (Vx ho hbase hline) λσ H Q z9=>by
  clear 5 z9 Oo c t fi r t' eq k;clear 5(Af eq)d t1 e1 eq;refine⟨Oo,c,t,fi,d,t1,e1,λx H1 c1 f1 s1 rx=>?_⟩;unfold IG at eq
  split at eq
  .next i=>
   cases eq
   cases rx
   exact⟨i,rfl,k _ H1 c1 f1 s1 (.int _)⟩
  .cases eq
end
section
variable{X:Cx}{b elt:Expr}{pos:Pos}
end
structure ItOk2(K:eh)(J:It)(c:Cf)(H:Hp)(ds:List D):Prop where
 go:∀c' H' (i:Nat),Ext c H c' H'->i<ds.length->J.go i H'
 yld:∀c' H' (i:Nat) x H'' d,Ext c H c' H'->ds[i]?=some d->J.yld i H' x H''->∃p vs es,x=.ref p/\H' p=none/\H''=upd H' p (.tup vs)/\d=.tup es/\Reps K c' H' vs es
 stop:∀c' H',Ext c H c' H'->J.stop ds.length H'
inductive RI2(K:eh)(f:M (List D))(σ:L2.St)(H:Hp)(R:It->Hp->Prop):Prop where
 |mk (Oo:eR->Prop) (c:Cf) (t:T) (fi:FInv K Oo c t σ H) (ds:List D) (t':T) (e:f t=some (ds,t')) (k:∀J H' c',FInv K Oo c' t' σ H'->Stp Oo c H c' H'->ItOk2 K J c' H' ds->R J H'):RI2 K f σ H R
section
variable{X:Cx}{pos:Pos}{e:Expr}
end
def Ip:D->D->M (List D)
 |.lst xs,.int k=>λt=>if Bw k=true/\xs.length*k.toNat<=LIM then some ((List.replicate k.toNat xs).flatten,t) else none
 |_,_=>fail
set_option tactic.hygienic true in
theorem Tl{K:eh}:KQ K SU Ip:=λ{Oo c t σ H x y dx dy r t' Q} f rx ry eq k=>by
 cases rx with
 |@lst a vs ds h1 h2 h3=>
   cases ry with
   |int j=>
     unfold Ip at eq;dsimp only at eq
     split at eq
     .next h=>
      cases eq
      clear 5(D7 h.1)g1 g2;exact⟨a,j,vs,rfl,rfl,h1,by lia,by lia,by rw[h3.length];exact um0 h.2 CO,λp hp=>k p _ H c f .refl (h3.rep _) hp⟩
     .cases eq
   |_=>cases eq
 |_=>cases eq
section
variable{X:Cx}
end
section
variable{X:Cx}{pos:Pos}{e:Expr}{es:List Expr}
end
section
variable{X:Cx}{e ek:Expr}{p2 pos:Pos}{te:TE}{tk:TO}
end
section
variable{X:Cx}
end
section
variable{X:Cx}
end
section
variable{X:Cx}{pos:Pos}
end
theorem KM{x y:Int}(h0:0<y)(h1:y<18446744073709551616):Builtin.divisionGoesByPylong x y=false:=by
 unfold Builtin.divisionGoesByPylong;have hl:y.natAbs.log2<64:=(Nat.log2_lt ∅).mpr (by show y.natAbs<2 ^ 64;lia);have e:(y==0)=false:=by rw[fE];lia
 simp only[e,ue9,gw];rw[Bool.and_eq_false_iff];left;rw[decide_eq_false_iff_not];lia
def TF(i j:Int):Prop:=0<j/\j<18446744073709551616
section
variable{X:Cx}
set_option tactic.hygienic true in
theorem Kl{i:Int}(h:i.natAbs<2 ^ 512):Builtin.Int.intBits i<=2 ^ 20:=by
 unfold Builtin.Int.intBits
 split
 .exact un3 _
 .next z=>
  have hz:i.natAbs≠0:=by
   intro e;have:i=0:=by lia
   subst this;exact z rfl
  have:=(Nat.log2_lt hz).mpr h;lia
def TH(i j:Int):Prop:=i.natAbs<2 ^ 512/\j.natAbs<2 ^ 512
theorem Vu:OpR X (binaryOp .Mult) (rI TH λi j=>.int (i*j)):=opI λ_ _ _ _ _ _ _ hc q=>mul_int q (IntMulOk.of_bits (Kl hc.1) (Kl hc.2))
theorem SD:OpR X (binaryOp .FloorDiv) (rI TF λi j=>.int (i/j)):=opI λi j _ _ _ _ _ hc q=>by
 have h1:(0:Int)<j:=hc.1;exact floordiv_int ∅ (by rw[ua5 i ∅];exact q) (.inl (KM hc.1 hc.2))
end
noncomputable def LA(i j:Int):Bool:=decide (0<j)&&decide (j<18446744073709551616)
def Hz:=i2C LA λi j=>.int (i/j)
theorem QV{K:eh}:A5 K (rI TF λi j=>.int (i/j)) Hz:=Fa (λi j h=>by
 unfold LA at h;rw[uh3,ug6,ug6] at h;exact h) λ_ _ _ _=>.int _
noncomputable def LY(i j:Int):Bool:=decide (i.natAbs<2 ^ 512)&&decide (j.natAbs<2 ^ 512)
def Ik:=i2C LY λi j=>.int (i*j)
theorem Tk{K:eh}:A5 K (rI TH λi j=>.int (i*j)) Ik:=Fa (λi j h=>by
 unfold LY at h;rw[uh3] at h;exact⟨ug7 h.1,ug7 h.2⟩) λ_ _ _ _=>.int _
section
variable{X:Cx}
end
section
variable{X:Cx}
def LO(y:V)(xs:List V):Option Nat:=xs.findIdx? λz=>eqV z y
theorem Nw{x:V}:∀{xs:List V}{us:List eo},Vals xs us->xs.all DN=true->us.map (eqU x)=xs.map λy=>eqV y x
 |_,_,.nil,_=>rfl
 |y::xs,u::us,.cons r t,f=>by
   rw[ul1,uh3] at f;rw[uk9,uk9,LD r f.1,Nw t f.2]
def Yq(K:eh):V->List V->Hp->VK->Prop:=λx vs H Q=>∃p xs y j,x=.ref p/\vs=[y]/\SqL K H p xs/\DN y=true/\xs.all DN=true/\LO y xs=some j/\Q (.int (j:Nat)) H
theorem XT:MtR X "list.index" (Yq X.K):=by
 intro ei s σ H x vs v us Q I rx rv h;clear 5 h p xs y j rfl rfl hq fy fs hj q
 cases rx
 clear 5(FO rv)u rfl ru;clear 5(I.list hq)its r pl hz;obtain⟨⟨cl1,dd,dt1,sl⟩,ho,h1,n,h2⟩:=pl.isList;simp only at h1 h2;subst h1 h2;clear 5(ua0.mp hj)jl jt jn;have hl:=r.length;have hm:=Nw (x:=y) r fs;have at_:∀m (h1:m<its.length) (h2:m<xs.length),eqU y its[m]=eqV xs[m] y:=λm h1 h2=>by
  have e1:(its.map (eqU y))[m]?=some (eqU y its[m]):=by rw[uf8,ub4 h1];rfl
  have e2:(xs.map λz=>eqV z y)[m]?=some (eqV xs[m] y):=by rw[uf8,ub4 h2];rfl
  rw[hm,e2] at e1;exact(ui5 e1).symm
 have hs:its.toArray.size=its.length:=by simp
 refine gp fj ⟨_,ho,rfl⟩ PySem.F.entry_list_index (PySem.F.args_list_index_2 _ _) (SeqAt.list_indexAt p its.toArray n dd sl u (eqU y) j ∅ ?_ ?_ ?_) ⟨ho,λw hw=>Gv ru fy r fs w (by simpa using hw),⟨.int (j:Nat),H,I.tok _,⟨_,rfl⟩,q⟩⟩
 .have:sizeLine<2 ^ 62:=by decide
  lia
 .rw[List.getElem_toArray,at_ j ∅ jl];exact jt
 .intro m hm' hlt;rw[List.getElem_toArray,at_ m ∅ ∅];simpa using jn m hlt
end
section
variable{X:Cx}
end
def idxM(f:M D)(g:M (List D)):M D:=bnd f λo=>bnd g λas=>match o,as with
 | .lst ds,[y]=>λt=>if Ds y=true/\ds.all Ds=true then (match LO (toV y) (ds.map toV) with
   |some j=>some (.int (j:Nat),t)
   |none=>none) else none
 |_,_=>fail
set_option tactic.hygienic true in
theorem RE.idxM{K:eh}{f:M D}{g:M (List D)}{σ:L2.St}{H:Hp}{Q:VK}(q:RE K (L2.idxM f g) σ H Q):tBM K "list" (Yq K) (RE K f) (RA K g) σ H Q:=by
 clear 5 q Oo c t fi r t' eq k;clear 5(Af eq)d t1 e1 eq;clear 5(Af eq)as t2 e2 eq;refine⟨Oo,c,t,fi,d,t1,e1,λv H1 c1 f1 s1 rv=>?_⟩
 split at eq
 .next ds y=>
  obtain⟨p,vs,rfl,h1,h2,h3⟩:=rv.rv
  refine⟨.inl ⟨rfl,vs,SqL.of h1⟩,Oo,c1,t1,f1,_,t2,e2,λus H2 c2 f2 s2 rus=>?_⟩;clear 5(E6 rus)w rfl rw';have rv2:=(Rep.lst h1 h2 h3).mono s2.ext
  obtain⟨_,ws,zz,h1,h2,h3⟩:=rv2.rv;cases zz
  split at eq
  .next hf=>
   split at eq
   .next j ej=>
    cases eq
    refine⟨p,ws,w,j,rfl,rfl,SqL.of h1,?_,?_,?_,k _ _ c2 f2 (s1.trans s2) (.int _)⟩
    .rw[EF rw' hf.1];exact Ey _
    .rw[DX h3 hf.2,um5,uh7];exact λd _=>Ey d
    .rw[EF rw' hf.1,DX h3 hf.2];exact ej
   .cases eq
  .cases eq
 .cases eq
section
variable{X:Cx}{pos:Pos}{e:Expr}{es:List Expr}
theorem RU{o e:Expr}{es:List Expr}{f:M D}{g:M (List D)}{apos cpos:Pos}(ho:PE X o (RE X.K f))(ha:PA X (e::es) (RA X.K g))
 (hbase:autoParam (attributeBase o "index" X.env (eval o X.env)=eval o X.env) q3T)
 (hfew:autoParam (((backTo cpos (starEach (e::es) X.env)).all (λx=>!x.1)&&(backToKw cpos (keywordEach [] X.env)).all (λx=>x.1.isSome)&&decide ((e::es).length+([]:List Keyword).length+(if ([]:List Keyword).isEmpty then 0 else 1)<30))=true) q3T)
 (hline:autoParam ((apos.endLine==cpos.line)=true) q3T) (hs:autoParam (starEach (e::es) X.env=(false,eval e X.env)::starEach es X.env) q3T) (hplain:autoParam ((backTo cpos (starEach es X.env)).any (·.1)=false) q3T) :
 PE X (.Call (.Attribute o "index" apos) (e::es) [] cpos) (RE X.K (L2.idxM f g)):=
 AB (K2 ub7 fj PySem.F.type_list_index XT ho ha hbase hfew hline hs hplain) λ_ _ _ q=>RE.idxM q
end
section
variable{X:Cx}
end
def Hy:List (Int×M D)->M (List (Key×D))
 |[]=>ret []
 |(k,f)::r=>bnd f λd=>bnd (Hy r) λps=>ret ((.inl k,d)::ps)
def Fh(l:List (Int×M D)):M D:=λt=>bnd (Hy l) (E8 t.S.length) {t with S:=t.S++[.dct []]}
section
variable{K:eh}{c:Cf}{H:Hp}
end
section
variable{X:Cx}{pos:Pos}{e b:Expr}
theorem PD:PE X (.Dict [] [] pos) (RE X.K (Fh [])):=
 AB SJ λσ H Q z9=>by
  clear 5 z9 Oo c t fi r t' eq k;intro p hp;obtain⟨c1,f1,s1,e1⟩:=fi.newObj (o:=.dct []) (u:=.dK []) hp λc' H' ex hu=>⟨[],hu,.nil⟩;have e2:Fh [] t=some (.obj t.S.length,{t with S:=t.S++[.dct []]}):=by
   simp[Fh,Hy,bnd,L2.ret,E8,D3]
  rw[e2] at eq
  cases eq
  exact k _ _ c1 f1 s1 (.obj e1)
end
noncomputable def tb(led:Bool)(pl:List Nat):SetTable:={mask:=7,place:=pl.toArray,dummies:=#[],finger:=0,led:=led,moves:=0,plain:=true}
noncomputable def pls:Nat->List (List Nat)
 |0=>[[]]
 |k+1=>(pls k).flatMap λl=>(List.range 8).filterMap λj=>if l.all (· < j) then some (l++[j]) else none
section
variable{P:eT}{w:eU}{A:Around}{E:eo->eS->Prop}{s:eS}
end
section
variable{P:eT}{w:eU}{A:Around}{I:eR}{fp wr:List eR}{G:Array GenState->Array GenState->Prop}{n:Nat}{Pr:Nat->eo->Prop}{St:Nat->eS->Prop}
end
section
variable{P:eT}{w:eU}{A:Around}{E:eo->eS->Prop}{s:eS}
end
section
variable{prog:eT}{w:eU}{A:Around}
end
section
variable{X:Cx}
end
section
variable{X:Cx}{pos:Pos}{e:Expr}
end
section
variable{P:eT}{w:eU}{A:Around}{E:eo->eS->Prop}{s:eS}
structure ZT(h:Heap)(z TI TO i1 i2 t1 t2:eR)(n:Nat):Prop where
 zz:IsZip h z TI TO .none
 ti:IsPair h TI (.ref i1) (.ref i2)
 ot:∃a b,IsPair h TO a b
 p1:h.IsTupleIter i1 t1 n
 p2:h.IsTupleIter i2 t2 n
end
section
variable{P:eT}{w:eU}{A:Around}{E:eo->eS->Prop}{s:eS}
end
section
variable{X:Cx}{e a b tg iter elt:Expr}{ifs:List Expr}{pos:Pos}{scope:Scope}{N':List Str}{n:Nat}{fr:List Nat}{f:M (List D)}{st:D->M Unit}{tst:M Bool}{el:M D}
end
def FR:List D->M D
 |[.obj k,.ty m]=>λt=>match t.S[k]? with
   |some (.lst _)=>(C1 "list" m).map λb=>(.bl b,t)
   |_=>none
 |ds=>Gq ds
set_option tactic.hygienic true in
theorem Ti{K:eh}:Eu K (ST K) FR:=λ{Oo c t σ H xs ds r t' Q} f rx eq k=>by
 unfold FR at eq
 split at eq
 .next n m=>
  clear 5(Jn rx)v u rfl rv ru
  cases ru
  obtain⟨a,rfl,hk⟩:=rv.rv
  split at eq
  .next ds es=>
   clear 5(uc4.mp eq)b e1 e2
   cases e2
   clear 5(f.s.obs _ a _ hk es)us g1 g2;exact⟨.ref a,m,.type "list",b,rfl,.lst g1,HE (d:=.lst []) rfl e1,k _ H c f .refl (.bl b)⟩
  .cases eq
 .exact VY f rx eq k
section
variable{X:Cx}{elt:Expr}{pos:Pos}{e:Expr}{es:List Expr}
end
section
variable{X:Cx}{ei:List (eR×Obj)}{σ:St}{H:Hp}{s:eS}{a:eR}{kvs:List (Key×V)}{o:Obj}
end
section
variable{X:Cx}
end
section
variable{X:Cx}
end
open SeqAt
def GH(K:eh)(H:Hp)(v w:V):Prop:=∃c dv dw,Rep K c H v dv/\Rep K c H w dw/\eqN EQD dv dw=some true
def alike1(S:List Ob)(x y:D):Bool:=Bg (Em S x)&&Bg (Em S y)&&decide (eqN EQD (Em S x) (Em S y)=some true)
theorem alike1.to{K:eh}{c:Cf}{S:List Ob}{H:Hp}(s:SInv K c S H){v w:V}{x y:D}(rx:Rep K c H v x)(ry:Rep K c H w y)(h:alike1 S x y=true):GH K H v w:=by
 unfold alike1 at h;rw[uh3,uh3] at h;exact⟨c0,_,_,GA s rx h.1.1,GA s ry h.1.2,ug7 h.2⟩
theorem KVR.allK{K:eh}{c:Cf}{H:Hp}{us:List (Key×V)}{kvs:List (Key×D)}(r:KVR K c H us kvs):∀kv∈us,∃q∈kvs,kv.1=q.1/\Rep K c H kv.2 q.2:=by
 unfold KVR at r
 induction r with
 |nil=>intro kv h;cases h
 |@cons p q ps qs h _ ih=>
   intro kv hk;rcases uk8.mp hk with rfl|hk
   .exact⟨q,ue4,h⟩
   .clear 5(ih kv hk)q' m z;exact⟨q',ud3 _ m,z⟩
section
variable{X:Cx}{pos:Pos}
end
structure ZL(h:Heap)(z TI TO i1 i2 t1 t2:eR)(n:Nat):Prop where
 zz:IsZip h z TI TO .none
 ti:IsPair h TI (.ref i1) (.ref i2)
 ot:∃a b,IsPair h TO a b
 p1:h.IsListIter i1 t1 n
 p2:h.IsListIter i2 t2 n
section
variable{X:Cx}{a b:Expr}{pos:Pos}
end
open PySem.W
section
variable{prog:eT}{w:eU}{A:Around}{h:Heap}{g:Array GenState}{d:Drawn}{t:Nat}{os:OsState}{R:Result->eS->Prop}
variable{nm q:Str}{C N fI:eR}{bs bm bmB:List eo}{hdct:Bool}{sn:List Str}{sub:List eo}{ab:Bool}{col:Option Bool}{dd:Option eR}{k0 k1 k2 k3 k5:Option eo}{B newId initId:String}{mN:Str->Option eo}
abbrev excObj(C tp:eR):Obj:={cls:=.ref C,data:=.fields #[.ref tp,.none,.none,.none,.bool false,.none]}
abbrev DO(h:Heap)(C:eR)(us:List eo):Heap:=(h.push {cls:=.type "tuple",data:=.seq us.toArray}).push (excObj C h.objs.size)
theorem LX(F:ExcBaseFacts B newId initId bmB)(T:OwnTail h bmB bm){us:List eo}(hC:h.get? C=some (excClassObj nm q C N bs bm hdct sn sub ab col dd k0 k1 k2 k3 k5 newId))(hn:h.Ns N mN)(hni:mN "__init__" = some (.ref fI))
 (hb:Looks (model prog w) h (bindSpecial (.ref fI) (.ref (h.objs.size+1))) (.ref fI,[.ref (h.objs.size+1)])) (hus:us.length<=sizeLine)
 (hq:codeAny (model prog w) (A.under (.builtin "type.__call__" ⟨.ref C::us,[]⟩)) (.call (.ref fI) ⟨.ref (h.objs.size+1)::us,[]⟩) (InitBack (h.objs.size+1) R) ⟨DO h C us,g,d,t,os⟩) :
 codeAny (model prog w) A (.call (.ref C) ⟨us,[]⟩) R ⟨h,g,d,t,os⟩:=by
 have c1:=tc_lookup;have c2:=tc_bind (.ref C);have ty:(⟨h,g,d,t,os⟩:eS).TypeIs (.ref C) "type":=⟨_,hC,rfl⟩;refine codeAny_of_tree ?_;show wpAny _ _ (callAny (.ref C) _) _ _ _
 repeat (any_goals (first
  |assumption
  |with_reducible refine fN hC ?_
  |wp_step))
 refine⟨rfl,codeAny_call_builtin_at (fK _ (by decide +kernel)) entry_typeCall (eZ hC ?_)⟩
 repeat (first
  |with_reducible refine fN hC ?_
  |with_reducible refine wpAny_madeBy_exc hC ?_
  |wp_step)
 refine fb (fK _ F.quiet) (wpAny_check_new_subT F T hC (codeAny_exc_new_subT F T hC ?_ hus))
 change wpAny _ _ _ _ _ (Shared.mk (DO h C us) g d t os)
 have kp:∀b o,h.get? b=some o->(DO h C us).get? b=some o:=λb o e=>uc1 _ (uc1 _ e);have he:(DO h C us).get? (h.objs.size+1)=some {cls:=.ref C,data:=.fields #[.ref h.objs.size,.none,.none,.none,.bool false,.none]}:=by heap_get
 have n1:(DO h C us).Ns N mN:=hn.keeps kp;have cC:(Value.ref C::bm).contains (.ref C)=true:=by simp
 unfold isInstance
 repeat (first
  |with_reducible refine fN he ?_
  |(with_reducible refine fG (kp _ _ hC) ?_;rw[cC])
  |wp_step)
 show wpAny _ _ (typeLookup (.ref C) _) _ _ _;refine wpAny_typeLookup_tail (kp _ _ hC) n1 (T.keeps kp) F.mroIs F.init.lookup ?_;rw[hni];refine ul7 (un6 ((hb.keeps kp).at ?_));refine un6 (gm (gd hq λr s' z=>?_))
 cases r with
 |error e=>exact z
 |ok f=>
   cases f with
   |ret v=>
     clear 5 z rfl z;exact un7 (un7 z)
   |_=>exact z.elim
end
open PySem.Builtin PySem.Builtin.ObjectAttr
theorem QL(self:eo):refuseLoop self "__setattr__" [.type "ValueError",.type "Exception",.type "BaseException",.type "object"]=pure ():=by
 kernel_rfl
abbrev FJ(C P:eR):List eo:=[.ref C,.ref P,.type "ValueError",.type "Exception",.type "BaseException",.type "object"]
theorem Jm(self:eo)(C P:eR):refuseLoop self "__setattr__" (FJ C P)=pure ():=by
 rw[FJ,refuseLoop_ref,refuseLoop_ref];exact QL self
section
variable{prog:eT}{w:eU}{A:Around}{s:eS}{K:eh}{x C P tp:eR}{R:Result->eS->Prop}{name:Str}{v:eo}{tk:Tok}{cd:ClassData}
theorem Vw(X:K.In s.heap)(hx:s.heap.get? x=some (excObj C tp))(hc:clsIn K C=some cd)(hmr:cd.mro=FJ C P)(ha:findIn K (.ref C) name=some none)
 (h:wpAny (model prog w) A.in1 (storeInOwnDict (.ref x) (.ref C) (.str name tk) name v false) (λfin s'=>match fin with | .done f=>R (.ok f) s' | .again c'=>c'.quiet=true/\codeAny (model prog w) A c' R s') (λe s'=>R (.error e) s') s) :
 codeAny (model prog w) A (.call (.builtin "object.__setattr__") ⟨[.ref x,.str name tk,v],[]⟩) R s:=by
 have SF:=PySem.F.store_object;have I:InstAt s.heap x (excObj C tp) C none:=⟨hx,rfl,rfl,trivial⟩;have ob:Looks (model prog w) s.heap (isInstance (.ref x) (.type "object")) true:=I.type.andThen (looks_mroIn X (by unfold mroIn;rw[hc,uh8,hmr];rfl));refine fD SF.slot.plain SF.entry (@check_slot (model prog w) _ _ s "object.__setattr__" "object" "__setattr__" (.ref x) [.str name tk,v] [] _ SF.kind SF.split ob (SF.args (.ref x) (.str name tk) v) ?_);have mr:Looks (model prog w) s.heap (mroOf (.ref C)) (FJ C P):=by rw[<-hmr];exact(gk X hc).andThen .now
 rw[osa_eq,refuse_eq];refine un6 (un6 (I.type.here (un6 (mr.here ?_))));rw[Jm];refine un7 (un6 (I.type.here (un6 ((gf X ha).here ?_))));exact un6 (un7 h)
theorem We{E:eo->eS->Prop}{Q:Unit->eS->Prop}(X:K.In s.heap)(hx:s.heap.get? x=some (excObj C tp))(hs:findIn K (.ref C) "__setattr__" = some (some (.builtin "object.__setattr__")))(hc:clsIn K C=some cd)(hmr:cd.mro=FJ C P)(hd:cd.hasDict=true)(ha:findIn K (.ref C) name=some none)
 (h:∀h',(∀b o,b≠x->s.heap.get? b=some o->h'.get? b=some o)->h'.get? x=some {excObj C tp with dict:=some s.heap.objs.size}->h'.Ns1 s.heap.objs.size (λy=>if y=name then some v else none)->Q () {s with heap:=h',toks:=s.toks+2}) :
 wpAny (model prog w) A (setAttr (.ref x) name v) Q E s:=by
 have I:InstAt s.heap x (excObj C tp) C none:=⟨hx,rfl,rfl,trivial⟩;refine set_plain X I hs (Vw (s:={s with toks:=s.toks+1}) X hx hc hmr ha ?_);refine un6 (un7 (un6 (un6 (fU (s:={s with toks:=s.toks+1}) hx (un6 (Looks.here (s:={s with toks:=s.toks+1}) (gk X hc) ?_))))));rw[hd,gG (by decide)];show wpAny _ _ (alloc _ >>= λdx=>update x _ >>= λ_=>pure (some dx)) _ _ _;have hx1:(s.heap.push emptyDict).get? x=some (excObj C tp):=uc1 _ hx;have hne:s.heap.objs.size≠x:=um2 (ul8 hx);refine un6 (wpAny_alloc (s:={s with toks:=s.toks+1}) (un6 (wpAny_update hx1 (un7 ?_))));have hx2:((s.heap.push emptyDict).update x λo=>{o with dict:=some s.heap.objs.size}).get? x=some {excObj C tp with dict:=some s.heap.objs.size}:=uc8 _ hx1 rfl;have hk:∀b o,b≠x->s.heap.get? b=some o->((s.heap.push emptyDict).update x λo=>{o with dict:=some s.heap.objs.size}).get? b=some o:=λb o hb e=>(uc3 _ _ (Ne.symm hb)).trans (uc1 _ e);have hdx:((s.heap.push emptyDict).update x λo=>{o with dict:=some s.heap.objs.size}).get? s.heap.objs.size=some emptyDict:=(uc3 _ _ (Ne.symm hne)).trans (ud9 _ rfl);have n1:((s.heap.push emptyDict).update x λo=>{o with dict:=some s.heap.objs.size}).Ns1 s.heap.objs.size λ_=>none:=⟨_,#[],_,hdx,rfl,(λe he=>by simp at he),(by simp[UniqKeys]),λ_=>rfl⟩;refine un6 (un7 (un6 ?_));refine wpAny_nsSet1 n1 λh' n2 sb=>?_;clear 5(n2.count (fM name v (ns:=[]) (λy u=>absurd rfl u)))oD esD epD hoD hdD hcD;refine un6 (fP hoD (by rw[hdD];exact fQ (um0 hcD (by show 1<=_;decide))) ?_);exact un7 (h h' (λb o hb e=>by
  by_cases hb2:b=s.heap.objs.size
  .subst hb2;exact absurd (ul8 e) (uk7 _)
  .exact(sb.2 b hb2).trans (hk b o hb e)) ((sb.2 x (Ne.symm hne)).trans hx2) n2)
end
section
variable{qx:Bool}
def XRec(qx:Bool)(h:Heap)(x C:eR)(dx:Option eR)(tb:eo):Prop:=∃(o:Obj) (vs:Array eo),h.get? x=some o/\o.cls=.ref C/\o.dict=dx/\o.data=.fields vs/\vs[1]?=some tb/\(qx=true->vs[2]?=some .none/\4<vs.size)
theorem W2{qx:Bool}{vs:Array eo}{v:eo}(h:qx=true->vs[2]?=some .none/\4<vs.size):qx=true->(vs.setIfInBounds 1 v)[2]?=some .none/\4<(vs.setIfInBounds 1 v).size:=λz=>by
 rw[ua1 (by decide),ub5];exact h z
theorem XRec.to{qx:Bool}{h:Heap}{x C:eR}{dx:Option eR}{tb:eo}(r:XRec true h x C dx tb):XRec qx h x C dx tb:=by
 clear 5 r o vs h1 h2 h3 h4 h5 h6;exact⟨o,vs,h1,h2,h3,h4,h5,λ_=>h6 rfl⟩
def XTb(h:Heap)(T:eR):Prop:=∃(o:Obj) (ts:Array eo),h.get? T=some o/\o.data=.fields ts/\ts[3]?=some .none
structure XKeep(fs ch:List eR)(h h':Heap):Prop where
 keep:∀b o,b∉ch->b∉fs->h.get? b=some o->h'.get? b=some o
 slot:∀b o,b∉ch->h.get? b=some o->∃sl,h'.get? b=some {o with slots:=sl}
section
variable{M:Model}{A:Around}{E:eo->eS->Prop}{s:eS}{env:Env}{outer:List Env}{base:Heap}{L x C:eR}{dx:Option eR}{tb:eo}{Q:Unit->eS->Prop}
theorem Fm{o:Obj}{vs:Array eo}(hd:o.data=.fields vs)(f:Array eo->Array eo):(o.mapFields f).data=.fields (f vs)/\(o.mapFields f).cls=o.cls/\(o.mapFields f).dict=o.dict:=by
 clear 5 o c d dt sl
 cases hd
 exact⟨rfl,rfl,rfl⟩
end
end
section
variable{qx:Bool}
abbrev VE:List eo:=[.type "ValueError",.type "Exception",.type "BaseException",.type "object"]
structure XCl(K:eh)(C:eR)(bm:List eo):Prop where
 ex:∃cd dd k0 k1 k2 k3 k5,K.lookup C=some {cls:=.type "type",dict:=dd,data:=.cls cd,slots:=#[k0,k1,k2,k3,some (.builtin "ValueError.__new__"),k5]}/\cd.mro=.ref C::bm/\cd.hasDel=false/\cd.hasDict=true/\nsOkIn K cd.ns=true
 tl:tailIn K VE bm=true
noncomputable def K8(K:eh)(C:eR)(bm:List eo):Bool:=tailIn K VE bm&&match K.lookup C with
 | some ⟨.type "type",_,.cls cd,sl⟩=>(match sl.toList with
   |[_,_,_,_,some (.builtin n),_]=>n == "ValueError.__new__" && cd.mro==.ref C::bm && !cd.hasDel&&cd.hasDict&&nsOkIn K cd.ns
   |_=>false)
 |_=>false
variable{K:eh}{C:eR}{bm:List eo}
set_option tactic.hygienic true in
theorem XCl.of_in(q:K8 K C bm=true):XCl K C bm:=by
 unfold K8 at q;rw[uh3] at q;refine⟨?_,q.1⟩;have q:=q.2
 split at q
 .rename_i dd cd sl ho
  split at q
  .rename_i k0 k1 k2 k3 n k5 hs;simp only[uh3,gl,Bool.not_eq_true'] at q;obtain⟨⟨⟨⟨rfl,h1⟩,h2⟩,h3⟩,h4⟩:=q;have hsl:sl=#[k0,k1,k2,k3,some (.builtin "ValueError.__new__"),k5]:=by
    cases sl
    exact gu Array.mk hs
   exact⟨cd,dd,k0,k1,k2,k3,k5,by rw[ho,hsl],h1,h2,h3,h4⟩
  .cases q
 .cases q
theorem XCl.obj{K:eh}{C:eR}{bm:List eo}{h:Heap}(c:XCl K C bm)(X:K.In h):∃nm q N bs sn sub ab col dd k0 k1 k2 k3 k5,h.get? C=some (excClassObj nm q C N bs bm true sn sub ab col dd k0 k1 k2 k3 k5 "ValueError.__new__")/\h.Ns N (h.nsMap N):=by
 obtain⟨⟨nm,bs,mro,ns,qn,hd,sn,sub,ab,col,del⟩,dd,k0,k1,k2,k3,k5,h1,h2,h3,h4,h5⟩:=c.ex;dsimp only at h2 h3 h4 h5;subst h2 h3 h4;exact⟨nm,qn,ns,bs,sn,sub,ab,col,dd,k0,k1,k2,k3,k5,X _ _ h1,.of_isNs (isNs_of_in X h5)⟩
variable{h:Heap}
theorem XCl.tail(c:XCl K C bm)(X:K.In h):OwnTail h VE bm:=tail_of_in X c.tl
theorem XCl.has(c:XCl K C bm)(X:K.In h):(Value.ref C::bm).contains (.type "BaseException")=true:=by
 rw[uf1,(c.tail X).hasType (b:=true) (by decide +kernel),um6]
section
variable{M:Model}{A:Around}{E:eo->eS->Prop}{env:Env}{K:eh}{C:eR}{bm:List eo}{s:eS}
theorem SW{t:Sem eo}{Q:Flow->eS->Prop}(c:XCl K C bm)(hh:A.handled=none)
 (h:wpAny M A t (λv s1=>∃x dx,v=.ref x/\K.In s1.heap/\XRec qx s1.heap x C dx .none/\E v s1) E s):wpAny M A (raiseStmt env (some t) none) Q E s:=by
 unfold raiseStmt;refine un6 (un8 h (λv s1 q=>?_) λ_ _ z=>z);obtain⟨x,dx,rfl,X,⟨o,vs,hx,hc,hd,hdt,h1,_⟩,hE⟩:=q;obtain⟨nm,q,N,bs,sn,sub,ab,col,dd,k0,k1,k2,k3,k5,hC,_⟩:=c.obj X;have hb:=c.has X;clear 5 s1 hp g d tk os
 repeat (first
  |(with_reducible refine fN hx ?_;rw[hc])
  |with_reducible refine fN hC ?_
  |(with_reducible refine fG hC ?_;rw[hb])
  |with_reducible refine un5 hx hdt h1 ?_
  |wp_step)
 exact wpAny_raiseNew_none hh hE
end
def CX1(qx:Bool)(P:eT)(w:eU):CXT:=λouter H s E e s'=>∃(x C:eR) (dx:Option eR) (T:eR) (H':Hp),e=.ref x/\s'.os=s.os/\AllBare s'.gens/\Un (frs outer) [] H H' s.heap s'.heap/\HOk P w H' s'.heap/\
 H' x=some (.ext (L2.XIs qx x C dx))/\s.heap.objs.size<=x/\s.heap.objs.size<=T/\T≠x/\H' T=none/\XRec qx s'.heap x C dx (.ref T)/\XTb s'.heap T/\E (.ref x) dx H'
variable{x:eR}{dx:Option eR}
theorem XRec.is{tb:eo}(r:XRec qx h x C dx tb):L2.XIs qx x C dx h:=by
 obtain⟨o,vs,h1,h2,h3,h4,_,h5⟩:=r;exact⟨o,vs,h1,h2,h3,h4,h5⟩
theorem XIs.stay{h1 h2:Heap}(r:L2.XIs qx x C dx h1)(k:∀o,h1.get? x=some o->h2.get? x=some o):L2.XIs qx x C dx h2:=by
 clear 5 r o vs e q;exact⟨o,vs,k o e,q⟩
theorem IT{P:eT}{w:eU}{H:Hp}(r:L2.XIs qx x C dx h):ObjOk P w H h x (.ext (L2.XIs qx x C dx)):=
 ⟨r,let ⟨o,_,e,_⟩:=r;⟨o,e⟩,λ_ _ q k=>XIs.stay q k⟩
section
variable{X:Cx}{ei:List (eR×Obj)}{σ:St}{H H':Hp}{s s':eS}{h':Heap}{x C T:eR}{dx:Option eR}{ch:List eR}
theorem Tw(k:XKeep (frs X.stack) ch s.heap h')(hT:∀b∈ch,b=x\/b=T):Un (frs X.stack) (x::T::[]) H H s.heap h':=by
 have nch:∀b:eR,b∉(x::T::[])->b∉ch:=λb hb z=>hb (by rcases hT b z with rfl|rfl<;>simp);refine⟨λb o e n hb hx=>k.keep b o (nch b hx) hb e,λb o e n hb hx=>k.slot b o (nch b hx) e,λb o e n _=>n,λb o e hx=>?_,λ_ _ e=>e,λ_ _ _ e=>e,λb ps e=>⟨#[],by rw[e];simp⟩⟩;clear 5(k.slot b o (nch b hx) e)sl q;exact⟨_,q⟩
theorem Inv.left(I:Inv X ei σ H s)(hx:H x=some (.ext (L2.XIs qx x C dx)))(hT:H T=none)(nx:X.s₀.heap.objs.size<=x)(nT:X.s₀.heap.objs.size<=T)(k:XKeep (frs X.stack) ch s.heap h')(hc:∀b∈ch,b=x\/b=T)(r:L2.XIs qx x C dx h')
 (oT:∀y c,X.env.cells.lookup y=some c->c≠T) (lT:T≠X.env.locals) (pT:∀p∈X.pn++ei,p.1≠T):Inv X ei σ H {s with heap:=h'}:=by
 have nfr:∀b u,H b=some u->b∉frs X.stack:=λb u e z=>by rw[I.stkFree b z] at e;cases e
 refine I.call (g':=s.gens) (t':=s.toks) (d':=s.drawn) (ch:=[x,T]) (Tw k hc) (λb u e=>?_) I.bare λb hb=>?_
 .by_cases hb:b=x
  .subst hb;rw[hx] at e;cases e;exact IT r
  .refine(I.hok b u e).stay (λc v hcc q=>k.keep c v ?_ ?_ q) (λ_ q=>q) λ_ _ q=>q
   .intro z;rcases hcc with rfl|hcc
    .rcases hc c z with q|q
     .exact hb q
     .rw[q,hT] at e;cases e
    .rcases hc c z with q|q
     .rw[q,hx] at hcc;cases hcc
     .rw[q,hT] at hcc;cases hcc
   .rcases hcc with rfl|hcc
    .exact nfr _ _ e
    .exact nfr _ _ hcc
 .have q:b=x\/b=T:=by simpa using hb
  rcases q with rfl|rfl
  .exact⟨.inr nx,(λz=>by rw[z,I.free] at hx;cases hx),(λy c e z=>by subst z;rw[I.freeC y c e] at hx;cases hx),λp hp z=>by rw[<-z,(I.pin p hp).2.1] at hx;cases hx⟩
  .exact⟨.inr nT,lT,oT,pT⟩
theorem Inv.raised(I:Inv X ei σ H s){E:XK}{e:eo}(q:CX1 qx X.prog X.w X.stack H s E e s'):∃(x C:eR) (dx:Option eR) (T:eR) (H':Hp),e=.ref x/\Inv X ei σ H' s'/\H' x=some (.ext (L2.XIs qx x C dx))/\s.heap.objs.size<=x/\s.heap.objs.size<=T/\T≠x/\H' T=none/\XRec qx s'.heap x C dx (.ref T)/\XTb s'.heap T/\E (.ref x) dx H':=by
 clear 5 q x C dx T H' he os bare un hok hx nx nT ne hT r tb q;clear 5 s' hh g d t os';obtain rfl:os'=s.os:=os;exact⟨x,C,dx,T,H',he,I.call (h':=hh) (g':=g) (d':=d) (t':=t) (ch:=[]) un hok bare (λb z=>absurd z (by simp)),hx,nx,nT,ne,hT,r,tb,q⟩
theorem Inv.newT(I:Inv X ei σ H s)(h:s.heap.objs.size<=T):T≠X.env.locals/\(∀y c,X.env.cells.lookup y=some c->c≠T)/\∀p∈X.pn++ei,p.1≠T:=by
 have far:∀b o,s.heap.get? b=some o->b≠T:=λb o e z=>absurd (ue3 (ul8 e) h) (by rw[z];exact uk7 _);refine⟨λz=>absurd I.lt (by rw[<-z];exact Nat.not_lt.mpr h),λy c e=>?_,λp hp=>far _ _ (I.pin p hp).1⟩;obtain⟨v,o,ho,_⟩:=I.cell y c e;exact far c o ho
end
section
variable{P:eT}{w:eU}{K:eh}{mg:Str->Option eo}{base:Heap}{N:List Str}{qual:Str}{scope:Scope}{f:eR}{cd:eo}{A:Around}{outer:List Env}{s₀:eS}{H₀:Hp}{E:XK}
end
end
noncomputable def exO(x C tp:eR):HO:=.ext λh=>h.get? x=some (excObj C tp)
noncomputable def FQ(x C tp dx:eR):HO:=.ext λh=>h.get? x=some {excObj C tp with dict:=some dx}
theorem Py{P:eT}{w:eU}{H:Hp}{h:Heap}{x C tp:eR}(e:h.get? x=some (excObj C tp)):ObjOk P w H h x (exO x C tp):=⟨e,⟨_,e⟩,λ_ _ p k=>k _ p⟩
theorem Uy{P:eT}{w:eU}{H:Hp}{h:Heap}{x C tp dx:eR}(e:h.get? x=some {excObj C tp with dict:=some dx}):ObjOk P w H h x (FQ x C tp dx):=⟨e,⟨_,e⟩,λ_ _ p k=>k _ p⟩
structure XAt(K:eh)(C P:eR)(f:Str):Prop where
 cl:XCl K C (.ref P::VE)
 set:findIn K (.ref C) "__setattr__" = some (some (.builtin "object.__setattr__"))
 no:findIn K (.ref C) f=some none
theorem XCl.cls{K:eh}{C:eR}{bm:List eo}(c:XCl K C bm):∃cd,clsIn K C=some cd/\cd.mro=.ref C::bm/\cd.hasDict=true:=by
 obtain⟨cd,dd,k0,k1,k2,k3,k5,h1,h2,_,h4,_⟩:=c.ex;exact⟨cd,by unfold clsIn;rw[h1],h2,h4⟩
def sXF(K:eh)(P:eR)(ta tv:TE)(f:Str):TS:=λD σ H=>tv σ H λy H1=>ta σ H1 λx H2=>∃a C tp,x=.ref a/\H2 a=some (exO a C tp)/\XAt K C P f/\
 ∀dx,H2 dx=none->dx≠a->D.nx σ (upd (upd H2 dx (.xd [(f,y)])) a (FQ a C tp dx))
theorem T4{X:Cx}{P:eR}{o value:Expr}{ta tv:TE}{f:Str}{pos' pos:Pos}(ha:PE X o ta)(hv:PE X value tv)(hs:swapsWith value (some (.Attribute o f pos')) pos.line X.env=pure false):PS X (.Assign [.Attribute o f pos'] value pos) (sXF X.K P ta tv f):=by
 intro ei s σ H D I h;refine eW (thn (hv ei s σ H _ I h) λu s1 ⟨y,H1,I1,ry,q⟩=>thn (ha ei s1 σ H1 _ I1 q) λov s2 z9=>?_) hs;clear 5 z9 x H2 I2 rx a C tp ex ea c q2;subst ex;obtain rfl:ov=Value.ref a:=rx;clear 5 c.cl.cls cd c1 c2 c3;have hx:s2.heap.get? a=some (excObj C tp):=(I2.hok a _ ea).1;refine We I2.kIn hx c.set c1 c2 c3 c.no λh' k e n=>?_;have fr:=I2.hok.fresh (un2 s2.heap.objs.size);have ne:s2.heap.objs.size≠a:=(λz=>by rw[z,ea] at fr;cases fr)
 have nn:∀b u,H2 b=some u->b≠s2.heap.objs.size:=λb u z=>AA z fr;have na:∀b u,s2.heap.get? b=some u->H2 b=none->b≠a:=λb u _ z w'=>by rw[w',ea] at z;cases z
 refine⟨σ,_,I2.un (h':=h') (t':=s2.toks+2) ⟨λb u e1 e2 _ _=>k b u (na b u e1 e2) e1,λb u e1 e2 _ _=>⟨u.slots,k b u (na b u e1 e2) e1⟩,λb u e1 e2 _=>?_,λb u e1 _=>?_,λb xs e1=>?_,λb o' u e1=>?_,λb ps e1=>⟨#[],?_⟩⟩ λb u e1=>?_,q2 s2.heap.objs.size fr ne⟩
 .rw[Ai (na b u e1 e2),Ai (ul9 (ul8 e1))];exact e2
 .by_cases hb:b=a
  .subst hb;exact⟨_,e⟩
  .exact⟨_,k b u hb e1⟩
 .rw[Ai (λz=>by rw[z,ea] at e1;cases e1),Ai (nn _ _ e1)];exact e1
 .rw[Ai (λz=>by rw[z,ea] at e1;cases e1),Ai (nn _ _ e1)];exact e1
 .rw[Ai (λz=>by rw[z,ea] at e1;cases e1),Ai (nn _ _ e1),e1];simp
 .by_cases hb:b=a
  .subst hb;rw[Am] at e1;cases e1;exact Uy e
  .rw[Ai hb] at e1
   by_cases hb2:b=s2.heap.objs.size
   .subst hb2;rw[Am] at e1;cases e1
    refine⟨_,n,λg=>?_⟩
    by_cases hg:g=f
    .subst hg;simp only[List.lookup,ui3,gC];exact ry
    .have hgb:(g==f)=false:=fE.mpr hg;simp only[List.lookup,hgb,gG hg];trivial
   .rw[Ai hb2] at e1;refine(I2.hok b u e1).stay (λz v hz q=>k z v ?_ q) (λz q=>?_) λz xs q=>?_
    .rcases hz with rfl|hz
     .exact hb
     .intro w';rw[w',ea] at hz;cases hz
    .rw[Ai (λz=>by rw[z,ea] at q;cases q),Ai (nn _ _ q)];exact q
    .rw[Ai (λz=>by rw[z,ea] at q;cases q),Ai (nn _ _ q)];exact q
section
variable{qx:Bool}
set_option tactic.hygienic true in
theorem Jk{K:eh}{h:Heap}{N:eR}{m:Str->Option eo}{n:Str}{v:eo}(X:K.In h)(G:h.Ns N m)(e:nsIn K N n=some (some v)):m n=some v:=by
 obtain⟨o,es,ep,ho,hd,_,hf⟩:=G;unfold nsIn at e
 split at e
 .next c d es' n' sl q=>
  have z:=X _ _ q;rw[ho] at z
  cases z
  cases hd
  split at e
  .next en he=>
   rw[<-hf];unfold nsFind findBy;rw[<-ue6,he];simpa using e
  .split at e<;>cases e
 .cases e
structure XMk(K:eh)(C P f:eR):Prop where
 cl:XCl K C (.ref P::VE)
 init:∃cd,clsIn K C=some cd/\nsIn K cd.ns "__init__" = some (some (.ref f))
 fn:isFn K (.ref f)=true
 kp:keepIn K (.ref C)=true
section
variable{X:Cx}{k:Nat}{f C P:eR}{fd:eV}{ei:List (eR×Obj)}{σ:St}{H:Hp}{s:eS}{Q:eo->eS->Prop}{us:List eo}{vs:List V}{a:Str}{ps:List Str}{v:V}{u:eo}
end
end
section
variable{qx:Bool}
section
variable{M:Model}{A:Around}{E:eo->eS->Prop}{K:eh}{s:eS}{x C C':eR}{bm bm':List eo}{dx:Option eR}{tb:eo}
theorem Ij{Q:Bool->eS->Prop}(c:XCl K C bm)(c':XCl K C' bm')(X:K.In s.heap)(hx:XRec qx s.heap x C dx tb)(h:Q ((Value.ref C::bm).contains (.ref C')) s):wpAny M A (excMatches (.ref x) (.ref C')) Q E s:=by
 obtain⟨nm,q,N,bs,sn,sub,ab,col,dd,k0,k1,k2,k3,k5,hC,_⟩:=c.obj X;obtain⟨nm',q',N',bs',sn',sub',ab',col',dd',k0',k1',k2',k3',k5',hC',_⟩:=c'.obj X;have hb:=c'.has X;clear 5 hx o vs ho hc hd hdt h1;clear 5 s hp g d tk os;have ty:(⟨hp,g,d,tk,os⟩:eS).TypeIs (.ref C') "type":=⟨_,hC',rfl⟩;have nt:=tc_notTuple
 cases hbb:(Value.ref C::bm).contains (.ref C')<;>(
  rw[hbb] at h;unfold excMatches
  repeat (first
   |(with_reducible refine fN ho ?_;rw[hc])
   |with_reducible refine fN hC' ?_
   |(with_reducible refine fG hC' ?_;rw[hb])
   |(with_reducible refine fG hC ?_;rw[hbb])
   |wp_step)
  exact h)
end
end
section
variable{qx:Bool}
def Rp(h:Heap)(T:eR)(fl:eo):Prop:=∃(o:Obj) (ts:Array eo),h.get? T=some o/\o.data=.fields ts/\ts[3]?=some fl
section
variable{M:Model}{A:Around}{E:eo->eS->Prop}{s:eS}{env:Env}{outer:List Env}{base:Heap}{L x C:eR}{dx:Option eR}{tb:eo}{Q:Unit->eS->Prop}
theorem Ks{hadNext:Bool}{hd:eo}(hfr:A.frames=some (env::outer))(hl:s.heap.FunFrames base (env::outer))(hf:env.frame=some L)(hx:XRec qx s.heap x C dx tb)
 (h:∀h' T,s.heap.objs.size<=T->T≠x->XRec qx h' x C dx (.ref T)->Rp h' T (rawInt L)->XKeep (frs (env::outer)) [x] s.heap h'->Q () {s with heap:=h'}) :
 wpAny M A (do let fo <-frameOf env;let at' <-entryPlaceOf L hadNext;let en <-EntryCells.newEntry hd fo .none (rawInt L) .none at';setField (.ref x) 1 en) Q E s:=by
 clear 5 hx ox vs gx cx dxe dtx tbx xc;have v1:1<vs.size:=(ua7.mp tbx).1;have nfr:x∉frs (env::outer):=λz=>by
  obtain⟨_,o2,g2,n2⟩:=hl.mem z;rw[gx] at g2;cases g2
  exact n2 vs dtx
 refine un6 (wpAny_frameOf_fun hfr hl hf λh1 so=>?_);refine un6 (wpAny_entryPlaceOf λat' ip=>?_);unfold EntryCells.newEntry newFields;refine un6 (wpAny_newObj_type ?_ (ip.sizeOk5 _ _ _ _ _));generalize hne:(Obj.mk (Value.type "traceback") none (Data.fields ([hd,Value.ref L,Value.none,rawInt L,Value.none]++if at'.isEmpty=true then List.replicate 6 Value.none else at').toArray) #[])=nob;have dn:nob.data=.fields ([hd,Value.ref L,Value.none,rawInt L,Value.none]++if at'.isEmpty=true then List.replicate 6 Value.none else at').toArray:=by rw[<-hne]
 have gx1:h1.get? x=some ox:=(so.2.1 x nfr).trans gx;have gx2:(h1.push nob).get? x=some ox:=uc1 _ gx1;have nex:h1.objs.size≠x:=um2 (ul8 gx1);refine fW gx2 dtx v1 ?_;clear 5(Fm dtx (·.setIfInBounds 1 (Value.ref h1.objs.size)))m1 m2 m3;have gx3:=uc8 (Obj.mapFields (·.setIfInBounds 1 (Value.ref h1.objs.size))) gx2 (fv m1);have gT2:(h1.push nob).get? h1.objs.size=some nob:=ud9 h1 (fv dn);have gT3:=(uc3 (h1.push nob) (Obj.mapFields (·.setIfInBounds 1 (Value.ref h1.objs.size))) (Ne.symm nex)).trans gT2;have vx:(vs.setIfInBounds 1 (Value.ref h1.objs.size))[1]?=some (.ref h1.objs.size):=by simp[v1]
 have old:∀b o,b≠x->h1.get? b=some o->((h1.push nob).update x (Obj.mapFields (·.setIfInBounds 1 (Value.ref h1.objs.size)))).get? b=some o:=λb o hb e=>by
  rw[uc3 _ _ (Ne.symm hb)];exact uc1 _ e
 refine h _ h1.objs.size (um3 so.1.symm) nex ⟨_,_,gx3,m2.trans cx,m3.trans dxe,m1,vx,W2 xc⟩ ⟨_,_,gT3,dn,?_⟩ ⟨λb o hb hbf e=>old b o (λz=>hb (by simp[z])) ((so.2.1 b hbf).trans e),λb o hb e=>?_⟩
 .rw[List.getElem?_toArray];rfl
 .clear 5(so.2.2 b o e)sl e1;exact⟨sl,old b _ (λz=>hb (by simp[z])) e1⟩
end
structure XOn(qx:Bool)(X:Cx)(ei:List (eR×Obj))(H:Hp)(s:eS)(x C:eR)(dx:Option eR)(T:Option eR)(fl:eo):Prop where
 hx:H x=some (.ext (L2.XIs qx x C dx))
 nx:X.s₀.heap.objs.size<=x
 rc:XRec qx s.heap x C dx (match T with|some a=>.ref a|none=>.none)
 tb:∀a,T=some a->a≠x/\H a=none/\X.s₀.heap.objs.size<=a/\(a≠X.env.locals/\(∀y c,X.env.cells.lookup y=some c->c≠a)/\∀p∈X.pn++ei,p.1≠a)/\Rp s.heap a fl
 fo:fl=.none\/∃f:eR,fl=rawInt f
section
variable{M:Model}{A:Around}{Er:eo->eS->Prop}{X:Cx}{ei:List (eR×Obj)}{σ:St}{H:Hp}{s:eS}{x C:eR}{dx T:Option eR}{fl:eo}{Q:Unit->eS->Prop}
theorem D5(fr:Option eR)(I:Inv X ei σ H s){a:eR}(o:XOn qx X ei H s x C dx (some a) fl)(_:True)
 (k:∀h',Inv X ei σ H {s with heap:=h'}->XOn qx X ei H {s with heap:=h'} x C dx (some a) (fr.elim Value.none λf=>rawInt f)->Q () {s with heap:=h'}):wpAny M A (setFlight (.ref x) fr) Q Er s:=by
 clear 5(id o.rc)ox vs gx cx dxe dtx tbx xc;clear 5(o.tb a rfl)ne hT nT oT ot ts gT dT t3;unfold setFlight;refine un6 (un5 gx dtx tbx ?_);rw[gE (show(Value.ref a != Value.none)=true from rfl)];refine fW gT dT (ua7.mp t3).1 ?_;clear 5(Fm dT (·.setIfInBounds 3 (fr.elim Value.none λf=>rawInt f)))m1 m2 m3;have gT2:=uc8 (Obj.mapFields (·.setIfInBounds 3 (fr.elim Value.none λf=>rawInt f))) gT (fv m1);have oth:∀b,b≠a->(s.heap.update a (Obj.mapFields (·.setIfInBounds 3 (fr.elim Value.none λf=>rawInt f)))).get? b=s.heap.get? b:=λb z=>uc3 _ _ (Ne.symm z);have rc':XRec qx (s.heap.update a (Obj.mapFields (·.setIfInBounds 3 (fr.elim Value.none λf=>rawInt f)))) x C dx (.ref a):=⟨ox,vs,(oth x (Ne.symm ne)).trans gx,cx,dxe,dtx,tbx,xc⟩;refine k _ (I.left o.hx hT o.nx nT (ch:=[a]) ⟨λb u hb _ e=>(oth b (by simpa using hb)).trans e,λb u hb e=>⟨u.slots,(oth b (by simpa using hb)).trans e⟩⟩ (λb hb=>.inr (by simpa using hb)) rc'.is oT.2.1 oT.1 oT.2.2) ⟨o.hx,o.nx,rc',λa' e=>?_,?_⟩
 .cases e
  exact⟨ne,hT,nT,oT,_,_,gT2,m1,by rw[Array.getElem?_setIfInBounds_self,gE (ua7.mp t3).1]⟩
 .cases fr with
  |none=>exact .inl rfl
  |some f=>exact .inr ⟨f,rfl⟩
set_option tactic.hygienic true in
theorem Qp{env0:Env}{outer0:List Env}{L:eR}(hA:A.frames=some X.stack)(I:Inv X ei σ H s)(hs:X.stack=env0::outer0)(hf:env0.frame=some L)(o:XOn qx X ei H s x C dx T fl)
 (k:∀h' a,Inv X ei σ H {s with heap:=h'}->XOn qx X ei H {s with heap:=h'} x C dx (some a) (rawInt L)->Q () {s with heap:=h'}):wpAny M A (noteFrame (.ref x) env0) Q Er s:=by
 clear 5(id o.rc)ox vs gx cx dxe dtx tbx xc;have fin:∀(s1:eS) (hh:∃h1,s1 = {s with heap:=h1}) (ch:List eR) (h':Heap) (a:eR),Inv X ei σ H s1->s1.heap.objs.size<=a->a≠x->XRec qx h' x C dx (.ref a)->Rp h' a (rawInt L)->XKeep (frs (env0::outer0)) [x] s1.heap h'->Q () {s1 with heap:=h'}:=by
  rintro s1 ⟨h1,rfl⟩ ch h' a I1 l1 l2 l3 l4 l5;clear 5(I1.newT l1)o1 o2 o3;have J:=I1.left o.hx (I1.hok.fresh l1) o.nx (um0 I1.sz l1) (ch:=[x]) (hs ▸ l5) (λb hb=>.inl (by simpa using hb)) l3.is o2 o1 o3;exact k h' a J ⟨o.hx,o.nx,l3,λa' e=>by cases e;exact⟨l2,I1.hok.fresh l1,um0 I1.sz l1,⟨o1,o2,o3⟩,l4⟩,.inr ⟨_,rfl⟩⟩
 unfold noteFrame;simp only[hf];refine un6 (un5 gx dtx tbx ?_)
 cases T with
 |none=>
   rw[gG (by decide)];exact Ks (hA.trans (gu some hs)) (hs ▸ I.stack) hf o.rc λh' a l1 l2 l3 l4 l5=>fin s ⟨s.heap,rfl⟩ [] h' a I l1 l2 l3 l4 l5
 |some T₀=>
   clear 5(o.tb T₀ rfl)ne hT nT oT ot ts gT dT t3;rw[gE (show(Value.ref T₀ != Value.none)=true from rfl)];refine un6 (un5 gT dT t3 ?_)
   by_cases hq:(fl==rawInt L)=true
   case neg=>
    rw[gG hq];refine un6 (fW gT dT (ua7.mp t3).1 ?_);have oth:∀b,b≠T₀->(s.heap.update T₀ (Obj.mapFields (·.setIfInBounds 3 Value.none))).get? b=s.heap.get? b:=λb z=>uc3 _ _ (Ne.symm z);have rc':XRec qx (s.heap.update T₀ (Obj.mapFields (·.setIfInBounds 3 Value.none))) x C dx (.ref T₀):=⟨ox,vs,(oth x (Ne.symm ne)).trans gx,cx,dxe,dtx,tbx,xc⟩;have J:=I.left o.hx hT o.nx nT (ch:=[T₀]) ⟨λb u hb _ e=>(oth b (by simpa using hb)).trans e,λb u hb e=>⟨u.slots,(oth b (by simpa using hb)).trans e⟩⟩ (λb hb=>.inr (by simpa using hb)) rc'.is oT.2.1 oT.1 oT.2.2;exact Ks (s:={s with heap:=s.heap.update T₀ (Obj.mapFields (·.setIfInBounds 3 Value.none))}) (hA.trans (gu some hs)) (hs ▸ J.stack) hf rc' λh' a l1 l2 l3 l4 l5=>fin _ ⟨_,rfl⟩ [] h' a J l1 l2 l3 l4 l5
   case pos=>
    rw[gE hq];have eq:fl=rawInt L:=eq_of_beq hq;subst eq;exact un7 (k s.heap T₀ I ⟨o.hx,o.nx,o.rc,o.tb,.inr ⟨_,rfl⟩⟩)
theorem Fr(hA:A.frames=some X.stack)(I:Inv X ei σ H s)(hs:X.stack=X.env::X.outer)(hf:X.env.frame=some X.env.locals)(o:XOn qx X ei H s x C dx T fl)
 (k:∀h' a,Inv X ei σ H {s with heap:=h'}->XOn qx X ei H {s with heap:=h'} x C dx (some a) (rawInt X.env.locals)->Q () {s with heap:=h'}):wpAny M A (noteFrame (.ref x) X.env) Q Er s:=Qp hA I hs hf o k
end
def XE(qx:Bool)(X:Cx)(E:St->XK):eo->eS->Prop:=λe s=>∃ei σ H x C dx T fl,e=.ref x/\Inv X ei σ H s/\XOn qx X ei H s x C dx T fl/\E σ (.ref x) dx H
def Co(CX:CXT)(X:Cx)(E:St->XK):Prop:=∀(ei:List (eR×Obj)) (σ:St) (H:Hp) (s:eS) (e:eo) (s':eS),Inv X ei σ H s->CX X.stack H s (E σ) e s'->X.xe e s'
section
variable{M:Model}{X:Cx}{E:St->XK}
theorem XE.own(hs:X.stack=X.env::X.outer)(hf:X.env.frame=some X.env.locals):PassesOwn M X.A X.env (XE qx X E):=by
 rintro e s ⟨ei,σ,H,x,C,dx,T,fl,rfl,I,o,q⟩;refine Fr I.ok.frames I hs hf o λh' a I' o'=>?_;clear 5(id o'.rc)ox vs gx cx dxe dtx tbx xc;unfold cameBackBy;refine un6 (un5 gx dtx tbx ?_);rw[gG (show ¬((Value.ref a==Value.none)=true) from by intro z;cases z)]
 rw[hf];exact D5 _ I' o' trivial λh'' I'' o''=>⟨ei,σ,H,x,C,dx,some a,_,rfl,I'',o'',q⟩
theorem XE.pass:Co (CX1 qx X.prog X.w) (X.wish (XE qx X E)) E:=by
 intro ei σ H s e s' I q;clear 5(I.unwish.raised q)x C dx T H' rfl J hx nx nT ne hT r tb q;exact⟨ei,σ,H',x,C,dx,some T,.none,rfl,J,⟨hx,um0 I.sz nx,r,λa e=>by cases e;exact⟨ne,hT,um0 I.sz nT,I.unwish.newT nT,tb⟩,.inl rfl⟩,q⟩
end
section
variable{P:eT}{w:eU}{K:eh}{mg:Str->Option eo}{base:Heap}
abbrev cxX(qx:Bool)(P:eT)(w:eU)(K:eh)(mg:Str->Option eo)(base:Heap)(N:List Str)(qual:Str)(scope:Scope)(f:eR)(cd:eo)(A:Around)(outer:List Env)(s:eS)(H:Hp)(E:XK):Cx:=
 (Dy (CX1 qx P w) P w K mg base N qual scope f cd A outer s H E).wish (XE qx (Dy (CX1 qx P w) P w K mg base N qual scope f cd A outer s H E) λ_=>E)
theorem XE.leaves{N:List Str}{qual:Str}{scope:Scope}{f:eR}{cd:eo}{A:Around}{outer:List Env}{s₀:eS}{H₀:Hp}{E:XK}{e:eo}{s:eS}
 (h:XE qx (Dy (CX1 qx P w) P w K mg base N qual scope f cd A outer s₀ H₀ E) (λ_=>E) e s):(Dy (CX1 qx P w) P w K mg base N qual scope f cd A outer s₀ H₀ E).xe e s:=by
 clear 5 h ei σ H x C dx T fl rfl I o q;refine un6 (Fr I.ok.frames I rfl rfl o λh' a I' o'=>?_);refine D5 none I' o' trivial λh'' I'' o''=>?_;clear 5(o''.tb a rfl)ne hT nT oT tb;exact⟨x,C,dx,a,H,rfl,I''.os,I''.bare,I''.base,I''.hok,o''.hx,o''.nx,nT,ne,hT,o''.rc,tb,q⟩
theorem Fun.okX{x qual:Str}{st:Stmt}{f:eR}{fd:eV}{N ps:List Str}{k:Nat}{sp:Sp}(F:Fun K x qual st f fd)(S:FnScope N ps (Ap st))(len:∀vs H Q E,sp vs H Q E->vs.length=ps.length)
 (hbody:∀(cdv:eo) (A:Around) (outer:List Env) (s:eS) (H:Hp) (vs:List V) (Q:VK) (E:XK),Room k (A.deeper (envOfC qual (Ap st) s.heap.objs.size f cdv))->sp vs H Q E->
   ∃t,PSs (cxX qx P w K mg base N qual (Ap st) f cdv A outer s H E) (Bp st) t/\t {nx:=λ_ H'=>Q .non H',rt:=Q} (start N vs) H):FnOk P w K mg base (CX1 qx P w) (k+1) f fd ps sp:=by
 clear 5 F.ex oc od kV doc pm an cdv ct osl rfl lk hcd;refine TY lk hcd S len λA outer s H vs Q E hr hsp=>?_;clear 5(hbody cdv A outer s H vs Q E hr hsp)t h q;exact⟨t,λei s1 σ H1 D I hw=>un8 (h ei s1 σ H1 D (I.wish _) hw) (λ_ _ q=>q.unwish) λ_ _ z=>z.leaves,q⟩
end
section
variable{X:Cx}{CX:CXT}{k:Nat}{f:eR}{fd:eV}{ps:List Str}{sp:Sp}{E:St->XK}{x:Str}{p pos:Pos}{e:Expr}{es:List Expr}{t:TA}
def YM(sp:Sp)(E:St->XK)(t:TA):TE:=λσ H Q=>t σ H λvs H1=>sp vs H1 Q (E σ)
theorem SH(F:FnOk X.prog X.w X.K X.mg X.base CX k f fd ps sp)(hr:Room k X.A)(hg:Gl X x)(hm:X.mg x=some (.ref f))(hk:PySem.W.keepIn X.K (.ref f)=true)(hb:Binds X.K fd ps [])(hx:Co CX X E)
 (ha:PA X (e::es) t) (hdb:autoParam ((x==("__debug__":Str))=false) q1T) (he:autoParam (starEach (e::es) X.env=(false,eval e X.env)::starEach es X.env) q3T) (hpl:autoParam ((backTo pos (starEach es X.env)).any (·.1)=false) q3T) :
 PE X (.Call (.Name x p) (e::es) [] pos) (YM sp E t):=by
 intro ei s σ H Q I h;refine fJ (CY I hg hm ?_ hdb);refine ue7 (h₀:=X.base) I.ok.mod.kin hk (thn (ha pos ei s σ H _ I h) λus s1 z9=>?_) he hpl;clear 5 z9 vs H1 I1 r q;refine⟨I1.kIn,?_⟩;have hl:(us++[]).length=ps.length:=by rw[ui8,<-r.length];exact F.len _ _ _ _ q
 refine gm (gd (F.run X.A X.stack s1 H1 ⟨us,[]⟩ us vs Q (E σ) hr I1.env0 (by have:=hb s1 us I1.kIn hl;rwa [ui8] at this) r q) λr s' hq=>?_)
 cases r with
 |error e=>exact hx ei σ H1 s1 e s' I1 hq
 |ok fl=>
   cases fl with
   |ret u=>exact I1.after hq
   |next=>exact False.elim hq
   |brk=>exact False.elim hq
   |cont=>exact False.elim hq
end
end
section
variable{qx:Bool}
def PM(qx:Bool)(X:Cx)(e:Expr)(C:eR)(t:St->Hp->(eR->Option eR->Hp->Prop)->Prop):Prop:=
 ∀(ei:List (eR×Obj)) (s:eS) (σ:St) (H:Hp) (Q:eR->Option eR->Hp->Prop),Inv X ei σ H s->t σ H Q->
  wpAny (model X.prog X.w) X.A (eval e X.env) (λv s1=>XB3 λx dx H1=>AB6 (v=.ref x) (Inv X ei σ H1 s1) (H1 x=some (.ext (L2.XIs qx x C dx))) (X.s₀.heap.objs.size<=x) (XRec true s1.heap x C dx .none) (Q x dx H1)) X.xe s
def FX(qx:Bool)(X:Cx)(E:St->XK):Prop:=∀(ei:List (eR×Obj)) (σ:St) (H:Hp) (s:eS) (x C:eR) (dx:Option eR),Inv X ei σ H s->XOn qx X ei H s x C dx none .none->E σ (.ref x) dx H->X.xe (.ref x) s
theorem XE.raises{X:Cx}{E:St->XK}:FX qx (X.wish (XE qx X E)) E:=λei σ H s x C dx I o q=>⟨ei,σ,H,x,C,dx,none,.none,rfl,I.unwish,⟨o.hx,o.nx,o.rc,o.tb,o.fo⟩,q⟩
theorem Mj{X:Cx}{e:Expr}{C:eR}{bm:List eo}{t:St->Hp->(eR->Option eR->Hp->Prop)->Prop}{E:St->XK}{pos:Pos}(hc:X.calm=true)(c:XCl X.K C bm)(hx:FX qx X E)(h:PM qx X e C t)
 (ho:autoParam (evalOpt (some e) X.env=some (eval e X.env)) q3T):PS X (.Raise (some e) none pos) (λ_ σ H=>t σ H λx dx H1=>E σ (.ref x) dx H1):=by
 intro ei s σ H D I q;rw[arm_exec_Raise,ho];refine un6 (fX ?_);refine SW (qx:=true) c (I.ok.hd hc) ?_;refine un6 (un8 (h ei s σ H _ I q) (λv s1 z9=>?_) λ_ _ z=>z);clear 5 z9 x dx H1 e1 I1 hx1 nx r q1;subst e1;refine un6 (fX (un7 ⟨x,dx,rfl,I1.kIn,r,hx ei σ H1 s1 x C dx I1 ⟨hx1,nx,r.to,(λa e=>by cases e),.inl rfl⟩ q1⟩))
set_option tactic.hygienic true in
theorem OG{K:eh}{h:Heap}{N:eR}{m:Str->Option eo}{n:Str}(X:K.In h)(G:h.Ns N m)(e:nsIn K N n=some none):m n=none:=by
 obtain⟨o,es,ep,ho,hd,_,hf⟩:=G;unfold nsIn at e
 split at e
 .next c d es' n' sl q=>
  have z:=X _ _ q;rw[ho] at z
  cases z
  cases hd
  split at e
  .cases e
  .next he=>rw[<-hf];unfold nsFind findBy;rw[<-ue6,he];rfl
 .cases e
section
variable{prog:eT}{w:eU}{A:Around}{E:eo->eS->Prop}{h:Heap}{g:Array GenState}{d:Drawn}{t:Nat}{os:OsState}{Q:eo->eS->Prop}
variable{nm q:Str}{C N:eR}{bs bm bmB:List eo}{hdct:Bool}{sn:List Str}{sub:List eo}{ab:Bool}{col:Option Bool}{dd:Option eR}{k0 k1 k2 k3 k5:Option eo}{B newId initId:String}{mN:Str->Option eo}
theorem Qj(F:ExcBaseFacts B newId initId bmB)(T:OwnTail h bmB bm){us:List eo}(hC:h.get? C=some (excClassObj nm q C N bs bm hdct sn sub ab col dd k0 k1 k2 k3 k5 newId))(hn:h.Ns N mN)(hni:mN "__init__" = none)(hus:us.length<=sizeLine)
 (hq:∀h' tp,(∀b o,h.get? b=some o->h'.get? b=some o)->h'.get? (h.objs.size+1)=some (excObj C tp)->Q (.ref (h.objs.size+1)) ⟨h',g,d,t,os⟩) :
 wpAny (model prog w) A (call (.ref C) us) Q E ⟨h,g,d,t,os⟩:=by
 have c1:=tc_lookup;have c2:=tc_bind (.ref C);have ty:(⟨h,g,d,t,os⟩:eS).TypeIs (.ref C) "type":=⟨_,hC,rfl⟩;refine gm (codeAny_of_tree ?_);show wpAny _ _ (callAny (.ref C) _) _ _ _
 repeat (any_goals (first
  |assumption
  |with_reducible refine fN hC ?_
  |wp_step))
 refine⟨rfl,codeAny_call_builtin_at (fK _ (by decide +kernel)) entry_typeCall (eZ hC ?_)⟩
 repeat (first
  |with_reducible refine fN hC ?_
  |with_reducible refine wpAny_madeBy_exc hC ?_
  |wp_step)
 refine fb (fK _ F.quiet) (wpAny_check_new_subT F T hC (codeAny_exc_new_subT F T hC ?_ hus))
 change wpAny _ _ _ _ _ (Shared.mk (DO h C us) g d t os)
 have kp:∀b o,h.get? b=some o->(DO h C us).get? b=some o:=λb o e=>uc1 _ (uc1 _ e);have he:(DO h C us).get? (h.objs.size+1)=some {cls:=.ref C,data:=.fields #[.ref h.objs.size,.none,.none,.none,.bool false,.none]}:=by heap_get
 have n1:(DO h C us).Ns N mN:=hn.keeps kp;have cC:(Value.ref C::bm).contains (.ref C)=true:=by simp
 unfold isInstance
 repeat (first
  |with_reducible refine fN he ?_
  |(with_reducible refine fG (kp _ _ hC) ?_;rw[cC])
  |wp_step)
 show wpAny _ _ (typeLookup (.ref C) _) _ _ _;refine wpAny_typeLookup_tail (kp _ _ hC) n1 (T.keeps kp) F.mroIs F.init.lookup ?_;rw[hni];refine ul7 (un6 (wpAny_of_eq (F.init.bind _) (un6 (gm (fD F.init.plain F.initEntry (wpAny_check_init_subT F (T.keeps kp) (kp _ _ hC) he rfl ?_))))))
 wp_walk
 refine hq _ ((DO h C us).objs.size) (λb o hb=>?_) ?_
 .rw[uc3 _ _ (um2 (Nat.lt_succ_of_lt (ul8 hb)))];exact uc1 _ (kp b o hb)
 .rw[uc8 _ (uc1 _ he) rfl];rfl
end
section
variable{X:Cx}{k:Nat}{f C P:eR}{fd:eV}{a:Str}{ps:List Str}{n:Str}{p pos:Pos}{e:Expr}{es:List Expr}
set_option tactic.hygienic true in
theorem VH{t:TA}{bm:List eo}{cd:ClassData}(c:XCl X.K C bm)(hk:keepIn X.K (.ref C)=true)(hcd:clsIn X.K C=some cd)(hni:nsIn X.K cd.ns "__init__" = some none)(hg:Gl X n)(hm:X.mg n=some (.ref C))(ha:PA X (e::es) t)
 (hdb:autoParam ((n==("__debug__":Str))=false) q1T) (h1:autoParam (starEach (e::es) X.env=(false,eval e X.env)::starEach es X.env) q3T) (hpl:autoParam ((backTo pos (starEach es X.env)).any (·.1)=false) q3T) :
 PM qx X (.Call (.Name n p) (e::es) [] pos) C (λσ H Q=>t σ H λvs H1=>vs.length<=1000/\∀x,H1 x=none->Q x none (upd H1 x (.ext (L2.XIs qx x C none)))):=by
 intro ei s σ H Q I h;refine fJ (CY I hg hm ?_ hdb);refine ue7 (h₀:=X.base) I.ok.mod.kin hk (thn (ha pos ei s σ H _ I h) λus s1 z9=>?_) h1 hpl;clear 5 z9 vs H1 I1 r hl q;refine⟨I1.kIn,?_⟩;clear 5(c.obj I1.kIn)nm q' N bs sn sub ab col dd k0 k1 k2 k3 k5 hC hN;have hni':s1.heap.nsMap N "__init__" = none:=by
  unfold clsIn at hcd
  split at hcd
  .next l=>
   cases hcd
   have z:=I1.kIn _ _ l;rw[hC] at z
   cases z
   exact OG I1.kIn hN hni
  .cases hcd
 clear 5 s1 hh g d tk os;refine Qj ua8 (c.tail I1.kIn) hC hN hni' (by show us.length<=sizeLine;rw[<-r.length];exact um0 hl (by decide)) λh' tp kp ht=>?_;have xr:XRec true h' (hh.objs.size+1) C none .none:=⟨_,_,ht,rfl,rfl,rfl,rfl,λ_=>⟨rfl,by show 4<6;decide⟩⟩;exact⟨_,none,_,rfl,I1.laid (h':=h') (t':=tk) kp (un4 _) (IT xr.to.is),Am,um0 I1.sz (un4 _),xr,q _ (I1.hok.fresh (un4 _))⟩
end
end
section
variable{qx:Bool}
abbrev Cx.mark(X:Cx)(x:eR):Cx:={X with A:=X.A.mark (some (.ref x)),calm:=false,xe:=λ_ _=>False}
section
variable{X:Cx}{ei:List (eR×Obj)}{σ:St}{H:Hp}{s:eS}{D:Ends}
theorem Inv.mark(I:Inv X ei σ H s)(x:eR):Inv (X.mark x) ei σ H s:=
 ⟨⟨I.ok.mod,I.ok.kind,I.ok.glob,I.ok.blt,I.ok.above,I.ok.inj,I.ok.has,I.ok.cab,(λz=>by cases z),I.ok.frames,I.ok.stk,I.ok.exf,I.ok.bs,I.ok.bsz,I.ok.noex,I.ok.exfs,I.ok.funs,I.ok.frf⟩,I.os,I.bare,I.base,I.loc,I.cell,I.free,I.freeC,I.pin,I.hok,I.len⟩
theorem Inv.unmark{x:eR}(J:X.Ok)(I:Inv (X.mark x) ei σ H s):Inv X ei σ H s:=⟨J,I.os,I.bare,I.base,I.loc,I.cell,I.free,I.freeC,I.pin,I.hok,I.len⟩
theorem Inv.repin{pn' pins':List (eR×Obj)}{xe:eo->eS->Prop}(I:Inv X ei σ H s)(h:∀p∈pn'++pins',p∈X.pn++ei):Inv {X with pn:=pn',xe:=xe} pins' σ H s:=
 ⟨⟨I.ok.mod,I.ok.kind,I.ok.glob,I.ok.blt,I.ok.above,I.ok.inj,I.ok.has,I.ok.cab,I.ok.hd,I.ok.frames,I.ok.stk,I.ok.exf,I.ok.bs,I.ok.bsz,I.ok.noex,I.ok.exfs,I.ok.funs,I.ok.frf⟩,I.os,I.bare,I.base,I.loc,I.cell,I.free,I.freeC,λp hp=>I.pin p (h p hp),I.hok,I.len⟩
theorem SP.unmark{x:eR}(J:X.Ok){f:Flow}(h:SP (X.mark x) ei D f s):SP X ei D f s:=by
 cases f with
 |next=>clear 5 h σ' H' I q;exact⟨σ',H',I.unmark J,q⟩
 |brk=>clear 5 h σ' H' I q;exact⟨σ',H',I.unmark J,q⟩
 |cont=>clear 5 h σ' H' I q;exact⟨σ',H',I.unmark J,q⟩
 |ret u=>clear 5 h v σ' H' I r q;exact⟨v,σ',H',I.unmark J,r,q⟩
theorem GC{M:Model}{A:Around}{E:eo->eS->Prop}{i:Nat}{n:Str}{pos:Pos}{Q:Unit->eS->Prop}(I:Inv X ei σ H s)(hN:X.N.Nodup)(hi:X.N[i]?=some n)(hk:X.env.scope.names.lookup n=some .local)
 (h:∀s',Inv X ei (σ.set i none) H s'->Q () s'):wpAny M A (do bindName X.env n .none;unbindBehindTheSuite X.env n pos) Q E s:=by
 refine un6 (wpAny_bindName (Fz (v:=.non) I hN hi (.inl hk) rfl (λs1 I1=>?_) (.inr hk)));unfold unbindBehindTheSuite;have hiσ:i < σ.length:=by rw[I.len];exact(ub0.mp hi).1
 clear 5(id I1.loc)m hn hl;have hcls:(X.env.scope.kind==.class||(X.env.scope.kind==.module&&X.env.locals != X.env.globals))=false:=by rw[I.ok.kind];rfl
 obtain⟨u0,_,lk⟩:=hl i n .non hi (by rw[uc0 hiσ]) (.inl hk);have hv:m n=some u0:=by
  rcases lk with⟨_,e⟩|⟨k,_⟩
  .exact e
  .have k:X.env.scope.names.lookup n=some .cell\/X.env.scope.names.lookup n=some .free:=k;rw[hk] at k;rcases k with k|k<;>cases k
 refine wpAny_onRaise (wpAny_unbindName_local hk hn hv hcls λh' u hn' hs=>?_);have cne:=I1.cne;have tracked:HOk X.prog X.w H h':=λb ob e=>by
  refine(I1.hok b ob e).stay (λc w' hc q=>(hs.2 c ?_).trans q) (λ_ q=>q) λ_ _ q=>q;rintro rfl;rcases hc with rfl|hc
  .rw[I1.free] at e;cases e
  .rw[I1.free] at hc;cases hc
 have far:∀b o,X.s₀.heap.get? b=some o->b≠X.env.locals:=λb o e=>ul9 (ue3 (ul8 e) I1.ok.above);refine h _ ⟨I1.ok,I1.os,I1.bare,⟨λb o e n hb hx=>?_,λb o e n hb hx=>?_,I1.base.free,λb o e hx=>?_,I1.base.tups,I1.base.frzs,I1.base.tbls⟩,⟨_,hn',λj y v' e1 e2 e3=>?_⟩,λy c e=>?_,I1.free,I1.freeC,λp hp=>?_,tracked,by simpa using I.len⟩
 .exact(hs.2 b (far b o e)).trans (I1.base.keep b o e n hb hx)
 .clear 5(I1.base.slot b o e n hb hx)sl e1;exact⟨sl,(hs.2 b (far b o e)).trans e1⟩
 .clear 5(I1.base.there b o e hx)o' e1;exact⟨o',(hs.2 b (far b o e)).trans e1⟩
 .by_cases hj:j=i
  .subst hj;rw[uc0 hiσ] at e2
   cases e2
  .rw[ud5 (Ne.symm hj)] at e2;clear 5(hl j y v' e1 (by rw[ud5 (Ne.symm hj)];exact e2) e3)u' r' q;refine⟨u',r',?_⟩;rcases q with⟨k,e⟩|⟨k,c,e,z⟩
   .refine .inl ⟨k,?_⟩;have:y≠n:=λe=>hj (Gx hN e1 (e ▸ hi));simp[this,e]
   .exact .inr ⟨k,c,e,z.sameBut hs (cne y c e)⟩
 .clear 5(I1.cell y c e)w' z;exact⟨w',z.sameBut hs (cne y c e)⟩
 .clear 5(I1.pin p hp)e n ne nf d;exact⟨(hs.2 p.1 ne).trans e,n,ne,nf,d⟩
end
def PH(qx:Bool)(X:Cx)(hs:List ExceptHandler)(th:eR->eR->Option eR->TS):Prop:=∀(ei:List (eR×Obj)) (s:eS) (σ:St) (H:Hp) (x C:eR) (dx:Option eR) (T:eR) (D:Ends),Inv X ei σ H s->XOn qx X ei H s x C dx (some T) .none->th x C dx D σ H->
 wpAny (model X.prog X.w) X.A (handleBy (.ref x) X.env hs) (SP X ei D) X.xe s
noncomputable def Ends.unset(D:Ends)(i:Nat):Ends:={nx:=λσ H=>D.nx (σ.set i none) H,rt:=D.rt,bk:=λσ H=>D.bk (σ.set i none) H,ct:=λσ H=>D.ct (σ.set i none) H}
section
variable{X:Cx}{n v:Str}{C':eR}{bm':List eo}{p pos:Pos}{b₀:Stmt}{suite:List Stmt}{rest:List ExceptHandler}{ts:eR->TS}{tr:eR->eR->Option eR->TS}{i:Nat}
def bA(K:eh)(C':eR)(i:Nat)(ts:eR->TS)(tr:eR->eR->Option eR->TS):eR->eR->Option eR->TS:=λx C dx D σ H=>∃bm,XCl K C bm/\
 if (Value.ref C::bm).contains (.ref C')=true then ts x (D.unset i) (σ.set i (some (.ref x))) H else tr x C dx D σ H
theorem ZC(hg:Gl X n)(hm:X.mg n=some (.ref C'))(c':XCl X.K C' bm')(hN:X.N.Nodup)(hi:X.N[i]?=some v)(hl:X.env.scope.names.lookup v=some .local)(hb:∀x,PSs (X.mark x) (b₀::suite) (ts x))(hr:PH qx X rest tr)
 (hdb:autoParam ((n==("__debug__":Str))=false) q1T):PH qx X (.ExceptHandler (some (.Name n p)) (some v) (b₀::suite) pos::rest) (bA X.K C' i ts tr):=by
 intro ei s σ H x C dx T D I o ⟨bm,c,q⟩;have Im:=I.mark x;refine fH (fz (CY Im hg hm ?_ hdb)) (by intro z;cases z)
 refine Ij c c' I.kIn o.rc ?_
 cases hc:(Value.ref C::bm).contains (.ref C') with
 |false=>
   rw[hc,gG (by decide)] at q;exact hr ei s σ H x C dx T D I o q
 |true=>
   rw[hc,gE rfl] at q;refine fc ?_;refine D5 none I o trivial λh1 I1 o1=>?_;refine Fz (v:=.ref x) I1 hN hi (.inl hl) rfl (λs2 I2=>?_) (.inr hl);refine un8 (hb x ei s2 _ H _ (I2.mark x) q) (λf s3 z=>?_) λ_ _ z=>z.elim;show wpAny _ _ _ _ _ _;have J:=I.ok
   cases f with
   |next=>clear 5 z σ' H' I' q';exact GC (I'.unmark J) hN hi hl λs4 I4=>⟨_,H',I4,q'⟩
   |brk=>clear 5 z σ' H' I' q';exact GC (I'.unmark J) hN hi hl λs4 I4=>⟨_,H',I4,q'⟩
   |cont=>clear 5 z σ' H' I' q';exact GC (I'.unmark J) hN hi hl λs4 I4=>⟨_,H',I4,q'⟩
   |ret u=>clear 5 z w σ' H' I' r q';exact GC (I'.unmark J) hN hi hl λs4 I4=>⟨w,_,H',I4,r,q'⟩
def bB(K:eh)(C':eR)(ts:TS)(tr:eR->eR->Option eR->TS):eR->eR->Option eR->TS:=λx C dx D σ H=>∃bm,XCl K C bm/\
 if (Value.ref C::bm).contains (.ref C')=true then ts D σ H else tr x C dx D σ H
theorem ZD{ts:TS}(hg:Gl X n)(hm:X.mg n=some (.ref C'))(c':XCl X.K C' bm')(hb:∀x,PSs (X.mark x) (b₀::suite) ts)(hr:PH qx X rest tr)
 (hdb:autoParam ((n==("__debug__":Str))=false) q1T):PH qx X (.ExceptHandler (some (.Name n p)) none (b₀::suite) pos::rest) (bB X.K C' ts tr):=by
 intro ei s σ H x C dx T D I o ⟨bm,c,q⟩;have Im:=I.mark x;refine fH (fz (CY Im hg hm ?_ hdb)) (by intro z;cases z)
 refine Ij c c' I.kIn o.rc ?_
 cases hc:(Value.ref C::bm).contains (.ref C') with
 |false=>
   rw[hc,gG (by decide)] at q;exact hr ei s σ H x C dx T D I o q
 |true=>
   rw[hc,gE rfl] at q;refine codeAny_handlers_suite ?_;refine D5 none I o trivial λh1 I1 o1=>?_;exact un8 (hb x ei _ _ H _ (I1.mark x) q) (λf s3 z=>z.unmark I.ok) λ_ _ z=>z.elim
theorem Yk{body:List Stmt}{h₀:ExceptHandler}{hs:List ExceptHandler}{tb:(St->XK)->TS}{th:eR->eR->Option eR->TS}(h1:X.stack=X.env::X.outer)(h2:X.env.frame=some X.env.locals)
 (hb:∀(pn:List (eR×Obj)) (E:St->XK),PSs {X with pn:=pn,xe:=XE qx {X with pn:=pn} E} body (tb E)) (hh:PH qx X (h₀::hs) th) :
 PS X (.Try body (h₀::hs) [] [] pos) (λD σ H=>tb (λσ' v dx H'=>∀x C,v=.ref x->H' x=some (.ext (L2.XIs qx x C dx))->(∃h,L2.XIs qx x C dx h)->th x C dx D σ' H') D σ H):=by
 intro ei s σ H D I q;refine wpAny_Try_except ?_;refine un8 (hb (X.pn++ei) _ [] s σ H D (I.repin λp hp=>by simpa using hp) q) (λf s1 z=>?_) λe s1 z=>?_
 .have back:∀{σ':St}{H':Hp},Inv {X with pn:=X.pn++ei,xe:=XE qx {X with pn:=X.pn++ei} (λσ' v dx H'=>∀x C,v=.ref x->H' x=some (.ext (L2.XIs qx x C dx))->(∃h,L2.XIs qx x C dx h)->th x C dx D σ' H')} [] σ' H' s1->Inv X ei σ' H' s1:=λJ=>J.repin (X:={X with pn:=X.pn++ei,xe:=_}) (pn':=X.pn) (pins':=ei) (xe:=X.xe) λp hp=>by simpa using hp
  cases f with
  |next=>clear 5 z σ' H' J q';exact fR ⟨σ',H',back J,q'⟩
  |brk=>clear 5 z σ' H' J q';exact⟨σ',H',back J,q'⟩
  |cont=>clear 5 z σ' H' J q';exact⟨σ',H',back J,q'⟩
  |ret u=>clear 5 z w σ' H' J r q';exact⟨w,σ',H',back J,r,q'⟩
 .clear 5 z pins' σ' H' x C dx T fl rfl J o q';have J1:Inv X ei σ' H' s1:=J.repin (X:={X with pn:=X.pn++ei}) (pn':=X.pn) (pins':=ei) (xe:=X.xe) λp hp=>by
   simp only[ui4] at hp⊢;exact .inl hp
  have o1:XOn qx X ei H' s1 x C dx T fl:=⟨o.hx,o.nx,o.rc,λa e=>by
   obtain⟨z1,z2,z3,⟨y1,y2,y3⟩,z5⟩:=o.tb a e;exact⟨z1,z2,z3,⟨y1,y2,λp hp=>y3 p (by simp only[ui4] at hp⊢;exact .inl hp)⟩,z5⟩,o.fo⟩
  refine Fr J1.ok.frames J1 h1 h2 o1 λh' a I' o'=>D5 none I' o' trivial λh'' I'' o''=>?_;exact hh ei _ σ' H' x C dx a D I'' o'' (q' x C rfl o.hx ⟨_,o.rc.is⟩)
end
end
section
variable{qx:Bool}
noncomputable def Ba:D->Bool
 |.exc _ _=>true
 |_=>false
def exE(E:XK)(v:V)(H:Hp):Prop:=∀x dx,v=.ref x->E (.ref x) dx H
section
variable(K:eh)
inductive RX(E:L2.St->XK)(f:M D)(σ:L2.St)(H:Hp)(Q:VK):Prop where
 |mk (Oo:eR->Prop) (c:Cf) (t:T) (fi:FInv K Oo c t σ H) (r:D) (t':T) (e:f t=some (r,t')) (k:∀v H' c',FInv K Oo c' t' σ H'->Stp Oo c H c' H'->Rep K c' H' v r->if Ba r=true then exE (E σ) v H' else Q v H'):RX E f σ H Q
def μX(E:XK):Cf->Hp->D->(V->Hp->Prop)->Prop:=λc H r rt=>∀v,Rep K c H v r->if Ba r=true then exE E v H else rt v H
inductive RSX(E:L2.St->XK)(f:M Out)(D:Ends)(σ:L2.St)(H:Hp):Prop where
 |mk (Oo:eR->Prop) (c:Cf) (t:T) (fi:FInv K Oo c t σ H) (o:Out) (t':T) (e:f t=some (o,t')) (k:∀σ' H' c',FInv K Oo c' t' σ' H'->Stp Oo c H c' H'->
 match (generalizing:=false) o with
 |.next=>D.nx σ' H'
 |.brk=>D.bk σ' H'
 |.cont=>D.ct σ' H'
 |.ret r=>∀v,Rep K c' H' v r->if Ba r=true then exE (E σ') v H' else D.rt v H'):RSX E f D σ H
inductive spX(f:Fn)(vs:List V)(H:Hp)(Q:VK)(E:XK):Prop where
 |mk (c:Cf) (ds:List D) (S:List Ob) (si:SInv K c S H) (rs:Reps K c H vs ds) (r:D) (S':List Ob) (e:f ds S=some (r,S')) (k:∀v H' c',SInv K c' S' H'->Stp c.O c H c' H'->(∀b,c'.O b↔c.O b)->Rep K c' H' v r->if Ba r=true then exE E v H' else Q v H'):spX f vs H Q E
end
variable{x:Str}{fa:eR}{fd:eV}
section
variable{P:eT}{w:eU}{K:eh}{mg:Str->Option eo}{base:Heap}
set_option tactic.hygienic true in
theorem M7{qual:Str}{st:Stmt}{N ps:List Str}{k n m:Nat}{g:M Out}(e1:ps.length=n)(e2:N.length=m)(F:Fun K x qual st fa fd)(S:FnScope N ps (Ap st))
 (hb:∀(cdv:eo) (A:Around) (outer:List Env) (s:eS) (H:Hp) (E:XK),Room k (A.deeper (PyProof.Rows.envOfC qual (Ap st) s.heap.objs.size fa cdv))->
   Co (CX1 qx P w) (cxX qx P w K mg base N qual (Ap st) fa cdv A outer s H E) (λ_=>E)->FX qx (cxX qx P w K mg base N qual (Ap st) fa cdv A outer s H E) (λ_=>E)->
   PassesOwn (model P w) (cxX qx P w K mg base N qual (Ap st) fa cdv A outer s H E).A (cxX qx P w K mg base N qual (Ap st) fa cdv A outer s H E).env (cxX qx P w K mg base N qual (Ap st) fa cdv A outer s H E).xe->
   PSs (cxX qx P w K mg base N qual (Ap st) fa cdv A outer s H E) (Bp st) (RSg K (μX K E) g)):FnOk P w K mg base (CX1 qx P w) (k+1) fa fd ps (spX K (fnOf n m g)):=by
 subst e1 e2;have hlen:∀{ds:List D}{S:List Ob}{z:D×List Ob},fnOf ps.length N.length g ds S=some z->ds.length=ps.length:=λ{ds S z} h=>by
  unfold fnOf at h
  split at h
  .next h1=>exact h1
  .cases h
 refine F.okX S (λvs H Q E h=>?_) (λcdv A outer s H vs Q E hr h=>?_)
 .obtain⟨c,ds,S,si,rs,r,S',e,_⟩:=h;rw[rs.length];exact hlen e
 clear 5 h c ds S0 si rs r S' e kk;refine⟨RSg K (μX K E) g,hb cdv A outer s H E hr XE.pass XE.raises (XE.own rfl rfl),?_⟩;have hl:=hlen e;unfold fnOf at e;rw[gE hl] at e
 cases eg:g ⟨env0 N.length ds,S0⟩ with
 |none=>rw[eg] at e;cases e
 |some p=>
   clear 5 p o t;rw[eg] at e;refine⟨c.O,c,_,IX si rs,o,t,eg,λσ' H' c' f' s'=>?_⟩;clear 5 f'.leave si' ext';have st':Stp c.O c H ⟨c'.ι,c.O⟩ H':=⟨s'.ext.trans ext',s'.oo⟩
   cases o with
   |next=>cases e;exact kk .non H' _ si' st' (λ_=>gD) .non
   |ret d=>cases e;exact λv rv=>kk v H' _ si' st' (λ_=>gD) (rv.mono ext')
   |brk=>cases e
   |cont=>cases e
theorem NM{ps:List Str}{k:Nat}{f g:Fn}(e:f=g)(h:FnOk P w K mg base (CX1 qx P w) k fa fd ps (spX K g)):FnOk P w K mg base (CX1 qx P w) k fa fd ps (spX K f):=by rw[e];exact h
end
variable{f g:M D}{r:D}
section
variable{X:Cx}{e a b:Expr}{es:List Expr}{pos:Pos}{E:L2.St->XK}{st:Stmt}
theorem HL{E:XK}{f:M Out}(h:PS X st (RSX X.K (λ_=>E) f)):PS X st (RSg X.K (μX X.K E) f):=Bh h λD σ H z9=>by
 clear 5 z9 Oo c t fi o t' eq k;refine⟨Oo,c,t,fi,o,t',eq,λσ' H' c' f' s'=>?_⟩;have q:=k σ' H' c' f' s'
 cases o<;>exact q
theorem Ng{k:Nat}{ps:List Str}{g:Fn}{f:M (List D)}{p:Pos}(F:FnOk X.prog X.w X.K X.mg X.base (CX1 qx X.prog X.w) k fa fd ps (spX X.K g))(hr:Room k X.A)(hg:Gl X x)(hm:X.mg x=some (.ref fa))(hk:PySem.W.keepIn X.K (.ref fa)=true)(hb:Binds X.K fd ps [])
 (hx:Co (CX1 qx X.prog X.w) X E) (ha:PA X (e::es) (RA X.K f)) (hdb:autoParam ((x==("__debug__":Str))=false) q1T) (h1:autoParam (A4 e=false) q3T) (h2:autoParam (A9 es=true) q3T) :
 PE X (.Call (.Name x p) (e::es) [] pos) (RX X.K E (Ah g f)):=
 AB (SH F hr hg hm hk hb hx ha hdb (AJ h1) (AL h2).1) λσ H Q z9=>by
  clear 5 z9 Oo c t fi r t' eq kk;clear 5(Af eq)ds t1 e1 eq;clear 5(GN eq)S' e2 rfl;refine⟨Oo,c,t,fi,ds,t1,e1,λvs H1 c1 f1 s1 rvs=>?_⟩;refine⟨c1,ds,t1.S,f1.s,rvs,r,S',e2,λv H' c' si st ho rv=>?_⟩;clear 5(f1.after si st ho)f2 s2;exact kk v H' c' f2 (s1.trans s2) rv
def nxD(f:M D):M D:=bnd f λd=>if Ba d=true then fail else ret d
theorem Ma{t t':T}(h:nxD f t=some (r,t')):f t=some (r,t')/\Ba r=false:=by
 clear 5(Af h)d t1 e1 h
 by_cases hx:Ba d=true
 .rw[gE hx] at h;cases h
 .rw[gG hx] at h;cases h;exact⟨e1,by simpa using hx⟩
theorem P0{A B:Prop}(h:Ba r=false)(q:if Ba r=true then A else B):B:=by rw[gG (by rw[h];decide)] at q;exact q
def JD(g:M D)(h:D->M D):M D:=bnd g λy=>if Ba y=true then ret y else nxD (h y)
theorem RX.bind{K:eh}{h:D->M D}{σ:L2.St}{H:Hp}{Q:VK}{Oo:eR->Prop}{c:Cf}{t t':T}(fi:FInv K Oo c t σ H)(eq:JD g h t=some (r,t'))
 (k:∀v H' c',FInv K Oo c' t' σ H'->Stp Oo c H c' H'->Rep K c' H' v r->if Ba r=true then exE (E σ) v H' else Q v H'){R:V->Hp->Prop}
 (s:∀y dy t1 H1 c1,FInv K Oo c1 t1 σ H1->Stp Oo c H c1 H1->Rep K c1 H1 y dy->h dy t1=some (r,t')->(∀v H' c',FInv K Oo c' t' σ H'->Stp Oo c1 H1 c' H'->Rep K c' H' v r->Q v H')->R y H1):RX K E g σ H R:=by
 clear 5(Af eq)dy t1 e1 eq;refine⟨Oo,c,t,fi,dy,t1,e1,λy H1 c1 f1 s1 ry=>?_⟩
 by_cases hx:Ba dy=true
 .rw[gE hx] at eq⊢
  cases eq
  have:=k y H1 c1 f1 s1 ry;rw[gE hx] at this;exact this
 .rw[gG hx] at eq⊢;clear 5(Ma eq)e2 e3;exact s y dy t1 H1 c1 f1 s1 ry e2 λv H' c' f' s' rv=>P0 e3 (k v H' c' f' (s1.trans s') rv)
def Hw(f g:M D)(h:D->D->M D):M D:=bnd f λx=>JD g λy=>h x y
theorem RX.two{K:eh}{h:D->D->M D}{R:R2}(s:A5 K R h){σ:L2.St}{H:Hp}{Q:VK}(q:RX K E (Hw f g h) σ H Q):tOp R (RE K f) (RX K E g) σ H Q:=by
 clear 5 q Oo c t fi r t' eq k;clear 5(Af eq)dx t1 e1 eq;refine⟨Oo,c,t,fi,dx,t1,e1,λx H1 c1 f1 s1 rx=>?_⟩;exact RX.bind f1 eq (λv H' c' f' s' rv=>k v H' c' f' (s1.trans s') rv) λy dy t2 H2 c2 f2 s2 ry e2 kk=>s f2 (rx.mono s2.ext) ry e2 kk
theorem Zp{op:Operator}{R:R2}{h:D->D->M D}(ho:OpR X (binaryOp op) R)(s:A5 X.K R h)(ha:PE X a (RE X.K f))(hb:PE X b (RX X.K E g)):PE X (.BinOp a op b pos) (RX X.K E (Hw f g h)):=
 AB (OL ho ha hb) λ_ _ _ q=>RX.two s q
theorem JQ(h:PE X e (RX X.K E f)):PS X (.Return (some e) pos) (RSX X.K E (Ao f)):=
 Bh (Ml h) λD σ H z9=>by
  clear 5 z9 Oo c t fi o t' eq k;clear 5(Af eq)d t1 e1 eq
  cases eq
  exact⟨Oo,c,t,fi,d,_,e1,λv H1 c1 f1 s1 rv=>k σ H1 c1 f1 s1 v rv⟩
def Dj(i:Nat)(f:M D):M Out:=bnd f λd=>if Ba d=true then ret (.ret d) else bnd (As i d) λ_=>ret .next
theorem Nd{i:Nat}{pos':Pos}(hN:X.N.Nodup)(hi:X.N[i]?=some x)(hx:Loc X.env.scope x)(he:PE X e (RX X.K E f))(hs:autoParam (swapsWith e (some (.Name x pos')) pos.line X.env=pure false) q3T)(hf:autoParam (X.fn x=true\/X.env.scope.names.lookup x=some .local) q0T) :
 PS X (.Assign [.Name x pos'] e pos) (RSX X.K E (Dj i f)):=Bh (Mm hN hi hx he hs hf) λD σ H z9=>by
 clear 5 z9 Oo c t fi o t' eq k;clear 5(Af eq)d t1 e1 eq;refine⟨Oo,c,t,fi,d,t1,e1,λv H1 c1 f1 s1 rv=>?_⟩
 by_cases hx:Ba d=true
 .rw[gE hx] at eq⊢
  cases eq
  have:=k σ H1 c1 f1 s1 v rv;rw[gE hx] at this;exact this
 .rw[gG hx] at eq⊢
  cases eq
  exact k _ H1 c1 (f1.set rv) s1
def IS(f:M D):M Out:=bnd f λd=>if Ba d=true then ret (.ret d) else ret .next
theorem R8(h:PE X e (RX X.K E f))(hs:autoParam (swapsWith e none pos.line X.env=pure false) q3T):PS X (.Expr e pos) (RSX X.K E (IS f)):=
 Bh (JY h hs) λD σ H z9=>by
  clear 5 z9 Oo c t fi o t' eq k;clear 5(Af eq)d t1 e1 eq;refine⟨Oo,c,t,fi,d,t1,e1,λv H1 c1 f1 s1 rv=>?_⟩
  by_cases hx:Ba d=true
  .rw[gE hx] at eq⊢
   cases eq
   have:=k σ H1 c1 f1 s1 v rv;rw[gE hx] at this;exact this
  .rw[gG hx] at eq⊢
   cases eq
   exact k σ H1 c1 f1 s1
theorem Sa{f:M Out}(h:PS X st (RSX X.K E f)):PSs X [st] (RSX X.K E f):=HH h
end
end
structure XGet(K:eh)(C:eR):Prop where
 ga:findIn K (.ref C) "__getattribute__" = some (some (.builtin "BaseException.__getattribute__"))
 gt:findIn K (.ref C) "__getattr__" = some none
 mb:mroIn K C (.type "BaseException")=some true
 mo:mroIn K C (.type "object")=some true
 hd:hasDictIn K C=true
section
variable{prog:eT}{w:eU}{A:Around}{E:eo->eS->Prop}{s:eS}{K:eh}{x C:eR}{ox:Obj}{od:Option Obj}{name:Str}{tk:Tok}{Q:eo->eS->Prop}{R:Result->eS->Prop}
theorem Kt{fill expr:Bool}(X:K.In s.heap)(I:InstAt s.heap x ox C od)(g:XGet K C)
 (h:codeAny (model prog w) A (.call (.builtin "BaseException.__getattribute__") ⟨[.ref x,.str name tk],[]⟩) (λr s'=>match r with | .ok (.ret v)=>wpAny (model prog w) A (handedOut v) Q E s'|_=>False) s) :
 wpAny (model prog w) A (getAttrBy (.ref x) (.str name tk) fill expr) Q E s:=by
 have L0:=I.type (M:=model prog w);have L1:=gf (M:=model prog w) X g.ga;have L2:=gf (M:=model prog w) X g.gt;have ne:(onTheHeap (Value.ref C)&&Value.builtin "BaseException.__getattribute__" == Value.builtin "object.__getattribute__")=false:=by
  rw[show(Value.builtin "BaseException.__getattribute__" == Value.builtin "object.__getattribute__")=false from by decide +kernel];rfl
 unfold getAttrBy;refine ul7 (un6 (L0.here (un6 (L1.here ?_))));show wpAny _ _ (if (onTheHeap (Value.ref C)&&Value.builtin "BaseException.__getattribute__" == Value.builtin "object.__getattribute__")=true then _ else _) _ _ _;rw[gG (by rw[ne];decide)];unfold getAttrByItsOwn hookBefore;rw[gE (show onTheHeap (Value.ref C)=true from rfl)];refine un6 (L2.here (un6 (wpAny_attempt (ul7 ?_))));unfold callGetattribute;rw[gG (show ¬((expr&&onTheHeap (Value.builtin "BaseException.__getattribute__"))=true) from by cases expr<;>decide)];unfold boundAndCalled;refine un6 (wpAny_of_eq (PySem.F.excAttr_ValueError.ga.bind _) (gm (gd h λr s' z=>?_)))
 cases r with
 |error e=>exact z.elim
 |ok f=>cases f<;>first|exact z|exact z.elim
theorem LM(X:K.In s.heap)(I:InstAt s.heap x ox C od)(g:XGet K C)
 (h:wpAny (model prog w) A.in1 («object.__getattribute__» ⟨[.ref x,.str name tk],[]⟩) (λfin s'=>match fin with | .done f=>R (.ok f) s' | .again c'=>c'.quiet=true/\codeAny (model prog w) A c' R s') (λe s'=>R (.error e) s') s) :
 codeAny (model prog w) A (.call (.builtin "BaseException.__getattribute__") ⟨[.ref x,.str name tk],[]⟩) R s:=by
 have ob:Looks (model prog w) s.heap (isInstance (.ref x) (.type "BaseException")) true:=I.type.andThen (looks_mroIn X g.mb);refine fD PySem.F.excAttr_ValueError.ga.plain PySem.F.entry_bexc_ga (@check_slot (model prog w) _ _ s "BaseException.__getattribute__" "BaseException" "__getattribute__" (.ref x) [.str name tk] [] _ (by decide +kernel) (by decide +kernel) ob (PySem.F.args_bexc_ga (.ref x) (.str name tk)) h)
theorem Sc{v:eo}(X:K.In s.heap)(I:InstAt s.heap x ox C od)(g:XGet K C)(hf:findObj K C od name=some (.value v))(h:R (.ok (.ret v)) s) :
 codeAny (model prog w) A (.call (.builtin "BaseException.__getattribute__") ⟨[.ref x,.str name tk],[]⟩) R s:=by
 refine LM X I g ?_;have L0:=I.type (M:=model prog w);have L1:=looks_find (M:=model prog w) X I hf;refine un6 (un7 (un6 (un7 (un6 (L0.here (un6 (L1.here ?_)))))));exact un7 h
theorem UW{gg a:eo}(X:K.In s.heap)(I:InstAt s.heap x ox C od)(g:XGet K C)(hf:findObj K C od name=some (.bind gg a))(h:codeAny (model prog w) A.in1 (.call gg ⟨[a,.ref x,.ref C],[]⟩) (λr s'=>match r with | .ok (.ret v)=>R (.ok (.ret v)) s' | .ok _=>False | .error e=>R (.error e) s') s) :
 codeAny (model prog w) A (.call (.builtin "BaseException.__getattribute__") ⟨[.ref x,.str name tk],[]⟩) R s:=by
 refine LM X I g ?_;have L0:=I.type (M:=model prog w);have L1:=looks_find (M:=model prog w) X I hf;refine un6 (un7 (un6 (un7 (un6 (L0.here (un6 (L1.here ?_)))))));show wpAny _ _ (bindTo gg a (.ref x) (.ref C)) _ _ _;unfold bindTo;refine un6 (ul7 (gm (gd h λr s' z=>?_)))
 cases r with
 |error e=>exact z
 |ok f=>cases f<;>first|exact un7 z|exact z.elim
end
theorem Us(K:eh):specialIn K (.builtin "object.__class__") "__get__" = some (some (.builtin "getset_descriptor.__get__")):=by kernel_rfl
theorem Ps(K:eh):takesIn K (.builtin "object.__class__")=some true:=by kernel_rfl
theorem LH{K:eh}{C:eR}{od:Option Obj}(hc:(clsIn K C).isSome=true)(ha:findIn K (.ref C) "__class__" = some (some (.builtin "object.__class__"))):findObj K C od "__class__" = some (.bind (.builtin "getset_descriptor.__get__") (.builtin "object.__class__")):=by
 clear 5(fe.mp hc)cd hc;unfold findObj;rw[hc,uh8,ha,uh8];simp[Us,Ps]
def TN(x C:eR)(h:Heap):Prop:=∃ox od,InstAt h x ox C od
set_option tactic.hygienic true in
theorem LQ{K:eh}{x C:eR}(g:XGet K C)(ha:findIn K (.ref C) "__class__" = some (some (.builtin "object.__class__"))):KitX K (.ref x) (.ref C) (TN x C) where
 ty:=λ_ _ _ ⟨_,_,I⟩=>I.type
 it:=λ_ _ X _=>by
  obtain⟨cd,hc,_⟩:=any_some g.hd;unfold clsIn at hc
  split at hc
  .next ho=>
   intro A' Q' E' s' k q;unfold isType loadHead;exact un6 (fU (k _ _ (X _ _ ho)) (un7 q))
  .cases hc
 ne:=λh tp dd its n sl X htp=>by
  obtain⟨cd,hc,_⟩:=any_some g.hd;refine ug2.mpr λq=>?_;have e:C=tp:=Value.ref.inj (gl.mp q);subst e;unfold clsIn at hc
  split at hc
  .next ho=>
   have z:=(X _ _ ho).symm.trans htp
   cases z
  .cases hc
 ca:=λ{prog w A E Q s} X z9 k=>by
  clear 5 z9 ox od I;obtain⟨cd,hc,_⟩:=any_some g.hd;unfold getAttr? getAttrBy?;refine un6 (wpAny_mkText (un6 (wpAny_attempt ?_)));refine Kt (s:={s with toks:=s.toks+1}) X I g (UW X I g (LH (by rw[hc];rfl) ha) (class_get (s:={s with toks:=s.toks+1}) X I g.mo ?_));exact handed_on rfl (un7 k)
section
variable{qx:Bool}
abbrev AY:List Str:=["NoValue", "Short", "Broken", "NoTalk", "NoName", "NoText", "NoRow"]
structure XM(K:eh)(mg:Str->Option eo)(P:eR)(ca:Str->eR):Prop where
 pm:mg "ParleyError" = some (.ref P)
 pc:XCl K P VE
 ns:∀n∈AY,nsIn K mainGlobals n=some (some (.ref (ca n)))
 ms:∀n∈AY,mg n=some (.ref (ca n))
 cl:∀n∈AY,XCl K (ca n) (.ref P::VE)
 inj:∀n∈AY,∀m∈AY,ca n=ca m->n=m
 np:∀n∈AY,ca n≠P
 kp:∀n∈AY,keepIn K (.ref (ca n))=true
 gt:∀n∈AY,XGet K (ca n)
 gc:∀n∈AY,findIn K (.ref (ca n)) "__class__" = some (some (.builtin "object.__class__"))
 na:∀n∈AY,findIn K (.ref (ca n)) "at" = some none
 nd:∀n∈AY,findIn K (.ref (ca n)) "side" = some none
noncomputable def Ck(n m:Str):Bool:=m == "ParleyError" || m == "ValueError" || n==m
theorem Ed{a b:eR}{r:List eo}:(Value.ref a::r).contains (.ref b)=(a==b||r.contains (.ref b)):=by
 rw[uf1]
 congr 1
 by_cases h:a=b
 .subst h;simp
 .rw[fE.mpr h,fE.mpr (λz:Value.ref b=Value.ref a=>h (Value.ref.inj z).symm)]
theorem WM{b:eR}:VE.contains (.ref b)=false:=rfl
section
variable{K:eh}{mg:Str->Option eo}{P:eR}{ca:Str->eR}
theorem XM.subP(x:XM K mg P ca){n:Str}(hn:n∈AY):(Value.ref (ca n)::.ref P::VE).contains (.ref P)=Ck n "ParleyError":=by
 rw[Ed,Ed,ui3,Bool.true_or,um6];rfl
theorem XM.subE(x:XM K mg P ca){n m:Str}(hn:n∈AY)(hm:m∈AY):(Value.ref (ca n)::.ref P::VE).contains (.ref (ca m))=Ck n m:=by
 rw[Ed,Ed,WM,fE.mpr (Ne.symm (x.np m hm)),ul0,ul0];have h1:(m==("ParleyError":Str))=false/\(m==("ValueError":Str))=false:=by
  simp only[AY,uk8,uh9,gA] at hm;rcases hm with rfl|rfl|rfl|rfl|rfl|rfl|rfl<;>exact⟨by decide,by decide⟩
 unfold Ck;rw[h1.1,h1.2,ul4,ul4]
 by_cases h:n=m
 .subst h;rw[ui3,ui3]
 .rw[fE.mpr h,fE.mpr λz=>h (x.inj n hn m hm z)]
theorem XM.of(x:XM K mg P ca){n:Str}{C:eR}(hn:n∈AY)(h:nsIn K mainGlobals n=some (some (.ref C))):C=ca n:=by
 rw[x.ns n hn] at h;injection h with h;injection h with h;injection h with h
 exact h.symm
end
theorem WE{q1 q2:Bool}{x C C':eR}{dx dx':Option eR}(h:XIs q1 x C dx=XIs q2 x C' dx')(e:∃h,XIs q1 x C dx h):C=C'/\dx=dx':=by
 clear 5 e hh o vs e1 e2 e3 e4;have q:XIs q2 x C' dx' hh:=by rw[<-h];exact⟨o,vs,e1,e2,e3,e4⟩
 clear 5 q o' vs' q1 q2 q3 q4;rw[e1] at q1;cases q1
 rw[e2] at q2;cases q2
 exact⟨rfl,e3.symm.trans q3⟩
section
variable{X:Cx}{e:Expr}{es:List Expr}{pos p pos2:Pos}{E:L2.St->XK}{P:eR}{ca:Str->eR}
def XN0(K:eh)(C:eR):Prop:=∃cd,clsIn K C=some cd/\nsIn K cd.ns "__init__" = some none
def Hk(n:Str)(f:M (List D)):M Out:=bnd f λds=>if ds.length<=1000 then ret (.ret (.exc n [])) else fail
set_option tactic.hygienic true in
theorem PR{n:Str}{f:M (List D)}(x:XM X.K X.mg P ca)(hn:n∈AY)(hf:Ig n=[])(xn:XN0 X.K (ca n))(hc:X.calm=true)(hx:FX qx X E)(hg:Gl X n)(ha:PA X (e::es) (RA X.K f))
 (hdb:autoParam ((n==("__debug__":Str))=false) q1T) (h1:autoParam (A4 e=false) q3T) (h2:autoParam (A9 es=true) q3T):PS X (.Raise (some (.Call (.Name n p) (e::es) [] pos)) none pos2) (RSX X.K E (Hk n f)):=by
 clear 5 xn cd hcd hni;refine Bh (Mj hc (x.cl n hn) hx (VH (x.cl n hn) (x.kp n hn) hcd hni hg (x.ms _ hn) ha hdb (AJ h1) (AL h2).1)) λD σ H z9=>?_;clear 5 z9 Oo c t fi o t' eq k;clear 5(Af eq)ds t1 e1 eq;refine⟨Oo,c,t,fi,ds,t1,e1,λvs H1 c1 f1 s1 rvs=>?_⟩
 split at eq
 .next hl=>
  cases eq
  refine⟨by rw[rvs.length];exact hl,λy hy=>?_⟩;have f3:=f1.laid (o:=.ext (XIs qx y (ca n) none)) hy;exact k σ _ c1 f3 (s1.trans (f1.stp_laid hy)) (.ref y) (.exc (x.ns _ hn) Am (f1.s.free hy) (vs:=[]) rfl .nil) y none rfl
 .cases eq
end
section
variable{X:Cx}{pos p:Pos}{P:eR}{ca:Str->eR}{μ:Cf->Hp->D->(V->Hp->Prop)->Prop}
inductive RH(K:eh)(ca:Str->eR)(μ:Cf->Hp->D->(V->Hp->Prop)->Prop)(h:D->M Out)(x C:eR)(dx:Option eR)(E:Ends)(σ:L2.St)(H:Hp):Prop where
 | mk (Oo:eR->Prop) (c:Cf) (t:T) (n:Str) (ds:List D) (fi:FInv K Oo c t σ H) (hn:n∈AY) (hC:C=ca n) (rp:Rep K c H (.ref x) (.exc n ds)) (o:Out) (t':T) (e:h (.exc n ds) t=some (o,t')) (k:∀σ' H' c',FInv K Oo c' t' σ' H'->Stp Oo c H c' H'->
   match (generalizing:=false) o with
   |.next=>E.nx σ' H'
   |.brk=>E.bk σ' H'
   |.cont=>E.ct σ' H'
   |.ret r=>μ c' H' r E.rt):RH K ca μ h x C dx E σ H
noncomputable def unE(i:Nat)(t:T):T:={t with env:=t.env.set i none}
set_option tactic.hygienic true in
theorem FInv.unset{K:eh}{Oo:eR->Prop}{c:Cf}{t:T}{σ:L2.St}{H:Hp}(f:FInv K Oo c t σ H)(i:Nat):FInv K Oo c (unE i t) (σ.set i none) H:=by
 have neq:∀{j:Nat}{x:Sl},(t.env.set i none)[j]?=some (some x)->j≠i/\t.env[j]?=some (some x):=λ{j x} q=>by
  by_cases h:j=i
  .subst h;rw[ug3] at q
   split at q
   .split at q
    .injection q with q;cases q
    .cases q
   .next h1=>exact absurd rfl h1
  .rw[ud5 (Ne.symm h)] at q;exact⟨h,q⟩
 refine⟨f.s,by simp[unE,f.len],f.sub,λj e q=>?_,λj ds q=>?_,λj k ds es a q1 q2 q3 q4=>?_⟩
 .clear 5(neq q)h q;clear 5(f.val j e q)u h1 h2;exact⟨u,by rw[ud5 (Ne.symm h)];exact h1,h2⟩
 .clear 5(neq q)h q;clear 5(f.own j ds q)a vs h1 h2;exact⟨a,vs,by rw[ud5 (Ne.symm h)];exact h1,h2⟩
 .clear 5(neq q1)h q1;clear 5(neq q2)h' q2;rw[ud5 (Ne.symm h)] at q3;rw[ud5 (Ne.symm h')] at q4;exact f.inj j k ds es a q1 q2 q3 q4
def hAs(n':Str)(i:Nat)(s:M Out)(r:D->M Out):D->M Out:=λe t=>match e with
 | .exc n ds=>if Ck n n'=true then (match s { t with env:=t.env.set i (some (.val (.exc n ds))) } with
   |some (o,t2)=>some (o,unE i t2)
   |none=>none) else r (.exc n ds) t
 |_=>none
def hNo(n':Str)(s:M Out)(r:D->M Out):D->M Out:=λe t=>match e with
 |.exc n ds=>if Ck n n'=true then s t else r (.exc n ds) t
 |_=>none
noncomputable def Oq:D->M Out:=λ_ _=>none
theorem Xk:PH qx X [] (RH X.K ca μ Oq):=by
 rintro _ _ _ _ _ _ _ _ _ _ _ ⟨_,_,_,_,_,_,_,_,_,_,_,e,_⟩
 cases e
theorem Zj{n' v:Str}{C':eR}{bm':List eo}{i:Nat}{b₀:Stmt}{suite:List Stmt}{rest:List ExceptHandler}{s:M Out}{r:D->M Out}(x:XM X.K X.mg P ca)(hg:Gl X n')(hm:X.mg n'=some (.ref C'))(c':XCl X.K C' bm')(hs:∀n∈AY,(Value.ref (ca n)::.ref P::VE).contains (.ref C')=Ck n n')
 (hN:X.N.Nodup) (hi:X.N[i]?=some v) (hl:X.env.scope.names.lookup v=some .local) (hb:∀x,PSs (X.mark x) (b₀::suite) (RSg X.K μ s)) (hr:PH qx X rest (RH X.K ca μ r)) (hdb:autoParam ((n'==("__debug__":Str))=false) q1T) :
 PH qx X (.ExceptHandler (some (.Name n' p)) (some v) (b₀::suite) pos::rest) (RH X.K ca μ (hAs n' i s r)):=by
 intro ei s0 σ H y C dx T D I o q;refine ZC hg hm c' hN hi hl hb hr hdb ei s0 σ H y C dx T D I o ?_;clear 5 q Oo c t n ds fi hn rfl rv o1 t' eq k;refine⟨_,x.cl n hn,?_⟩;rw[hs n hn];unfold hAs at eq;dsimp only at eq
 by_cases hb':Ck n n'=true
 .rw[gE hb'] at eq⊢
  cases e1:s {t with env:=t.env.set i (some (.val (.exc n ds)))} with
  |none=>rw[e1] at eq;cases eq
  |some z=>
    clear 5 z o2 t2;rw[e1] at eq
    cases eq
    refine⟨Oo,c,_,fi.set rv,o1,t2,e1,λσ' H' c2 f2 s2=>?_⟩;have:=k _ H' c2 (f2.unset i) s2
    cases o1<;>exact this
 .rw[gG hb'] at eq⊢;exact⟨Oo,c,t,n,ds,fi,hn,rfl,rv,o1,t',eq,k⟩
theorem TX{n':Str}{C':eR}{bm':List eo}{b₀:Stmt}{suite:List Stmt}{rest:List ExceptHandler}{s:M Out}{r:D->M Out}(x:XM X.K X.mg P ca)(hg:Gl X n')(hm:X.mg n'=some (.ref C'))(c':XCl X.K C' bm')(hs:∀n∈AY,(Value.ref (ca n)::.ref P::VE).contains (.ref C')=Ck n n')
 (hb:∀x,PSs (X.mark x) (b₀::suite) (RSg X.K μ s)) (hr:PH qx X rest (RH X.K ca μ r)) (hdb:autoParam ((n'==("__debug__":Str))=false) q1T) :
 PH qx X (.ExceptHandler (some (.Name n' p)) none (b₀::suite) pos::rest) (RH X.K ca μ (hNo n' s r)):=by
 intro ei s0 σ H y C dx T D I o q;refine ZD hg hm c' hb hr hdb ei s0 σ H y C dx T D I o ?_;clear 5 q Oo c t n ds fi hn rfl rv o1 t' eq k;refine⟨_,x.cl n hn,?_⟩;rw[hs n hn];unfold hNo at eq;dsimp only at eq
 by_cases hb':Ck n n'=true
 .rw [gE hb'] at eq ⊢;exact ⟨Oo,c,t,fi,o1,t',eq,λσ' H' c2 f2 s2=>by
   have:=k _ H' c2 f2 s2
   cases o1<;>exact this⟩
 .rw[gG hb'] at eq⊢;exact⟨Oo,c,t,n,ds,fi,hn,rfl,rv,o1,t',eq,k⟩
noncomputable def Eo(b:M Out)(h:D->M Out):M Out:=λt=>match b t with
 |some (.ret (.exc n ds),t1)=>if n∈AY then h (.exc n ds) t1 else none
 |z=>z
set_option tactic.hygienic true in
theorem PX{body:List Stmt}{h₀:ExceptHandler}{hs:List ExceptHandler}{b:M Out}{h:D->M Out}(x:XM X.K X.mg P ca)(hμ:∀c H r rt,Ba r=false->(∀v,Rep X.K c H v r->rt v H)=μ c H r rt)(h1:X.stack=X.env::X.outer)(h2:X.env.frame=some X.env.locals)
 (hb:∀(pn:List (eR×Obj)) (E:L2.St->XK),Co (CX1 qx X.prog X.w) {X with pn:=pn,xe:=XE qx {X with pn:=pn} E} E->PSs {X with pn:=pn,xe:=XE qx {X with pn:=pn} E} body (RSX X.K E b)) (hh:PH qx X (h₀::hs) (RH X.K ca μ h)):PS X (.Try body (h₀::hs) [] [] pos) (RSg X.K μ (Eo b h)):=
 Bh (Yk h1 h2 (λpn E=>hb pn E (XE.pass (X:={X with pn:=pn}))) hh) λD σ H z9=>by
  clear 5 z9 Oo c t fi o t' eq k;unfold Eo at eq
  cases e1:b t with
  |none=>rw[e1] at eq;cases eq
  |some z=>
    clear 5 z o1 t1;rw[e1] at eq;refine⟨Oo,c,t,fi,o1,t1,e1,λσ1 H1 c1 f1 s1=>?_⟩
    cases o1 with
    |next=>cases eq;exact k σ1 H1 c1 f1 s1
    |brk=>cases eq;exact k σ1 H1 c1 f1 s1
    |cont=>cases eq;exact k σ1 H1 c1 f1 s1
    |ret r=>
      intro v rv
      cases hx:Ba r with
      |false=>
        rw[gG (by decide)];have eq':some (Out.ret r,t1)=some (o,t'):=by cases r<;>first|exact eq|cases hx
        cases eq'
        have q:=k σ1 H1 c1 f1 s1;have q:μ c1 H1 r D.rt:=q;rw[<-hμ _ _ _ _ hx] at q;exact q v rv
      |true=>
        rw[gE rfl];intro y dx hv y' C hy' hC hex
        cases rv with
        |@exc q0 x0 C0 dx0 n vs ds g hx0 hA fl rs=>
          cases hv
          cases hy'
          dsimp only at eq
          split at eq
          .next hn=>
           rw[hx0] at hC;injection hC with hC;injection hC with hC
           clear 5(WE hC.symm hex)e2 e3;have:=x.of hn g;exact⟨Oo,c1,t1,n,ds,f1,hn,e2.trans this,.exc g hx0 hA fl rs,o,t',eq,λσ' H' c' f' s'=>k σ' H' c' f' (s1.trans s')⟩
          .cases eq
        |_=>cases hx
end
end
section
variable{qx:Bool}
def FS(n:Str):D->M D
 |.exc m _=>if m∈AY then ret (.bl (Ck m n)) else fail
 |.non=>ret (.bl false)
 |.bl _=>ret (.bl false)
 |.int _=>ret (.bl false)
 |.str _=>ret (.bl false)
 |.lst _=>ret (.bl false)
 |.tup _=>ret (.bl false)
 |.dic=>ret (.bl false)
 |_=>fail
def OP(K:eh)(c:eo):List V->Hp->VK->Prop:=λxs H Q=>∃x y t b,xs=[x,y]/\(∀u,RelV y u->u=c)/\
 (TyOf K H x t\/∃q0 a C dx,x=.ref a/\t=.ref C/\H a=some (.ext (XIs q0 a C dx))/\(∀d,dx=some d->∃fs,H d=some (.xd fs))/\XGet K C/\findIn K (.ref C) "__class__" = some (some (.builtin "object.__class__")))/\kitOne K t c=some b/\Q (.bl b) H
variable{C:eR}
theorem Ul{X:Cx}{ei:List (eR×Obj)}{σ:L2.St}{H:Hp}{s:eS}{a:eR}{dx:Option eR}(I:Inv X ei σ H s)(h:H a=some (.ext (XIs qx a C dx)))(hd:∀d,dx=some d->∃fs,H d=some (.xd fs)):TN a C s.heap:=by
 obtain⟨o,vs,e1,e2,e3,e4,_⟩:=(I.hok a _ h).1;have nc:notCls o=true:=by unfold notCls;rw[e4]
 cases dx with
 |none=>exact⟨o,none,e1,e2,nc,by rw[e3];trivial⟩
 |some d=>
   clear 5(hd d rfl)fs hf;obtain⟨mA,n,_⟩:=(show ObjOk X.prog X.w H s.heap d (.xd fs) from I.hok d _ hf);obtain⟨od,ho,_⟩:=FL n;exact⟨o,some od,e1,e2,nc,by rw[e3];exact ho⟩
theorem Km{X:Cx}{c:eo}:B4 X (.builtin "isinstance") (OP X.K c):=by
 intro ei s σ H xs us Q I r h;clear 5 h x y t b rfl hy ty e q;clear 5(HR r)u w' rfl rx rt
 cases hy _ rt
 rcases ty with ty|⟨q0,a,C,dx,rfl,rfl,ha,hd,g,gc⟩
 .exact Kx I rx ty e λtk=>⟨.bl b,H,I.tok tk,rfl,q⟩
 .cases (show u=Value.ref a from rx)
  exact kia_one (LQ g gc) I.kIn (Ul I ha hd) e (λz=>nomatch z) λtk=>⟨.bl b,H,I.tok tk,rfl,q⟩
variable{K:eh}
theorem XJ{d:D}{T:String}{C':eR}{bm':List eo}(h:tyD d=some T)(c':XCl K C' bm'):kitOne K (.type T) (.ref C')=some false:=by
 clear 5 c'.ex cd dd k0 k1 k2 k3 k5 h1 h2 h3 h4 h5;have e1:clsIn K C'=some cd:=by unfold clsIn;rw[h1]
 have e2:typeIn K (.ref C')=some (.type "type"):=by
  show(K.lookup C').map _=_;rw[h1];rfl
 have z:((clsIn K C').isSome&&typeIn K (.ref C')==some (.type "type"))=true:=by rw[e1,e2,Option.isSome_some,fZ];decide
 have hT:T = "NoneType"\/T = "bool"\/T = "int"\/T = "str"\/T = "list"\/T = "tuple"\/T = "dict":=by
  cases d<;>simp[tyD] at h<;>simp[<-h]
 unfold kitOne kitCls;rw[gG (by intro q;cases gl.mp q)]
 dsimp only;rw[gE z];rcases hT with rfl|rfl|rfl|rfl|rfl|rfl|rfl<;>rfl
theorem U7{d:D}{T:String}(h:tyD d=some T):kitOne K (.type T) (.type "ValueError")=some false:=by
 have hT:T = "NoneType"\/T = "bool"\/T = "int"\/T = "str"\/T = "list"\/T = "tuple"\/T = "dict":=by
  cases d<;>simp[tyD] at h<;>simp[<-h]
 rcases hT with rfl|rfl|rfl|rfl|rfl|rfl|rfl<;>rfl
theorem Q0{bm:List eo}(c:XCl K C bm)(v:eo):subIn K (.ref C) v=some ((Value.ref C::bm).contains v):=by
 obtain⟨cd,h1,h2,_⟩:=c.cls;show mroIn K C v=_;unfold mroIn;rw[h1,uh8,h2];rfl
theorem No{C':eR}{bm bm':List eo}(c:XCl K C bm)(c':XCl K C' bm'):kitOne K (.ref C) (.ref C')=some ((Value.ref C::bm).contains (.ref C')):=by
 clear 5 c'.ex cd dd k0 k1 k2 k3 k5 h1 h2 h3 h4 h5;have e1:clsIn K C'=some cd:=by unfold clsIn;rw[h1]
 have e2:typeIn K (.ref C')=some (.type "type"):=by
  show(K.lookup C').map _=_;rw[h1];rfl
 have z:((clsIn K C').isSome&&typeIn K (.ref C')==some (.type "type"))=true:=by rw[e1,e2,Option.isSome_some,fZ];decide
 unfold kitOne kitCls
 by_cases h:C=C'
 .subst h;rw[gE (by simp)];simp
 .rw[gG (λq=>h (Value.ref.inj (gl.mp q)))];dsimp only;rw[gE z];exact Q0 c _
theorem Zs{P:eR}(c:XCl K C (.ref P::VE)):kitOne K (.ref C) (.type "ValueError")=some true:=by
 unfold kitOne kitCls;rw[gG (by intro q;cases gl.mp q)]
 dsimp only;rw[gE (by decide +kernel),Q0 c];rw[uf1,uf1,show VE.contains (.type "ValueError")=true from by decide +kernel,um6,um6]
section
variable{X:Cx}{P:eR}{ca:Str->eR}{a:Expr}{f:M D}{p pos q:Pos}
set_option tactic.hygienic true in
theorem Nl{n:Str}{c:eo}{y:V}(x:XM X.K X.mg P ca)(hy:∀u,RelV y u->u=c)(k1:∀d T,tyD d=some T->kitOne X.K (.type T) c=some false)(k2:∀m∈AY,kitOne X.K (.ref (ca m)) c=some (Ck m n)){σ:L2.St}{H:Hp}{Q:VK}(h:RE X.K (bnd f (FS n)) σ H Q) :
 tCB (OP X.K c) (O0 (RE X.K f) (O0 (tC y) YQ)) σ H Q:=by
 clear 5 h Oo c0 t fi r t' eq k;clear 5(Af eq)d t1 e1 eq;refine⟨Oo,c0,t,fi,d,t1,e1,λv H1 c1 f1 s1 rv=>?_⟩;show OP X.K c [v,y] H1 Q
 cases rv with
 |@exc q0 x0 C0 dx0 m vs ds g hx0 hA fl rs=>
   unfold FS at eq;dsimp only at eq
   split at eq
   .next hm=>
    cases eq
    have hc:=x.of hm g;subst hc;refine⟨_,_,_,_,rfl,hy,.inr ⟨_,x0,ca m,dx0,rfl,rfl,hx0,λd hd=>?_,x.gt m hm,x.gc m hm⟩,k2 m hm,k _ H1 c1 f1 s1 (.bl _)⟩;subst hd;exact⟨_,fl.1⟩
   .cases eq
 |non=>cases eq;exact⟨_,_,_,_,rfl,hy,.inl .non,k1 .non _ rfl,k _ H1 c1 f1 s1 (.bl _)⟩
 |bl b=>cases eq;exact⟨_,_,_,_,rfl,hy,.inl (.bl _),k1 (.bl b) _ rfl,k _ H1 c1 f1 s1 (.bl _)⟩
 |int i=>cases eq;exact⟨_,_,_,_,rfl,hy,.inl (.int _),k1 (.int i) _ rfl,k _ H1 c1 f1 s1 (.bl _)⟩
 |str i=>cases eq;exact⟨_,_,_,_,rfl,hy,.inl (.str _),k1 (.str i) _ rfl,k _ H1 c1 f1 s1 (.bl _)⟩
 |lst h1 h2 h3=>cases eq;exact⟨_,_,_,_,rfl,hy,.inl (.lst h1),k1 (.lst []) _ rfl,k _ H1 c1 f1 s1 (.bl _)⟩
 |tup h1 h2 h3=>cases eq;exact⟨_,_,_,_,rfl,hy,.inl (.tup h1),k1 (.tup []) _ rfl,k _ H1 c1 f1 s1 (.bl _)⟩
 |dic h1 h2=>cases eq;exact⟨_,_,_,_,rfl,hy,.inl (.dK h1),k1 .dic _ rfl,k _ H1 c1 f1 s1 (.bl _)⟩
 |_=>cases eq
theorem UF{n:Str}(x:XM X.K X.mg P ca)(hn:n∈AY)(hg:Gl X "isinstance")(hm:X.mg "isinstance" = none)(hv:bootBuiltins "isinstance" = some (.builtin "isinstance"))(hgn:Gl X n)(ha:PE X a (RE X.K f))(hdb:autoParam ((n==("__debug__":Str))=false) q1T)(h1:autoParam (A4 a=false) q3T) :
 PE X (.Call (.Name "isinstance" p) [a,.Name n q] [] pos) (RE X.K (bnd f (FS n))):=
 AB (Gy Km hg hm hv (D4 ha (D4 (HG hgn (x.ms n hn) (v:=.ref (ca n)) rfl hdb) Hg (AJ (e:=.Name n q) rfl)) (AJ h1)) (by decide) (by decide) (AJ h1) (AL (es:=[.Name n q]) rfl).1)
  λσ H Q h=>Nl (n:=n) (c:=.ref (ca n)) (y:=.ref (ca n)) x (λu r=>r) (λd T e=>XJ e (x.cl n hn)) (λm hm=>by rw[No (x.cl m hm) (x.cl n hn),x.subE hm hn]) h
theorem UE(x:XM X.K X.mg P ca)(hg:Gl X "isinstance")(hm:X.mg "isinstance" = none)(hv:bootBuiltins "isinstance" = some (.builtin "isinstance"))(hgn:Gl X "ValueError")(hmn:X.mg "ValueError" = none)(hvn:bootBuiltins "ValueError" = some (.type "ValueError"))(ha:PE X a (RE X.K f))(h1:autoParam (A4 a=false) q3T) :
 PE X (.Call (.Name "isinstance" p) [a,.Name "ValueError" q] [] pos) (RE X.K (bnd f (FS "ValueError"))):=
 AB (Gy Km hg hm hv (D4 ha (D4 (ND hgn hmn hvn (v:=.ty "ValueError") rfl (by decide) (by decide)) Hg (AJ (e:=.Name "ValueError" q) rfl)) (AJ h1)) (by decide) (by decide) (AJ h1) (AL (es:=[.Name "ValueError" q]) rfl).1)
  λσ H Q h=>Nl (n:="ValueError") (c:=.type "ValueError") (y:=.ty "ValueError") x (λu r=>r) (λd T e=>U7 e) (λm hm=>by rw[Zs (x.cl m hm)];rfl) h
def Gg(nm:Str):D->M D
 | .exc n ds=>if n∈AY then (match ((Ig n).zip ds).lookup nm with
   |some d=>ret d
   |none=>fail) else fail
 |_=>fail
theorem HZ{K:eh}{c:Cf}{H:Hp}{nm:Str}{d:D}:∀{ns:List Str}{vs:List V}{ds:List D},Reps K c H vs ds->(ns.zip ds).lookup nm=some d->∃v,(ns.zip vs).lookup nm=some v/\Rep K c H v d
 |[],_,_,_,e=>by cases e
 |_::_,_,_,.nil,e=>by cases e
 |n::ns,_,_,.cons (v:=v0) (d:=d0) r rs,e=>by
   by_cases h:nm=n
   .subst h;simp only[List.zip_cons_cons,List.lookup,ui3,ug4] at e⊢;subst e;exact⟨v0,rfl,r⟩
   .have hb:(nm==n)=false:=fE.mpr h;simp only[List.zip_cons_cons,List.lookup,hb] at e⊢;exact HZ rs e
theorem KJ:bootBuiltins "ValueError" = some (.type "ValueError"):=by decide +kernel
set_option tactic.hygienic true in
theorem PB{nm:Str}(x:XM X.K X.mg P ca)(hno:∀n∈AY,findIn X.K (.ref (ca n)) nm=some none)(ha:PE X a (RE X.K f))(hb:attributeBase a nm X.env (eval a X.env)=eval a X.env):PE X (.Attribute a nm pos) (RE X.K (bnd f (Gg nm))):=by
 intro ei s σ H Q I h;clear 5 h Oo c0 t fi r t' eq k;clear 5(Af eq)d t1 e1 eq;refine MY hb (thn (ha ei s σ H (λv H1=>∃c1,FInv X.K Oo c1 t1 σ H1/\Stp Oo c0 H c1 H1/\Rep X.K c1 H1 v d) I ⟨Oo,c0,t,fi,d,t1,e1,λv H1 c1 f1 s1 rv=>⟨c1,f1,s1,rv⟩⟩) λu s1 z9=>?_);clear 5 z9 v H1 I1 rx c1 f1 st1 rv
 cases rv with
 |@exc q0 x0 C0 dx0 m vs ds g hx0 hA fl rs=>
   cases (show u=Value.ref x0 from rx)
   unfold Gg at eq;dsimp only at eq
   split at eq
   .next hm=>
    have hc:=x.of hm g;subst hc
    cases el:((Ig m).zip ds).lookup nm with
    |none=>rw[el] at eq;cases eq
    |some d'=>
      rw[el] at eq
      cases eq
      clear 5(HZ rs el)v' l1 r1
      cases dx0 with
      |none=>
        have fl:vs=[]:=fl;subst fl;simp at l1
      |some dd=>
        have hdd:H1 dd=some (.xd ((Ig m).zip vs)):=fl.1;obtain⟨o,vs0,q1,q2,q3,q4,_⟩:=(I1.hok x0 _ hx0).1;have nc:notCls o=true:=by unfold notCls;rw[q4]
        obtain⟨mA,nA,rA⟩:=(show ObjOk X.prog X.w H1 s1.heap dd (.xd ((Ig m).zip vs)) from I1.hok dd _ hdd);clear 5(FL nA)od ho hl;clear 5(RelO.some_of (v:=v') (o:=mA nm) (by rw[<-l1];exact rA nm))u' hu ru;have IA:InstAt s1.heap x0 o (ca m) (some od):=⟨q1,q2,nc,by rw[q3];exact ho⟩;unfold getAttr;refine un6 (wpAny_mkText ?_);refine Kt (s:={s1 with toks:=s1.toks+1}) I1.kIn IA (x.gt m hm) (Sc I1.kIn IA (x.gt m hm) (findObj_own (x.gt m hm).hd (hno m hm) rfl (by rw[hl,hu])) ?_);exact handed_on (Kv ru) ⟨v',H1,I1.tok _,ru,k v' H1 c1 f1 st1 r1⟩
   .cases eq
 |_=>cases eq
end
end
section
variable{qx:Bool}
def Pd(K:eh)(P c:eR):Bool:=K8 K c (.ref P::VE)&&keepIn K (.ref c)&&findIn K (.ref c) "__getattribute__" == some (some (.builtin "BaseException.__getattribute__"))&&findIn K (.ref c) "__getattr__" == some none&&mroIn K c (.type "BaseException")==some true
 && mroIn K c (.type "object")==some true&&hasDictIn K c&&findIn K (.ref c) "__class__" == some (some (.builtin "object.__class__"))&&findIn K (.ref c) "at" == some none&&findIn K (.ref c) "side" == some none
structure XOne(K:eh)(P c:eR):Prop where
 cl:XCl K c (.ref P::VE)
 kp:keepIn K (.ref c)=true
 gt:XGet K c
 gc:findIn K (.ref c) "__class__" = some (some (.builtin "object.__class__"))
 na:findIn K (.ref c) "at" = some none
 nd:findIn K (.ref c) "side" = some none
variable{K:eh}
theorem EJ{P c:eR}(h:Pd K P c=true):XOne K P c:=by
 unfold Pd at h;simp only[uh3,gl] at h;obtain⟨⟨⟨⟨⟨⟨⟨⟨⟨h1,h2⟩,h3⟩,h4⟩,h5⟩,h6⟩,h7⟩,h8⟩,h9⟩,h10⟩:=h;exact⟨.of_in h1,h2,⟨h3,h4,h5,h6,h7⟩,h8,h9,h10⟩
noncomputable def FP(c1 c2 c3 c4 c5 c6 c7:eR):Str->eR:=λn=>if n = "NoValue" then c1 else if n = "Short" then c2 else if n = "Broken" then c3 else if n = "NoTalk" then c4 else if n = "NoName" then c5 else if n = "NoText" then c6 else c7
theorem Cp{Q:Str->Prop}(h1:Q "NoValue")(h2:Q "Short")(h3:Q "Broken")(h4:Q "NoTalk")(h5:Q "NoName")(h6:Q "NoText")(h7:Q "NoRow"):∀n∈AY,Q n:=by
 intro n hn;simp only[AY,uk8,uh9,gA] at hn;rcases hn with rfl|rfl|rfl|rfl|rfl|rfl|rfl<;>assumption
def Pc(K:eh)(P:eR)(cs:List eR):Bool:=K8 K P VE&&cs.all (Pd K P)
theorem aK{h:Heap}{mg:Str->Option eo}{P c1 c2 c3 c4 c5 c6 c7:eR}(X:K.In h)(G:h.Ns mainGlobals mg)(p:nsIn K mainGlobals "ParleyError" = some (some (.ref P)))(a1:nsIn K mainGlobals "NoValue" = some (some (.ref c1)))(a2:nsIn K mainGlobals "Short" = some (some (.ref c2)))
 (a3:nsIn K mainGlobals "Broken" = some (some (.ref c3))) (a4:nsIn K mainGlobals "NoTalk" = some (some (.ref c4))) (a5:nsIn K mainGlobals "NoName" = some (some (.ref c5))) (a6:nsIn K mainGlobals "NoText" = some (some (.ref c6))) (a7:nsIn K mainGlobals "NoRow" = some (some (.ref c7)))
 (q:Pc K P [c1,c2,c3,c4,c5,c6,c7]=true) (nd:[P,c1,c2,c3,c4,c5,c6,c7].Nodup):XM K mg P (FP c1 c2 c3 c4 c5 c6 c7):=by
 unfold Pc at q;simp only[ul1,List.all_nil,Bool.and_true,uh3] at q;clear 5 q q0 q1 q2 q3 q4 q5 q6 q7;have o1:=EJ q1;have o2:=EJ q2;have o3:=EJ q3;have o4:=EJ q4;have o5:=EJ q5;have o6:=EJ q6;have o7:=EJ q7;have inj:∀n∈AY,∀m∈AY,FP c1 c2 c3 c4 c5 c6 c7 n=FP c1 c2 c3 c4 c5 c6 c7 m->n=m:=by
  simp only[ui9,uk8,uh9,gA,not_or,uk5,and_true] at nd;obtain⟨⟨n1,n2,n3,n4,n5,n6,n7⟩,⟨m12,m13,m14,m15,m16,m17⟩,⟨m23,m24,m25,m26,m27⟩,⟨m34,m35,m36,m37⟩,⟨m45,m46,m47⟩,⟨m56,m57⟩,m67,_⟩:=nd;have h1:FP c1 c2 c3 c4 c5 c6 c7 "NoValue" = c1:=rfl;have h2:FP c1 c2 c3 c4 c5 c6 c7 "Short" = c2:=rfl;have h3:FP c1 c2 c3 c4 c5 c6 c7 "Broken" = c3:=rfl;have h4:FP c1 c2 c3 c4 c5 c6 c7 "NoTalk" = c4:=rfl;have h5:FP c1 c2 c3 c4 c5 c6 c7 "NoName" = c5:=rfl;have h6:FP c1 c2 c3 c4 c5 c6 c7 "NoText" = c6:=rfl;have h7:FP c1 c2 c3 c4 c5 c6 c7 "NoRow" = c7:=rfl;refine Cp ?_ ?_ ?_ ?_ ?_ ?_ ?_<;>refine Cp ?_ ?_ ?_ ?_ ?_ ?_ ?_<;>intro e<;>first|rfl|(exfalso;rw[h1] at e)|(exfalso;rw[h2] at e)|(exfalso;rw[h3] at e)|(exfalso;rw[h4] at e)|(exfalso;rw[h5] at e)|(exfalso;rw[h6] at e)|(exfalso;rw[h7] at e)
  all_goals (first|rw[h1] at e|rw[h2] at e|rw[h3] at e|rw[h4] at e|rw[h5] at e|rw[h6] at e|rw[h7] at e)
  all_goals (first|contradiction|(have e:=e.symm;contradiction))
 refine⟨mg_of X G p,.of_in q0,Cp a1 a2 a3 a4 a5 a6 a7,Cp (mg_of X G a1) (mg_of X G a2) (mg_of X G a3) (mg_of X G a4) (mg_of X G a5) (mg_of X G a6) (mg_of X G a7),Cp o1.cl o2.cl o3.cl o4.cl o5.cl o6.cl o7.cl,inj,?_,
  Cp o1.kp o2.kp o3.kp o4.kp o5.kp o6.kp o7.kp,Cp o1.gt o2.gt o3.gt o4.gt o5.gt o6.gt o7.gt,Cp o1.gc o2.gc o3.gc o4.gc o5.gc o6.gc o7.gc,Cp o1.na o2.na o3.na o4.na o5.na o6.na o7.na,Cp o1.nd o2.nd o3.nd o4.nd o5.nd o6.nd o7.nd⟩
 simp only[ui9,uk8,uh9,gA,not_or] at nd;obtain⟨⟨n1,n2,n3,n4,n5,n6,n7⟩,_⟩:=nd;exact Cp (Ne.symm n1) (Ne.symm n2) (Ne.symm n3) (Ne.symm n4) (Ne.symm n5) (Ne.symm n6) (Ne.symm n7)
noncomputable def CS(s:Stmt)(k:Nat):Stmt:=match s with
 |.ClassDef _ _ _ body _ _ _ _ _ _ _=>body.getD k (.Pass ⟨0,0,0,0⟩)
 |_=>.Pass ⟨0,0,0,0⟩
noncomputable def LP(K:eh)(C f:eR):Bool:=match clsIn K C with
 |some cd=>nsIn K cd.ns "__init__" == some (some (.ref f))
 |none=>false
noncomputable def L7(K:eh)(C:eR):Bool:=match clsIn K C with
 |some cd=>nsIn K cd.ns "__init__" == some none
 |none=>false
set_option tactic.hygienic true in
theorem Y8{C:eR}(h:L7 K C=true):XN0 K C:=by
 unfold L7 at h
 split at h
 .next cd e=>exact⟨cd,e,gl.mp h⟩
 .cases h
end
inductive Kd where
 |pl|fr|ex|er
abbrev okK(k:Kd)(P:eT)(w:eU)(K:eh)(mg:Str->Option eo)(base:Heap)(n:Nat)(fa:eR)(fd:eV)(ps:List Str)(f:Fn):Prop:=match k with
 |.pl=>FnOk P w K mg base CX0 n fa fd ps (spF K f)
 |.fr=>FnOk P w K mg base CX0 n fa fd ps (spFF K f)
 |.ex=>FnOk P w K mg base (CX1 true P w) n fa fd ps (spX K f)
 |.er=>FnOk P w K mg base (CX1 false P w) n fa fd ps (spX K f)
section
variable{X:Cx}{e a b:Expr}{pos:Pos}{f g:M D}
theorem Nb{E:XK}(h:PE X e (RE X.K f)):PS X (.Return (some e) pos) (RSg X.K (μX X.K E) (Ao (nxD f))):=
 Bh (Ml h) λD σ H z9=>by
  clear 5 z9 Oo c t fi o t' eq k;clear 5(Af eq)d t1 e1 eq
  cases eq
  clear 5(Ma e1)e2 e3;exact⟨Oo,c,t,fi,d,_,e2,λv H1 c1 f1 s1 rv=>P0 e3 (k σ H1 c1 f1 s1 v rv)⟩
end
theorem XU{K:eh}:∀(c:Cf) (H:Hp) (r:D) (rt:V->Hp->Prop),Ba r=false->(∀v,Rep K c H v r->rt v H)=μR K c H r rt:=λ_ _ _ _ _=>rfl
theorem XV{K:eh}{E:XK}:∀(c:Cf) (H:Hp) (r:D) (rt:V->Hp->Prop),Ba r=false->(∀v,Rep K c H v r->rt v H)=μX K E c H r rt:=λc H r rt h=>by
 unfold μX;rw[h];rfl
section
variable{qx:Bool}
def T8(K:eh)(cs:List eR):List V->Hp->VK->Prop:=λxs H Q=>∃q0 a p C dx b,xs=[.ref a,.ref p]/\H p=some (.tup (cs.map V.ref))/\H a=some (.ext (XIs q0 a C dx))/\(∀d,dx=some d->∃fs,H d=some (.xd fs))/\XGet K C/\findIn K (.ref C) "__class__" = some (some (.builtin "object.__class__"))/\kitAny K (.ref C) (cs.map Value.ref)=some b/\Q (.bl b) H
theorem KI:∀{cs:List eR}{us:List eo},Vals (cs.map V.ref) us->us=cs.map Value.ref
 |[],_,.nil=>rfl
 |c::cs,_,.cons r rs=>by rw[KI rs,show _=Value.ref c from r];rfl
theorem Pp{X:Cx}{cs:List eR}:B4 X (.builtin "isinstance") (T8 X.K cs):=by
 intro ei s σ H xs us Q I r h;clear 5 h q0 a p C dx b rfl hp ha hd g gc e q;clear 5(HR r)u w' rfl rx rt
 cases (show u=Value.ref a from rx)
 cases (show w'=Value.ref p from rt)
 obtain⟨_,its,rv,hit⟩:=(show ObjOk X.prog X.w H s.heap p (.tup (cs.map V.ref)) from I.hok p _ hp);have hv:=KI rv;subst hv;clear 5 hit o h1 h2 n h3;clear 5 o oc od oda osl;dsimp only at h2 h3;subst h2 h3;exact kia_tup (LQ g gc) I.kIn (Ul I ha hd) h1 e (λz=>nomatch z) λtk=>⟨.bl b,H,I.tok tk,rfl,q⟩
def HC(ns:List Str):D->M D
 |.exc m _=>if m∈AY then ret (.bl (ns.any λn=>Ck m n)) else fail
 |_=>fail
section
variable{X:Cx}{P:eR}{ca:Str->eR}{a:Expr}{es:List Expr}{f:M D}{p pos q:Pos}{i:Nat}{ns:List Str}
def FAC(X:Cx)(ca:Str->eR)(es:List Expr)(ns:List Str):Prop:=PA X es (λ_ H Q=>Q ((ns.map ca).map V.ref) H)/\∀n∈ns,n∈AY
theorem UA:FAC X ca [] []:=⟨Hg,λ_ h=>nomatch h⟩
theorem Ex{n:Str}(x:XM X.K X.mg P ca)(hn:n∈AY)(hg:Gl X n)(h:FAC X ca es ns)(hdb:autoParam ((n==("__debug__":Str))=false) q1T):FAC X ca (.Name n q::es) (n::ns):=
 ⟨λpos ei s σ H Q I hq=>D4 (HG hg (x.ms n hn) (v:=.ref (ca n)) rfl hdb) h.1 (AJ (e:=.Name n q) rfl) pos ei s σ H Q I hq,λm hm=>by
  rcases uk8.mp hm with rfl|hm
  .exact hn
  .exact h.2 m hm⟩
theorem Nn{K:eh}{mg:Str->Option eo}(x:XM K mg P ca){m:Str}(hm:m∈AY):∀{ns:List Str},(∀n∈ns,n∈AY)->kitAny K (.ref (ca m)) ((ns.map ca).map Value.ref)=some (ns.any λn=>Ck m n)
 |[],_=>rfl
 |n::ns,h=>by
   have hn:=h n ue4;rw[uk9,uk9,kitAny,No (x.cl m hm) (x.cl n hn),x.subE hm hn,ul2]
   cases Ck m n with
   |true=>rfl
   |false=>exact Nn x hm λk hk=>h k (ud3 _ hk)
set_option tactic.hygienic true in
theorem UD(x:XM X.K X.mg P ca)(hg:Gl X "isinstance")(hm:X.mg "isinstance" = none)(hv:bootBuiltins "isinstance" = some (.builtin "isinstance"))(hc:FAC X ca es ns)(ha:PE X a (RE X.K f))(hl:autoParam (ns.length<=1000) q1T)(h1:autoParam (A4 a=false) q3T) :
 PE X (.Call (.Name "isinstance" p) [a,.Tuple es i q] [] pos) (RE X.K (bnd f (HC ns))):=
 AB (Gy (Pp (cs:=ns.map ca)) hg hm hv (D4 ha (D4 (QA hc.1) Hg (AJ (e:=.Tuple es i q) rfl)) (AJ h1)) (by decide) (by decide) (AJ h1) (AL (es:=[.Tuple es i q]) rfl).1)
  λσ H Q z9=>by
   clear 5 z9 Oo c0 t fi r t' eq k;clear 5(Af eq)d t1 e1 eq;refine⟨Oo,c0,t,fi,d,t1,e1,λv H1 c1 f1 s1 rv=>⟨by rw[ui6,ui6];exact um0 hl (by decide),λpp hp=>?_⟩⟩;show T8 X.K (ns.map ca) [v,.ref pp] _ Q;have f2:=f1.laid (o:=.tup ((ns.map ca).map V.ref)) hp;have s2:=f1.stp_laid (o:=.tup ((ns.map ca).map V.ref)) hp
   cases rv with
   |@exc q0 x0 C0 dx0 m vs ds g hx0 hA fl rs=>
     unfold HC at eq;dsimp only at eq
     split at eq
     .next hm'=>
      cases eq
      have hcc:=x.of hm' g;subst hcc;refine⟨_,x0,pp,ca m,dx0,_,rfl,Am,by rw[Ai (AA hx0 hp)];exact hx0,λdd hd=>?_,x.gt m hm',x.gc m hm',Nn x hm' hc.2,k _ _ c1 f2 (s1.trans s2) (.bl _)⟩;subst hd;exact⟨_,by rw[Ai (AA fl.1 hp)];exact fl.1⟩
     .cases eq
   |_=>cases eq
end
end
section
variable{qx:Bool}
section
variable{prog:eT}{w:eU}{A:Around}{s:eS}{K:eh}{x C P dx:eR}{ox:Obj}{od:Option Obj}{R:Result->eS->Prop}{name:Str}{v:eo}{tk:Tok}{cd:ClassData}
theorem SE(X:K.In s.heap)(I:InstAt s.heap x ox C od)(hc:clsIn K C=some cd)(hmr:cd.mro=FJ C P)(ha:findIn K (.ref C) name=some none)
 (h:wpAny (model prog w) A.in1 (storeInOwnDict (.ref x) (.ref C) (.str name tk) name v false) (λfin s'=>match fin with | .done f=>R (.ok f) s' | .again c'=>c'.quiet=true/\codeAny (model prog w) A c' R s') (λe s'=>R (.error e) s') s) :
 codeAny (model prog w) A (.call (.builtin "object.__setattr__") ⟨[.ref x,.str name tk,v],[]⟩) R s:=by
 have SF:=PySem.F.store_object;have ob:Looks (model prog w) s.heap (isInstance (.ref x) (.type "object")) true:=I.type.andThen (looks_mroIn X (by unfold mroIn;rw[hc,uh8,hmr];rfl));refine fD SF.slot.plain SF.entry (@check_slot (model prog w) _ _ s "object.__setattr__" "object" "__setattr__" (.ref x) [.str name tk,v] [] _ SF.kind SF.split ob (SF.args (.ref x) (.str name tk) v) ?_);have mr:Looks (model prog w) s.heap (mroOf (.ref C)) (FJ C P):=by rw[<-hmr];exact(gk X hc).andThen .now
 rw[osa_eq,refuse_eq];refine un6 (un6 (I.type.here (un6 (mr.here ?_))));rw[Jm];refine un7 (un6 (I.type.here (un6 ((gf X ha).here ?_))));exact un6 (un7 h)
theorem Tm{E:eo->eS->Prop}{Q:Unit->eS->Prop}{m:Str->Option eo}{a:Str}{oD:Obj}(X:K.In s.heap)(hx:s.heap.get? x=some ox)(hcl:ox.cls=.ref C)(hno:notCls ox=true)(hod:ox.dict=some dx)(hdx:s.heap.get? dx=some oD)(n1:s.heap.Ns1 dx m)(hm:PySem.Within m [a])(hs:findIn K (.ref C) "__setattr__" = some (some (.builtin "object.__setattr__")))(hc:clsIn K C=some cd)(hmr:cd.mro=FJ C P)(hd:cd.hasDict=true)(ha:findIn K (.ref C) name=some none)
 (h:∀h',(∀b o,b≠dx->s.heap.get? b=some o->h'.get? b=some o)->h'.Ns1 dx (λy=>if y=name then some v else m y)->Q () {s with heap:=h',toks:=s.toks+2}) :
 wpAny (model prog w) A (setAttr (.ref x) name v) Q E s:=by
 have I:InstAt s.heap x ox C (some oD):=⟨hx,hcl,hno,by rw[hod];exact hdx⟩;refine set_plain X I hs (SE (s:={s with toks:=s.toks+1}) X I hc hmr ha ?_);refine un6 (un7 (un6 (un6 (fU (s:={s with toks:=s.toks+1}) hx ?_))));rw[hod,hcl];refine un6 (Looks.here (s:={s with toks:=s.toks+1}) (gk X hc) ?_);rw[hd,gG (by decide)];refine un7 ?_;refine un6 (un7 (un6 ?_));refine wpAny_nsSet1 n1 λh' n2 sb=>?_;clear 5(n2.count (fM name v hm))oD esD epD hoD hdD hcD;refine un6 (fP hoD (by rw[hdD];exact fQ (um0 hcD (by show 2<=_;decide))) ?_);exact un7 (h h' (λb o hb e=>(sb.2 b hb).trans e) n2)
end
def bw(K:eh)(P:eR)(ta tv:TE)(f1 f:Str):TS:=λD σ H=>tv σ H λy H1=>ta σ H1 λx H2=>∃a C tp dx y1,x=.ref a/\H2 a=some (FQ a C tp dx)/\H2 dx=some (.xd [(f1,y1)])/\dx≠a/\XAt K C P f/\D.nx σ (upd H2 dx (.xd [(f1,y1),(f,y)]))
theorem QH{X:Cx}{P:eR}{o value:Expr}{ta tv:TE}{f1 f:Str}{pos' pos:Pos}(hf:f1≠f)(ha:PE X o ta)(hv:PE X value tv)(hs:swapsWith value (some (.Attribute o f pos')) pos.line X.env=pure false):PS X (.Assign [.Attribute o f pos'] value pos) (bw X.K P ta tv f1 f):=by
 intro ei s σ H D I h;refine eW (thn (hv ei s σ H _ I h) λu s1 ⟨y,H1,I1,ry,q⟩=>thn (ha ei s1 σ H1 _ I1 q) λov s2 z9=>?_) hs;clear 5 z9 x H2 I2 rx a C tp dx y1 ex ea ed ne c q2;subst ex;obtain rfl:ov=Value.ref a:=rx;clear 5 c.cl.cls cd c1 c2 c3;have hx:s2.heap.get? a=some {excObj C tp with dict:=some dx}:=(I2.hok a _ ea).1;clear 5((show ObjOk X.prog X.w H2 s2.heap dx (.xd [(f1,y1)]) from I2.hok dx _ ed))m n1 rm;obtain⟨oD,ho,_⟩:=FL n1;have hw:PySem.Within m [f1]:=λg hg=>by
  by_cases e:g=f1
  .simp[e]
  .exfalso;have z:=rm g;have hgb:(g==f1)=false:=fE.mpr e;simp only[List.lookup,hgb] at z
   cases hm:m g with
   |none=>exact hg hm
   |some u=>rw[hm] at z;exact z
 refine Tm I2.kIn hx rfl rfl rfl ho n1 hw c.set c1 c2 c3 c.no λh' k n=>?_;have na:∀b u,s2.heap.get? b=some u->H2 b=none->b≠dx:=λb u _ z w'=>by rw[w',ed] at z;cases z
 refine⟨σ,_,I2.un (h':=h') (t':=s2.toks+2) ⟨λb u e1 e2 _ _=>k b u (na b u e1 e2) e1,λb u e1 e2 _ _=>⟨u.slots,k b u (na b u e1 e2) e1⟩,λb u e1 e2 _=>?_,λb u e1 _=>?_,λb xs e1=>?_,λb o' u e1=>?_,λb ps e1=>⟨#[],?_⟩⟩ λb u e1=>?_,q2⟩
 .rw[Ai (na b u e1 e2)];exact e2
 .by_cases hb:b=dx
  .subst hb;obtain⟨od',es,ep,e,_⟩:=n;exact⟨_,e⟩
  .exact⟨_,k b u hb e1⟩
 .rw[Ai (λz=>by rw[z,ed] at e1;cases e1)];exact e1
 .rw[Ai (λz=>by rw[z,ed] at e1;cases e1)];exact e1
 .rw[Ai (λz=>by rw[z,ed] at e1;cases e1),e1];simp
 .by_cases hb:b=dx
  .subst hb;rw[Am] at e1;cases e1
   refine⟨_,n,λg=>?_⟩
   by_cases hg:g=f
   .subst hg;have hgb:(g==f1)=false:=fE.mpr (Ne.symm hf);simp only[List.lookup,hgb,ui3,gC];exact ry
   .have hgb:(g==f)=false:=fE.mpr hg;have z:=rm g
    by_cases hg1:g=f1
    .subst hg1;simp only[List.lookup,ui3] at z;simp only[List.lookup,ui3,gG hg];exact z
    .have hgb1:(g==f1)=false:=fE.mpr hg1;simp only[List.lookup,hgb1] at z;simp only[List.lookup,hgb,hgb1,gG hg];exact z
  .rw[Ai hb] at e1;refine(I2.hok b u e1).stay (λz v hz q=>k z v ?_ q) (λz q=>?_) λz xs q=>?_
   .rcases hz with rfl|hz
    .exact hb
    .intro w';rw[w',ed] at hz;cases hz
   .rw[Ai (λz=>by rw[z,ed] at q;cases q)];exact q
   .rw[Ai (λz=>by rw[z,ed] at q;cases q)];exact q
def Hn(K:eh)(P:eR)(a b:Str):Sp:=λvs H Q _=>∃x C tp v u,vs=[.ref x,v,u]/\H x=some (exO x C tp)/\XAt K C P a/\XAt K C P b/\∀dx,H dx=none->dx≠x->Q .non (upd (upd H dx (.xd [(a,v),(b,u)])) x (FQ x C tp dx))
section
variable{X:Cx}{k:Nat}{f C P:eR}{fd:eV}{ei:List (eR×Obj)}{σ:St}{H:Hp}{s:eS}{Q:eo->eS->Prop}{us:List eo}{vs:List V}{a b:Str}{ps:List Str}{v v2:V}{u u2:eo}
set_option tactic.hygienic true in
theorem OT(M:XMk X.K C P f)(ha:XAt X.K C P a)(hab:XAt X.K C P b)(F:FnOk X.prog X.w X.K X.mg X.base CX0 k f fd ps (Hn X.K P a b))(hr:Room (k+1) X.A)(hb:Binds X.K fd ps [])(I:Inv X ei σ H s)(r:RelV v u)(rr:RelV v2 u2)
 (h:∀s' x dx,Inv X ei σ (upd (upd H dx (.xd [(a,v),(b,v2)])) x (.ext (L2.XIs qx x C (some dx)))) s'->H x=none->H dx=none->dx≠x->s.heap.objs.size<=x->XRec true s'.heap x C (some dx) .none->Q (.ref x) s'):wpAny (model X.prog X.w) X.A (call (.ref C) [u,u2]) Q X.xe s:=by
 clear 5(M.cl.obj I.kIn)nm q N bs sn sub ab col dd k0 k1 k2 k3 k5 hC hN;have hni:s.heap.nsMap N "__init__" = some (.ref f):=by
  clear 5 M.init cd c1 c2;refine Jk I.kIn hN ?_;unfold clsIn at c1
  split at c1
  .next l=>
   cases c1
   have z:=I.kIn _ _ l;rw[hC] at z
   cases z
   exact c2
  .cases c1
 have I1:Inv X ei σ (upd H (s.heap.objs.size+1) (exO (s.heap.objs.size+1) C s.heap.objs.size)) {s with heap:=DO s.heap C [u,u2]}:=by
  refine I.laid (t':=s.toks) (λb o e=>uc1 _ (uc1 _ e)) (un4 _) (Py ?_);show((s.heap.push _).push _).get? _=_
  heap_get
 have hx0:=I.hok.fresh (un4 s.heap.objs.size);have r2:Vals [V.ref (s.heap.objs.size+1),v,v2] [Value.ref (s.heap.objs.size+1),u,u2]:=.cons rfl (.cons r (.cons rr .nil));have hsp:Hn X.K P a b [V.ref (s.heap.objs.size+1),v,v2] (upd H (s.heap.objs.size+1) (exO (s.heap.objs.size+1) C s.heap.objs.size))
  (λw' H'=>w'=.non/\∃dx,H dx=none/\dx≠s.heap.objs.size+1/\H'=upd (upd H dx (.xd [(a,v),(b,v2)])) (s.heap.objs.size+1) (FQ (s.heap.objs.size+1) C s.heap.objs.size dx)) E0:=by
  refine⟨_,C,s.heap.objs.size,v,v2,rfl,Am,ha,hab,λdx h1 h2=>⟨rfl,dx,by rw[Ai h2] at h1;exact h1,h2,?_⟩⟩
  funext b
  by_cases e1:b=s.heap.objs.size+1
  .subst e1;rw[Am,Am]
  .by_cases e2:b=dx
   .subst e2;rw[Ai e1,Ai e1,Am,Am]
   .rw[Ai e1,Ai e1,Ai e2,Ai e2,Ai e1]
 have hl:([Value.ref (s.heap.objs.size+1),u,u2]++[]).length=ps.length:=by
  have e:=F.len _ _ _ _ hsp;simpa using e
 clear 5 s hh g d t os;refine gm (LX ua8 (M.cl.tail I.kIn) hC hN hni ((bind_fn I.kIn _ (gl.mp M.fn))) (by show 2<=sizeLine;decide) ?_);refine gd (F.run _ X.stack _ _ ⟨[Value.ref (hh.objs.size+1),u,u2],[]⟩ [Value.ref (hh.objs.size+1),u,u2] _ _ E0 (hr.make C [u,u2] []) (I1.env0.make C [u,u2] []) (by have:=hb _ [Value.ref (hh.objs.size+1),u,u2] I1.kIn hl;simpa using this) r2 hsp) λr s' hq'=>?_
 cases r with
 |error e=>exact hq'.elim
 |ok fl=>
   cases fl with
   |ret w'=>
     clear 5(I1.after hq')v' H' I3 rv rfl dx d1 d2 rfl;refine⟨rv,?_⟩;have hx:=(I3.hok (hh.objs.size+1) _ Am).1;have hx:s'.heap.get? (hh.objs.size+1)=some {excObj C hh.objs.size with dict:=some dx}:=hx;have xr:XRec true s'.heap (hh.objs.size+1) C (some dx) .none:=⟨_,_,hx,rfl,rfl,rfl,rfl,λ_=>⟨rfl,by show 4<6;decide⟩⟩;have I4:=I3.write (x:=hh.objs.size+1) (e:=hh.objs.size+1) (o:=.ext (L2.XIs qx (hh.objs.size+1) C (some dx))) (h':=s'.heap) (t':=s'.toks) (by rw[Am];trivial) (.inl rfl) (λ_ _ _ z=>z) ⟨_,hx⟩ (IT xr.to.is);rw[NX] at I4;exact h s' (hh.objs.size+1) dx I4 hx0 d1 d2 (un4 _) xr
   |next=>exact False.elim hq'
   |brk=>exact False.elim hq'
   |cont=>exact False.elim hq'
end
section
variable{X:Cx}{k:Nat}{f C P:eR}{fd:eV}{a b:Str}{ps:List Str}{n:Str}{p pos:Pos}{e e':Expr}
theorem Yi{t:TA}(M:XMk X.K C P f)(ha:XAt X.K C P a)(hab:XAt X.K C P b)(F:FnOk X.prog X.w X.K X.mg X.base CX0 k f fd ps (Hn X.K P a b))(hr:Room (k+1) X.A)(hb:Binds X.K fd ps [])(hg:Gl X n)(hm:X.mg n=some (.ref C))(hA:PA X [e,e'] t)
 (hdb:autoParam ((n==("__debug__":Str))=false) q1T) (h1:autoParam (starEach [e,e'] X.env=(false,eval e X.env)::starEach [e'] X.env) q3T) (hpl:autoParam ((backTo pos (starEach [e'] X.env)).any (·.1)=false) q3T) :
 PM qx X (.Call (.Name n p) [e,e'] [] pos) C (λσ H Q=>t σ H λvs H1=>∃v u,vs=[v,u]/\∀x dx,H1 x=none->H1 dx=none->dx≠x->Q x (some dx) (upd (upd H1 dx (.xd [(a,v),(b,u)])) x (.ext (L2.XIs qx x C (some dx))))):=by
 intro ei s σ H Q I h;refine fJ (CY I hg hm ?_ hdb);refine ue7 (h₀:=X.base) I.ok.mod.kin M.kp (thn (hA pos ei s σ H _ I h) λus s1 z9=>?_) h1 hpl;clear 5 z9 vs H1 I1 r v u ev q;refine⟨I1.kIn,?_⟩;subst ev
 cases r with
 |cons r0 rs=>
   cases rs with
   |cons r1 rs=>
     cases rs
     exact OT M ha hab F hr hb I1 r0 r1 λs' x dx I' hx hdx ne nx rc=>⟨x,some dx,_,rfl,I',Am,um0 I1.sz nx,rc,q x dx hx hdx ne⟩
end
end
section
variable{qx:Bool}
section
variable{X:Cx}{e e':Expr}{pos p pos2:Pos}{E:L2.St->XK}{P:eR}{ca:Str->eR}
def XN2(prog:eT)(w:eU)(K:eh)(mg:Str->Option eo)(base:Heap)(C P:eR):Prop:=
 ∃(f:eR) (fd:eV) (ps:List Str),XMk K C P f/\XAt K C P "at"/\XAt K C P "side"/\Binds K fd ps []/\FnOk prog w K mg base CX0 1 f fd ps (Hn K P "at" "side")
def Cu(n:Str)(f:M (List D)):M Out:=bnd f λds=>match ds with
 |[d,d']=>ret (.ret (.exc n [d,d']))
 |_=>fail
theorem PU{f:M (List D)}(x:XM X.K X.mg P ca)(xn:XN2 X.prog X.w X.K X.mg X.base (ca "Broken") P)(hr:L2.Room 2 X.A)(hc:X.calm=true)(hx:FX qx X E)(hg:Gl X "Broken")(ha:PA X [e,e'] (RA X.K f))
 (h1:autoParam (A4 e=false) q3T) (h2:autoParam (A9 [e']=true) q3T):PS X (.Raise (some (.Call (.Name "Broken" p) [e,e'] [] pos)) none pos2) (RSX X.K E (Cu "Broken" f)):=by
 clear 5 xn fa fd ps M A A2 B F;have hn:("Broken":Str)∈AY:=by decide
 refine Bh (Mj hc M.cl hx (Yi M A A2 F hr B hg (x.ms _ hn) ha (by decide) (AJ h1) (AL h2).1)) λD σ H z9=>?_;clear 5 z9 Oo c t fi o t' eq k;clear 5(Af eq)ds t1 e1 eq;refine⟨Oo,c,t,fi,ds,t1,e1,λvs H1 c1 f1 s1 rvs=>?_⟩;rcases ds with _|⟨d,_|⟨d',_|⟨_,_⟩⟩⟩
 .cases eq
 .cases eq
 .cases rvs with
  |@cons v0 _ _ _ rv r=>
  cases r with
  |@cons v1 _ _ _ rv1 r=>
  cases r
  cases eq
  refine⟨_,_,rfl,λy dx hy hdx ne=>?_⟩;have f2:=f1.laid (o:=.xd [("at",v0),("side",v1)]) hdx;have hy2:upd H1 dx (.xd [("at",v0),("side",v1)]) y=none:=by rw[Ai (Ne.symm ne)];exact hy
  have f3:=f2.laid (o:=.ext (XIs qx y (ca "Broken") (some dx))) hy2;have ex:=(f1.stp_laid (o:=.xd [("at",v0),("side",v1)]) hdx).ext.trans (f2.stp_laid (o:=.ext (XIs qx y (ca "Broken") (some dx))) hy2).ext;have s3:=s1.trans ((f1.stp_laid (o:=.xd [("at",v0),("side",v1)]) hdx).trans (f2.stp_laid (o:=.ext (XIs qx y (ca "Broken") (some dx))) hy2));refine k σ _ c1 f3 s3 (.ref y) (.exc (x.ns _ hn) Am (f2.s.free hy2) ?_ (.cons (rv.mono ex) (.cons (rv1.mono ex) .nil))) y (some dx) rfl;exact⟨by rw[Ai ne,Am];rfl,f1.s.free hdx⟩
 .cases eq
end
def XF2(K:eh)(C P:eR)(qual:Str)(st:Stmt):Prop:=∃(f:eR) (fd:eV),XMk K C P f/\XAt K C P "at"/\XAt K C P "side"/\Binds K fd ["self", "at", "side"] []/\Fun K "__init__" qual st f fd
set_option tactic.hygienic true in
theorem Y7{K:eh}{C P f:eR}{qual:Str}{st:Stmt}{od an:Option eR}{sl:Array (Option eo)}{oc kV dc pm cd ct:eo}(o:XOne K P C)(i:LP K C f=true)(hf:isFn K (.ref f)=true)(hs:findIn K (.ref C) "__setattr__" = some (some (.builtin "object.__setattr__")))
 (l:K.lookup f=some ⟨oc,od,.func (PySem.W.fnOf "__init__" qual (D1 st) (Bp st) (Ap st) .none kV dc pm an cd ct),sl⟩) (c:codeIn K cd qual=true) (k:keepIn K (.ref f)=true)
 (hb:∀(kV doc pm:eo) (an:Option eR) (cdv ct:eo) (us:List eo),us.length=3->bindArgs (PySem.W.fnOf "__init__" qual (D1 st) (Bp st) (Ap st) .none kV doc pm an cdv ct) ⟨us,[]⟩=pure ((["self", "at", "side"]:List Str).zip us)):XF2 K C P qual st:=by
 refine⟨f,_,⟨o.cl,?_,hf,o.kp⟩,⟨o.cl,hs,o.na⟩,⟨o.cl,hs,o.nd⟩,(FY (st:=st) l c k).binds (ps:=["self", "at", "side"]) hb,FY (st:=st) l c k⟩;unfold LP at i
 split at i
 .next cd' e=>exact⟨cd',e,gl.mp i⟩
 .cases i
theorem Sf{prog:eT}{w:eU}{K:eh}{mg:Str->Option eo}{base:Heap}{C P:eR}{qual:Str}{st:Stmt}{p1 p2 p3 p4 p5 p6 p7 p8:Pos}(hbd:Bp st=[.Assign [.Attribute (.Name "self" p1) "at" p2] (.Name "at" p3) p4,.Assign [.Attribute (.Name "self" p5) "side" p6] (.Name "side" p7) p8])(S:FnScope ["self", "at", "side"] ["self", "at", "side"] (Ap st))
 (s1:(Ap st).names.lookup ("self":Str)=some NameKind.local) (s2:(Ap st).names.lookup ("at":Str)=some NameKind.local) (s3:(Ap st).names.lookup ("side":Str)=some NameKind.local) (x:XF2 K C P qual st):XN2 prog w K mg base C P:=by
 clear 5 x f fd M A A2 B F;refine⟨f,fd,_,M,A,A2,B,F.ok (k:=0) S (λvs H Q E h=>?_) λcdv A' outer s H vs Q E hr h=>?_⟩
 .obtain⟨y,C',tp,v,u,rfl,_⟩:=h;rfl
 .rw[hbd];refine⟨_,Il (T4 (P:=P) (CT (i:=0) rfl (.inl s1) (by decide) (by decide)) (CT (i:=1) rfl (.inl s2) (by decide) (by decide)) rfl) (HH (QH (P:=P) (f1:="at") (by decide) (CT (i:=0) rfl (.inl s1) (by decide) (by decide)) (CT (i:=2) rfl (.inl s3) (by decide) (by decide)) rfl)),?_⟩;clear 5 h y C' tp v u rfl hy ha ha2 k;refine⟨v,rfl,.ref y,rfl,y,C',tp,rfl,hy,ha,λdx h1 h2=>⟨u,rfl,.ref y,rfl,y,C',tp,dx,v,rfl,Am,by rw[Ai h2,Am],h2,ha2,?_⟩⟩;have z:=k dx h1 h2;have e:upd (upd (upd H dx (.xd [("at",v)])) y (FQ y C' tp dx)) dx (.xd [("at",v),("side",u)])=upd (upd H dx (.xd [("at",v),("side",u)])) y (FQ y C' tp dx):=by
   funext b
   by_cases e1:b=dx
   .subst e1;rw[Am,Ai h2,Am]
   .by_cases e2:b=y
    .subst e2;rw[Ai e1,Am,Am]
    .rw[Ai e1,Ai e2,Ai e1,Ai e2,Ai e1]
  rw[e];exact z
end
section
variable{X:Cx}{a b:Expr}{pos:Pos}
end
theorem KL:entryFor table "proto.unchain" = some Builtin.«proto.unchain»:=entryFor_of_tree (by kernel_rfl)
section
variable{prog:eT}{w:eU}{A:Around}{E:eo->eS->Prop}{env:Env}{K:eh}{C:eR}{bm:List eo}{s:eS}
theorem O3{x y:eR}{ox:Obj}{vx:Array eo}{Q:eo->eS->Prop}(gx:s.heap.get? x=some ox)(dx:ox.data=.fields vx)(x2:vx[2]?=some .none)(h:Q .none s) :
 wpAny (model prog w) A (runValue (.builtin "proto.unchain" ⟨[.ref y,.ref x,.ref x,.bool false],[]⟩)) Q E s:=by
 refine runValue_entry KL ?_;unfold Builtin.«proto.unchain»;refine un6 (un5 gx dx x2 ?_);rw[gE (by decide)];refine un6 (un7 (un7 ⟨_,rfl,h⟩))
theorem SY{t c0:Sem eo}{x:eR}{Q:Flow->eS->Prop}(c:XCl K C bm)(hh:A.handled=some (.ref x))
 (hc0:∀(s:eS) (Q:eo->eS->Prop) (E:eo->eS->Prop),Q Value.none s->wpAny (model prog w) A c0 Q E s)
 (h:wpAny (model prog w) A t (λv s1=>∃y dy ox vx,v = .ref y/\y≠x/\K.In s1.heap/\XRec true s1.heap y C dy .none/\s1.heap.get? x=some ox/\ox.data = .fields vx/\vx[2]?=some .none/\
   ∀h',XRec false h' y C dy .none->(∀b,b≠y->h'.get? b=s1.heap.get? b)->E v {s1 with heap:=h'}) E s):wpAny (model prog w) A (raiseStmt env (some t) (some c0)) Q E s:=by
 unfold raiseStmt;refine un6 (un8 h (λv s1 q=>?_) λ_ _ z=>z);obtain⟨y,dy,ox,vx,rfl,ne,X,⟨o,vs,hx,hc,hd,hdt,h1,h2⟩,gx,dx,x2,hE⟩:=q;clear 5(h2 rfl)h2 h4;obtain⟨nm,q,N,bs,sn,sub,ab,col,dd,k0,k1,k2,k3,k5,hC,_⟩:=c.obj X;have hb:=c.has X;clear 5 s1 hp g d tk os;refine un6 (ul7 (hc0 _ _ _ (un6 (un7 ?_))))
 repeat (first
  |(with_reducible refine fN hx ?_;rw[hc])
  |with_reducible refine fN hC ?_
  |(with_reducible refine fG hC ?_;rw[hb])
  |with_reducible refine un5 hx hdt h1 ?_
  |wp_step)
 have nC:C≠y:=by
  rintro rfl;rw[hC] at hx
  cases hx
  cases hdt
 rw[hdt];show wpAny _ _ (if 3<vs.size then _ else _) _ _ _;rw[gE (Nat.lt_of_succ_lt h4)];refine wpAny_update hx ?_;clear 5(Fm hdt (·.setIfInBounds 3 Value.none))m1 m2 m3;have hx1:=uc8 (Obj.mapFields (·.setIfInBounds 3 Value.none)) hx (fv m1);refine un6 (fW hx1 m1 (by rw[ub5];exact h4) ?_);clear 5(Fm m1 (·.setIfInBounds 4 (Value.bool true)))n1 n2 n3;have hx2:=uc8 (Obj.mapFields (·.setIfInBounds 4 (Value.bool true))) hx1 (fv n1);have oth:∀b,b≠y->((hp.update y (Obj.mapFields (·.setIfInBounds 3 Value.none))).update y (Obj.mapFields (·.setIfInBounds 4 (Value.bool true)))).get? b=hp.get? b:=λb z=>by
  rw[uc3 _ _ (Ne.symm z),uc3 _ _ (Ne.symm z)]
 have hC2:=(oth C nC).trans hC;have gx2:=(oth x (Ne.symm ne)).trans gx;have hc2:=n2.trans (m2.trans hc);have hd2:=n3.trans (m3.trans hd);have t1:((vs.setIfInBounds 3 Value.none).setIfInBounds 4 (Value.bool true))[1]?=some .none:=by
  rw[ua1 (by decide),ua1 (by decide)];exact h1
 have t4:2<((vs.setIfInBounds 3 Value.none).setIfInBounds 4 (Value.bool true)).size:=by
  rw[ub5,ub5];lia
 show wpAny (model prog w) A _ Q E ⟨(hp.update y (Obj.mapFields (·.setIfInBounds 3 Value.none))).update y (Obj.mapFields (·.setIfInBounds 4 (Value.bool true))),g,d,tk,os⟩;generalize (hp.update y (Obj.mapFields (·.setIfInBounds 3 Value.none))).update y (Obj.mapFields (·.setIfInBounds 4 (Value.bool true)))=h3 at hx2 oth hC2 gx2;generalize ((o.mapFields (·.setIfInBounds 3 Value.none)).mapFields (·.setIfInBounds 4 (Value.bool true)))=o2 at hx2 hc2 hd2 n1;generalize ((vs.setIfInBounds 3 Value.none).setIfInBounds 4 (Value.bool true))=vs2 at n1 t1 t4;clear hx1 m1 m2 m3 n2 n3
 repeat (first
  |(with_reducible refine fN hx2 ?_;rw[hc2])
  |with_reducible refine fN hC2 ?_
  |(with_reducible refine fG hC2 ?_;rw[hb])
  |with_reducible refine un5 hx2 n1 t1 ?_
  |wp_step)
 unfold raiseNew;refine un6 (wpAny_handled ?_);rw[hh];dsimp only;rw[gE (by simpa using Ne.symm ne)];refine un6 (ul7 (O3 gx2 dx x2 (un6 ?_)));clear 5(Fm n1 (·.setIfInBounds 2 (Value.ref x)))z1 z2 z3;refine fW hx2 n1 t4 ?_;have hx3:=uc8 (Obj.mapFields (·.setIfInBounds 2 (Value.ref x))) hx2 (fv z1);refine wpAny_throw (hE _ ⟨_,_,hx3,z2.trans hc2,z3.trans hd2,z1,?_,λz=>by cases z⟩ λb hb'=>?_)
 .rw[ua1 (by decide)];exact t1
 .rw[uc3 _ _ (Ne.symm hb')];exact oth b hb'
end
section
variable{X:Cx}{ei:List (eR×Obj)}{σ:St}{H:Hp}{s s':eS}{qx:Bool}{x C:eR}{dx T:Option eR}{fl:eo}
theorem XOn.keep(I:Inv X ei σ H s)(o:XOn qx X ei H s x C dx T fl)(k:∀b,b≠X.env.locals->(∀z c,X.env.cells.lookup z=some c->c≠b)->s'.heap.get? b=s.heap.get? b):XOn qx X ei H s' x C dx T fl:=by
 clear 5(id o.rc)ox vs gx cx dxe dtx tbx xc;have nl:x≠X.env.locals:=λz=>by have:=o.hx;rw[z,I.free] at this;cases this
 have nc:∀z c,X.env.cells.lookup z=some c->c≠x:=λz c e w=>by
  have:=o.hx;rw[<-w,I.freeC z c e] at this
  cases this
 refine⟨o.hx,o.nx,⟨ox,vs,(k x nl nc).trans gx,cx,dxe,dtx,tbx,xc⟩,λa e=>?_,o.fo⟩;obtain⟨z1,z2,z3,⟨y1,y2,y3⟩,ot,ts,gT,dT,t3⟩:=o.tb a e;exact⟨z1,z2,z3,⟨y1,y2,y3⟩,ot,ts,(k a y1 y2).trans gT,dT,t3⟩
theorem Q7{M:Model}{A:Around}{E:eo->eS->Prop}{i:Nat}{n:Str}{pos:Pos}{Q:Unit->eS->Prop}(I:Inv X ei σ H s)(hN:X.N.Nodup)(hi:X.N[i]?=some n)(hk:X.env.scope.names.lookup n=some .local)
 (h:∀s',Inv X ei (σ.set i none) H s'->(∀b,b≠X.env.locals->(∀z c,X.env.cells.lookup z=some c->c≠b)->s'.heap.get? b=s.heap.get? b)->Q () s'):wpAny M A (do bindName X.env n .none;unbindBehindTheSuite X.env n pos) Q E s:=by
 refine un6 (wpAny_bindName (Ho (v:=.non) I hN hi (.inl hk) rfl (λs1 I1 sb1=>?_) (.inr hk)));clear 5 sb1 a1 sb1 ha1;unfold unbindBehindTheSuite;have hiσ:i < σ.length:=by rw[I.len];exact(ub0.mp hi).1
 clear 5(id I1.loc)m hn hl;have hcls:(X.env.scope.kind==.class||(X.env.scope.kind==.module&&X.env.locals != X.env.globals))=false:=by rw[I.ok.kind];rfl
 obtain⟨u0,_,lk⟩:=hl i n .non hi (by rw[uc0 hiσ]) (.inl hk);have hv:m n=some u0:=by
  rcases lk with⟨_,e⟩|⟨k,_⟩
  .exact e
  .have k:X.env.scope.names.lookup n=some .cell\/X.env.scope.names.lookup n=some .free:=k;rw[hk] at k;rcases k with k|k<;>cases k
 refine wpAny_onRaise (wpAny_unbindName_local hk hn hv hcls λh' u hn' hs=>?_);have cne:=I1.cne;have tracked:HOk X.prog X.w H h':=λb ob e=>by
  refine(I1.hok b ob e).stay (λc w' hc q=>(hs.2 c ?_).trans q) (λ_ q=>q) λ_ _ q=>q;rintro rfl;rcases hc with rfl|hc
  .rw[I1.free] at e;cases e
  .rw[I1.free] at hc;cases hc
 have far:∀b o,X.s₀.heap.get? b=some o->b≠X.env.locals:=λb o e=>ul9 (ue3 (ul8 e) I1.ok.above);refine h _ ⟨I1.ok,I1.os,I1.bare,⟨λb o e n hb hx=>?_,λb o e n hb hx=>?_,I1.base.free,λb o e hx=>?_,I1.base.tups,I1.base.frzs,I1.base.tbls⟩,⟨_,hn',λj y v' e1 e2 e3=>?_⟩,λy c e=>?_,I1.free,I1.freeC,λp hp=>?_,tracked,by simpa using I.len⟩ λb hb hc=>?_
 .exact(hs.2 b (far b o e)).trans (I1.base.keep b o e n hb hx)
 .clear 5(I1.base.slot b o e n hb hx)sl e1;exact⟨sl,(hs.2 b (far b o e)).trans e1⟩
 .clear 5(I1.base.there b o e hx)o' e1;exact⟨o',(hs.2 b (far b o e)).trans e1⟩
 .by_cases hj:j=i
  .subst hj;rw[uc0 hiσ] at e2
   cases e2
  .rw[ud5 (Ne.symm hj)] at e2;clear 5(hl j y v' e1 (by rw[ud5 (Ne.symm hj)];exact e2) e3)u' r' q;refine⟨u',r',?_⟩;rcases q with⟨k,e⟩|⟨k,c,e,z⟩
   .refine .inl ⟨k,?_⟩;have:y≠n:=λe=>hj (Gx hN e1 (e ▸ hi));simp[this,e]
   .exact .inr ⟨k,c,e,z.sameBut hs (cne y c e)⟩
 .clear 5(I1.cell y c e)w' z;exact⟨w',z.sameBut hs (cne y c e)⟩
 .clear 5(I1.pin p hp)e n ne nf d;exact⟨(hs.2 p.1 ne).trans e,n,ne,nf,d⟩
 .rw[hs.2 b hb];refine sb1.2 b ?_;rintro rfl;rcases ha1 with z|z
  .exact hb z
  .exact hc _ _ z rfl
end
def Ht(X:Cx)(E:St->XK):Prop:=∀(ei:List (eR×Obj)) (σ:St) (H:Hp) (s:eS) (x C:eR) (dx T:Option eR) (fl:eo),Inv X ei σ H s->XOn false X ei H s x C dx T fl->E σ (.ref x) dx H->X.xe (.ref x) s
theorem XE.raisesT{X:Cx}{E:St->XK}:Ht (X.wish (XE false X E)) E:=λei σ H s x C dx T fl I o q=>⟨ei,σ,H,x,C,dx,T,fl,rfl,I.unwish,⟨o.hx,o.nx,o.rc,o.tb,o.fo⟩,q⟩
section
variable{X:Cx}{n v:Str}{C' C2:eR}{bm' bm2:List eo}{p pos p2:Pos}{e cN:Expr}{rest:List ExceptHandler}{t:St->Hp->(eR->Option eR->Hp->Prop)->Prop}{tr:eR->eR->Option eR->TS}{i:Nat}{E:St->XK}
def bC(K:eh)(C':eR)(i:Nat)(t:St->Hp->(eR->Option eR->Hp->Prop)->Prop)(E:St->XK)(tr:eR->eR->Option eR->TS):eR->eR->Option eR->TS:=λx C dx D σ H=>∃bm,XCl K C bm/\
 if (Value.ref C::bm).contains (.ref C')=true then t (σ.set i (some (.ref x))) H (λy dy H1=>y≠x/\H1 x=some (.ext (L2.XIs true x C dx))/\E ((σ.set i (some (.ref x))).set i none) (.ref y) dy H1) else tr x C dx D σ H
theorem ZE(h1:X.stack=X.env::X.outer)(h2:X.env.frame=some X.env.locals)(hg:Gl X n)(hm:X.mg n=some (.ref C'))(c':XCl X.K C' bm')(hN:X.N.Nodup)(hi:X.N[i]?=some v)(hl:X.env.scope.names.lookup v=some .local)
 (c2:XCl X.K C2 bm2) (hp:∀x,PM false (X.mark x) e C2 t) (hx:Ht X E)
 (hz:∀(A:Around) (s:eS) (Q:eo->eS->Prop) (E:eo->eS->Prop),Q Value.none s->wpAny (model X.prog X.w) A (eval cN X.env) Q E s)
 (hr:PH true X rest tr) (hdb:autoParam ((n==("__debug__":Str))=false) q1T):PH true X (.ExceptHandler (some (.Name n p)) (some v) [.Raise (some e) (some cN) p2] pos::rest) (bC X.K C' i t E tr):=by
 intro ei s σ H x C dx T D I o ⟨bm,c,q⟩;have Im:=I.mark x;refine fH (fz (CY Im hg hm ?_ hdb)) (by intro z;cases z)
 refine Ij c c' I.kIn o.rc ?_
 cases hc:(Value.ref C::bm).contains (.ref C') with
 |false=>
   rw[hc,gG (by decide)] at q;exact hr ei s σ H x C dx T D I o q
 |true=>
   rw[hc,gE rfl] at q;refine fc ?_;refine D5 none I o trivial λh1' I1 o1=>?_;refine Fz (v:=.ref x) I1 hN hi (.inl hl) rfl (λs2 I2=>?_) (.inr hl);refine fO ?_;rw[arm_exec_Raise];refine un6 (fX ?_);refine SY (x:=x) c2 rfl (λs Q E h=>un6 (hz _ _ _ _ (un6 (fX (un7 h))))) ?_;refine un6 (un8 (hp x ei s2 _ H _ (I2.mark x) q) (λw' s3 z9=>?_) λ_ _ z=>z.elim);clear 5 z9 y dy H1 e1 I3 hy ny r ne hxx q1;subst e1;have J3:=I3.unmark I.ok;obtain⟨ox,vx,gx,_,_,dtx,xc⟩:=(I3.hok x _ hxx).1;refine un6 (fX (un7 ⟨y,dy,ox,vx,rfl,ne,I3.kIn,r,gx,dtx,(xc rfl).1,λh' r' kp=>?_⟩));clear 5(J3.newT (un2 _))o1' o2' o3';have J4:=J3.left hy (J3.hok.fresh (un2 _)) ny (um0 J3.sz (un2 _)) (ch:=[y]) (h':=h') ⟨λb u hb _ e=>(kp b (by simpa using hb)).trans e,λb u hb e=>⟨u.slots,(kp b (by simpa using hb)).trans e⟩⟩ (λb hb=>.inl (by simpa using hb)) r'.is o2' o1' o3';have o4:XOn false X ei H1 {s3 with heap:=h'} y C2 dy none .none:=⟨hy,ny,r',(λa e=>by cases e),.inl rfl⟩;refine Fr I3.ok.frames J4 h1 h2 o4 λh5 a J5 o5=>?_;refine Q7 J5 hN hi hl λs6 J6 k6=>?_;have o6:=o5.keep J5 k6;obtain⟨oy,vy,gy,_,_,dty,tby,_⟩:=id o6.rc;unfold PySem.passOn;refine un6 (un5 gy dty tby ?_);rw[gG (show ¬((Value.ref a==Value.none)=true) from by intro z;cases z)]
   rw[h2];refine un6 (D5 (some X.env.locals) J6 o6 trivial λh7 J7 o7=>wpAny_throw ?_);refine Fr I3.ok.frames J7 h1 h2 o7 λh8 a8 J8 o8=>?_;obtain⟨oz,vz,gz,_,_,dtz,tbz,_⟩:=id o8.rc;show cameBackBy _ _ _ _ _ _;unfold cameBackBy;refine un6 (un5 gz dtz tbz ?_);rw[gG (show ¬((Value.ref a8==Value.none)=true) from by intro z;cases z)]
   rw[h2];exact D5 (some X.env.locals) J8 o8 trivial λh9 J9 o9=>hx ei _ H1 _ y C2 dy _ _ J9 o9 q1
end
structure FnOkH(P:eT)(w:eU)(K:eh)(mg:Str->Option eo)(base:Heap)(CX:CXT)(k:Nat)(f:eR)(fd:eV)(ps:List Str)(sp:Sp):Prop where
 len:∀vs H Q E,sp vs H Q E->vs.length=ps.length
 run:∀(z:eR) (A:Around) (outer:List Env) (s:eS) (H:Hp) (args:Args) (us:List eo) (vs:List V) (Q:VK) (E:XK),Room k A->Env0 P w K mg base A outer s H->BindsTo s fd args (ps.zip us)->Vals vs us->sp vs H Q E->
  codeAny (model P w) (A.mark (some (.ref z))) (.call (.ref f) args) (CR CX outer P w H s Q E) s
theorem Xm{CX:CXT}{P:eT}{w:eU}{K:eh}{mg:Str->Option eo}{base:Heap}{k:Nat}{f:eR}{name qual:Str}{params:Arguments}{body:List Stmt}{scope:Scope}{dV kV doc pm cdv ct oc:eo}{an od:Option eR}
 {osl:Array (Option eo)}{N ps:List Str}{sp:Sp} (lk:K.lookup f=some ⟨oc,od,.func (PySem.W.fnOf name qual params body scope dV kV doc pm an cdv ct),osl⟩) (hcd:PySem.W.codeIn K cdv qual=true) (S:FnScope N ps scope)
 (len:∀vs H Q E,sp vs H Q E->vs.length=ps.length)
 (hbody:∀(z:eR) (A:Around) (outer:List Env) (s:eS) (H:Hp) (vs:List V) (Q:VK) (E:XK),Room k (A.deeper (envOfC qual scope s.heap.objs.size f cdv))->sp vs H Q E->
   ∃t,PSs ((Dy CX P w K mg base N qual scope f cdv A outer s H E).mark z) body t/\t {nx:=λ_ H'=>Q .non H',rt:=Q} (start N vs) H) :
 FnOkH P w K mg base CX (k+1) f (PySem.W.fnOf name qual params body scope dV kV doc pm an cdv ct) ps sp:=by
 refine⟨len,λz A outer s H args us vs Q E hr e0 hb r hsp=>?_⟩;have hl:=len _ _ _ _ hsp;have KX:K.In s.heap:=e0.mod.kin.keeps λb o e=>(e0.bs b o e).1;have lim:s.heap.NoLimit:=e0.mod.nolimit.keeps λb o e=>(e0.bs b o e).1;have hkind:∀y∈ps.zip us,scope.names.lookup y.1=some .local\/(scope.names.lookup y.1=some .cell/\((cellsFrom (s.heap.objs.size+1) scope.names []).lookup y.1).isSome=true):=λz9 hy=>by
  clear 5 z9 n v;rcases S.par n (uj0 hy).1 with q|q
  .exact .inl q
  .exact .inr ⟨q,uc2 _ _ _ (.inl q)⟩
 refine codeAny_call_function (A:=A.mark (some (.ref z))) hr.depth (KX _ _ lk) rfl S.co S.gen rfl (PySem.W.codeRec_of KX hcd) (hb _ _ _ _ ?_);refine eY S.kind hkind λenv he s1 x=>?_;subst he;refine⟨lim.keeps x.toInCall.keep,codeAny_func ?_⟩;clear 5(hbody z A outer s H vs Q E (hr.deeper _) hsp)t ht hq;have I:Inv (Dy CX P w K mg base N qual scope f cdv A outer s H E) [] (start N vs) H s1:=Kw S hr.hd e0 hl r x;refine un8 (ht [] s1 (start N vs) H _ (I.mark z) hq) (λfl s' hs=>?_) λe s' hs=>hs.elim;have fin:∀{σ':St}{H':Hp}{v:V}{u:eo},Inv ((Dy CX P w K mg base N qual scope f cdv A outer s H E).mark z) [] σ' H' s'->RelV v u->Q v H'->CE outer P w H s Q u s':=
  λ{σ' H' v u} J rv q=>⟨v,H',J.os,J.bare,J.base,J.hok,rv,q⟩
 cases fl with
 |ret u=>
   clear 5 hs v σ' H' J rv q;exact fin J rv q
 |next=>
   clear 5 hs σ' H' J q;exact fin (v:=V.non) (u:=Value.none) J rfl q
 |brk=>
   obtain⟨_,_,_,q⟩:=hs;exact False.elim q
 |cont=>
   obtain⟨_,_,_,q⟩:=hs;exact False.elim q
theorem Fun.okH{P:eT}{w:eU}{K:eh}{mg:Str->Option eo}{base:Heap}{x qual:Str}{st:Stmt}{f:eR}{fd:eV}{N ps:List Str}{k:Nat}{sp:Sp}(F:Fun K x qual st f fd)(S:FnScope N ps (Ap st))(len:∀vs H Q E,sp vs H Q E->vs.length=ps.length)
 (hbody:∀(cdv:eo) (z:eR) (A:Around) (outer:List Env) (s:eS) (H:Hp) (vs:List V) (Q:VK) (E:XK),Room k (A.deeper (envOfC qual (Ap st) s.heap.objs.size f cdv))->sp vs H Q E->
   ∃t,PSs ((Dy CX0 P w K mg base N qual (Ap st) f cdv A outer s H E).mark z) (Bp st) t/\t {nx:=λ_ H'=>Q .non H',rt:=Q} (start N vs) H):FnOkH P w K mg base CX0 (k+1) f fd ps sp:=by
 clear 5 F.ex oc od kV doc pm an cdv ct osl rfl lk hcd;exact Xm lk hcd S len λz A outer s H vs Q E hr hsp=>hbody cdv z A outer s H vs Q E hr hsp
section
variable{qx:Bool}{X:Cx}{k:Nat}{f C P:eR}{fd:eV}{ei:List (eR×Obj)}{σ:St}{H:Hp}{s:eS}{Q:eo->eS->Prop}{us:List eo}{vs:List V}{a b:Str}{ps:List Str}{v v2:V}{u u2:eo}{n:Str}{p pos:Pos}{e e':Expr}
set_option tactic.hygienic true in
theorem MU{z:eR}(M:XMk X.K C P f)(ha:XAt X.K C P a)(hab:XAt X.K C P b)(F:FnOkH X.prog X.w X.K X.mg X.base CX0 k f fd ps (Hn X.K P a b))(hr:Room (k+1) X.A)(hb:Binds X.K fd ps [])(I:Inv (X.mark z) ei σ H s)(r:RelV v u)(rr:RelV v2 u2)
 (h:∀s' x dx,Inv (X.mark z) ei σ (upd (upd H dx (.xd [(a,v),(b,v2)])) x (.ext (L2.XIs qx x C (some dx)))) s'->H x=none->H dx=none->dx≠x->s.heap.objs.size<=x->XRec true s'.heap x C (some dx) .none->Q (.ref x) s'):wpAny (model X.prog X.w) (X.mark z).A (call (.ref C) [u,u2]) Q (X.mark z).xe s:=by
 clear 5(M.cl.obj I.kIn)nm q N bs sn sub ab col dd k0 k1 k2 k3 k5 hC hN;have hni:s.heap.nsMap N "__init__" = some (.ref f):=by
  clear 5 M.init cd c1 c2;refine Jk I.kIn hN ?_;unfold clsIn at c1
  split at c1
  .next l=>
   cases c1
   have z:=I.kIn _ _ l;rw[hC] at z
   cases z
   exact c2
  .cases c1
 have I1:Inv (X.mark z) ei σ (upd H (s.heap.objs.size+1) (exO (s.heap.objs.size+1) C s.heap.objs.size)) {s with heap:=DO s.heap C [u,u2]}:=by
  refine I.laid (t':=s.toks) (λb o e=>uc1 _ (uc1 _ e)) (un4 _) (Py ?_);show((s.heap.push _).push _).get? _=_
  heap_get
 have hx0:=I.hok.fresh (un4 s.heap.objs.size);have r2:Vals [V.ref (s.heap.objs.size+1),v,v2] [Value.ref (s.heap.objs.size+1),u,u2]:=.cons rfl (.cons r (.cons rr .nil));have hsp:Hn X.K P a b [V.ref (s.heap.objs.size+1),v,v2] (upd H (s.heap.objs.size+1) (exO (s.heap.objs.size+1) C s.heap.objs.size))
  (λw' H'=>w'=.non/\∃dx,H dx=none/\dx≠s.heap.objs.size+1/\H'=upd (upd H dx (.xd [(a,v),(b,v2)])) (s.heap.objs.size+1) (FQ (s.heap.objs.size+1) C s.heap.objs.size dx)) E0:=by
  refine⟨_,C,s.heap.objs.size,v,v2,rfl,Am,ha,hab,λdx h1 h2=>⟨rfl,dx,by rw[Ai h2] at h1;exact h1,h2,?_⟩⟩
  funext b
  by_cases e1:b=s.heap.objs.size+1
  .subst e1;rw[Am,Am]
  .by_cases e2:b=dx
   .subst e2;rw[Ai e1,Ai e1,Am,Am]
   .rw[Ai e1,Ai e1,Ai e2,Ai e2,Ai e1]
 have hl:([Value.ref (s.heap.objs.size+1),u,u2]++[]).length=ps.length:=by
  have e:=F.len _ _ _ _ hsp;simpa using e
 clear 5 s hh g d t os;refine gm (LX ua8 (M.cl.tail I.kIn) hC hN hni ((bind_fn I.kIn _ (gl.mp M.fn))) (by show 2<=sizeLine;decide) ?_);refine gd (F.run z _ X.stack _ _ ⟨[Value.ref (hh.objs.size+1),u,u2],[]⟩ [Value.ref (hh.objs.size+1),u,u2] _ _ E0 (hr.make C [u,u2] []) (Env0.make (A:=X.A) ⟨I1.env0.frames,I1.env0.mod,I1.env0.bs,I1.env0.bsz,I1.env0.funs,I1.env0.frf,I1.env0.hok,I1.env0.bare⟩ C [u,u2] []) (by have:=hb _ [Value.ref (hh.objs.size+1),u,u2] I1.kIn hl;simpa using this) r2 hsp) λr s' hq'=>?_
 cases r with
 |error e=>exact hq'.elim
 |ok fl=>
   cases fl with
   |ret w'=>
     clear 5(I1.after hq')v' H' I3 rv rfl dx d1 d2 rfl;refine⟨rv,?_⟩;have hx:=(I3.hok (hh.objs.size+1) _ Am).1;have hx:s'.heap.get? (hh.objs.size+1)=some {excObj C hh.objs.size with dict:=some dx}:=hx;have xr:XRec true s'.heap (hh.objs.size+1) C (some dx) .none:=⟨_,_,hx,rfl,rfl,rfl,rfl,λ_=>⟨rfl,by show 4<6;decide⟩⟩;have I4:=I3.write (x:=hh.objs.size+1) (e:=hh.objs.size+1) (o:=.ext (L2.XIs qx (hh.objs.size+1) C (some dx))) (h':=s'.heap) (t':=s'.toks) (by rw[Am];trivial) (.inl rfl) (λ_ _ _ z=>z) ⟨_,hx⟩ (IT xr.to.is);rw[NX] at I4;exact h s' (hh.objs.size+1) dx I4 hx0 d1 d2 (un4 _) xr
   |next=>exact False.elim hq'
   |brk=>exact False.elim hq'
   |cont=>exact False.elim hq'
theorem VI{z:eR}{t:TA}(M:XMk X.K C P f)(ha:XAt X.K C P a)(hab:XAt X.K C P b)(F:FnOkH X.prog X.w X.K X.mg X.base CX0 k f fd ps (Hn X.K P a b))(hr:Room (k+1) X.A)(hb:Binds X.K fd ps [])(hg:Gl (X.mark z) n)(hm:X.mg n=some (.ref C))(hA:PA (X.mark z) [e,e'] t)
 (hdb:autoParam ((n==("__debug__":Str))=false) q1T) (h1:autoParam (starEach [e,e'] X.env=(false,eval e X.env)::starEach [e'] X.env) q3T) (hpl:autoParam ((backTo pos (starEach [e'] X.env)).any (·.1)=false) q3T) :
 PM qx (X.mark z) (.Call (.Name n p) [e,e'] [] pos) C (λσ H Q=>t σ H λvs H1=>∃v u,vs=[v,u]/\∀x dx,H1 x=none->H1 dx=none->dx≠x->Q x (some dx) (upd (upd H1 dx (.xd [(a,v),(b,u)])) x (.ext (L2.XIs qx x C (some dx))))):=by
 intro ei s σ H Q I h;refine fJ (CY I hg hm ?_ hdb);refine ue7 (h₀:=X.base) I.ok.mod.kin M.kp (thn (hA pos ei s σ H _ I h) λus s1 z9=>?_) h1 hpl;clear 5 z9 vs H1 I1 r v u ev q;refine⟨I1.kIn,?_⟩;subst ev
 cases r with
 |cons r0 rs=>
   cases rs with
   |cons r1 rs=>
     cases rs
     exact MU (X:=X) (z:=z) M ha hab F hr hb I1 r0 r1 λs' x dx I' hx hdx ne nx rc=>⟨x,some dx,_,rfl,I',Am,um0 I1.sz nx,rc,q x dx hx hdx ne⟩
end
section
variable{X:Cx}{pos p p2 p3 p4:Pos}{P:eR}{ca:Str->eR}{E:XK}{e e' cN:Expr}
def Ro(prog:eT)(w:eU)(K:eh)(mg:Str->Option eo)(base:Heap)(C P:eR):Prop:=
 ∃(f:eR) (fd:eV) (ps:List Str),XMk K C P f/\XAt K C P "at"/\XAt K C P "side"/\Binds K fd ps []/\FnOkH prog w K mg base CX0 1 f fd ps (Hn K P "at" "side")
theorem Zk{n' v:Str}{C':eR}{bm':List eo}{i:Nat}{rest:List ExceptHandler}{f:M (List D)}{r:D->M Out}(x:XM X.K X.mg P ca)(xn:Ro X.prog X.w X.K X.mg X.base (ca "Broken") P)(h1:X.stack=X.env::X.outer)(h2:X.env.frame=some X.env.locals)(hr:L2.Room 2 X.A)
 (hg:Gl X n') (hm:X.mg n'=some (.ref C')) (c':XCl X.K C' bm') (hs:∀n∈AY,(Value.ref (ca n)::.ref P::VE).contains (.ref C')=Ck n n')
 (hN:X.N.Nodup) (hi:X.N[i]?=some v) (hl:X.env.scope.names.lookup v=some .local) (hx:Ht X (λ_=>E)) (hgB:Gl X "Broken") (ha:∀x,PA (X.mark x) [e,e'] (RA X.K f))
 (hz:∀(A:Around) (s:eS) (Q:eo->eS->Prop) (E:eo->eS->Prop),Q Value.none s->wpAny (model X.prog X.w) A (eval cN X.env) Q E s)
 (hrest:PH true X rest (RH X.K ca (μX X.K E) r)) (hdb:autoParam ((n'==("__debug__":Str))=false) q1T) (hs1:autoParam (A4 e=false) q3T) (hs2:autoParam (A9 [e']=true) q3T) :
 PH true X (.ExceptHandler (some (.Name n' p)) (some v) [.Raise (some (.Call (.Name "Broken" p3) [e,e'] [] p4)) (some cN) p2] pos::rest) (RH X.K ca (μX X.K E) (hAs n' i (Cu "Broken" f) r)):=by
 clear 5 xn fa fd ps M A A2 B F;have hnB:("Broken":Str)∈AY:=by decide
 intro ei s0 σ H y C dx T D I o q;refine ZE h1 h2 hg hm c' hN hi hl M.cl (λz=>VI M A A2 F hr B hgB (x.ms _ hnB) (ha z) (by decide) (AJ hs1) (AL hs2).1) hx hz hrest hdb ei s0 σ H y C dx T D I o ?_;clear 5 q Oo c t n ds fi hn rfl rv o1 t' eq k;refine⟨_,x.cl n hn,?_⟩;rw[hs n hn];unfold hAs at eq;dsimp only at eq
 by_cases hb':Ck n n'=true
 .rw[gE hb'] at eq⊢
  cases e1:Cu "Broken" f {t with env:=t.env.set i (some (.val (.exc n ds)))} with
  |none=>rw[e1] at eq;cases eq
  |some z=>
    clear 5 z o2 t2;rw[e1] at eq
    cases eq
    clear 5(Af e1)es t1 e2 e1;have hny:¬c.A y:=by cases rv with|exc _ _ hA _ _=>exact hA
    refine⟨Oo,c,_,fi.set rv,es,t1,e2,λvs H1 c1 f1 s1 rvs=>?_⟩;rcases es with _|⟨d,_|⟨d',_|⟨_,_⟩⟩⟩
    .cases e1
    .cases e1
    .cases rvs with
     |@cons v0 _ _ _ r0 rs=>
     cases rs with
     |@cons v1 _ _ _ r1 rs=>
     cases rs
     cases e1
     refine⟨_,_,rfl,λu du hu hdu ne=>?_⟩;have hy1:H1 y=some (.ext (XIs true y (ca n) dx)):=s1.ext.keep _ _ o.hx hny;have nyu:y≠u:=λz=>by rw[z,hu] at hy1;cases hy1
     have nyd:y≠du:=λz=>by rw[z,hdu] at hy1;cases hy1
     have f2:=f1.laid (o:=.xd [("at",v0),("side",v1)]) hdu;have hu2:upd H1 du (.xd [("at",v0),("side",v1)]) u=none:=by rw[Ai (Ne.symm ne)];exact hu
     have f3:=f2.laid (o:=.ext (XIs false u (ca "Broken") (some du))) hu2;have ex:=(f1.stp_laid (o:=.xd [("at",v0),("side",v1)]) hdu).ext.trans (f2.stp_laid (o:=.ext (XIs false u (ca "Broken") (some du))) hu2).ext;have s3:=s1.trans ((f1.stp_laid (o:=.xd [("at",v0),("side",v1)]) hdu).trans (f2.stp_laid (o:=.ext (XIs false u (ca "Broken") (some du))) hu2));refine⟨Ne.symm nyu,by rw[Ai nyu,Ai nyd];exact hy1,?_⟩;refine k _ _ c1 (f3.unset i) s3 (.ref u) (.exc (x.ns _ hnB) Am (f2.s.free hu2) ?_ (.cons (r0.mono ex) (.cons (r1.mono ex) .nil))) u (some du) rfl;exact⟨by rw[Ai ne,Am];rfl,f1.s.free hdu⟩
    .cases e1
 .rw[gG hb'] at eq⊢;exact⟨Oo,c,t,n,ds,fi,hn,rfl,rv,o1,t',eq,k⟩
end
theorem P1{prog:eT}{w:eU}{K:eh}{mg:Str->Option eo}{base:Heap}{C P:eR}{qual:Str}{st:Stmt}{p1 p2 p3 p4 p5 p6 p7 p8:Pos}(hbd:Bp st=[.Assign [.Attribute (.Name "self" p1) "at" p2] (.Name "at" p3) p4,.Assign [.Attribute (.Name "self" p5) "side" p6] (.Name "side" p7) p8])(S:FnScope ["self", "at", "side"] ["self", "at", "side"] (Ap st))
 (s1:(Ap st).names.lookup ("self":Str)=some NameKind.local) (s2:(Ap st).names.lookup ("at":Str)=some NameKind.local) (s3:(Ap st).names.lookup ("side":Str)=some NameKind.local) (x:XF2 K C P qual st):Ro prog w K mg base C P:=by
 clear 5 x f fd M A A2 B F;refine⟨f,fd,_,M,A,A2,B,F.okH (k:=0) S (λvs H Q E h=>?_) λcdv z A' outer s H vs Q E hr h=>?_⟩
 .obtain⟨y,C',tp,v,u,rfl,_⟩:=h;rfl
 .rw[hbd];refine⟨_,Il (T4 (P:=P) (CT (i:=0) rfl (.inl s1) (by decide) (by decide)) (CT (i:=1) rfl (.inl s2) (by decide) (by decide)) rfl) (HH (QH (P:=P) (f1:="at") (by decide) (CT (i:=0) rfl (.inl s1) (by decide) (by decide)) (CT (i:=2) rfl (.inl s3) (by decide) (by decide)) rfl)),?_⟩;clear 5 h y C' tp v u rfl hy ha ha2 k;refine⟨v,rfl,.ref y,rfl,y,C',tp,rfl,hy,ha,λdx h1 h2=>⟨u,rfl,.ref y,rfl,y,C',tp,dx,v,rfl,Am,by rw[Ai h2,Am],h2,ha2,?_⟩⟩;have z:=k dx h1 h2;have e:upd (upd (upd H dx (.xd [("at",v)])) y (FQ y C' tp dx)) dx (.xd [("at",v),("side",u)])=upd (upd H dx (.xd [("at",v),("side",u)])) y (FQ y C' tp dx):=by
   funext b
   by_cases e1:b=dx
   .subst e1;rw[Am,Ai h2,Am]
   .by_cases e2:b=y
    .subst e2;rw[Ai e1,Am,Am]
    .rw[Ai e1,Ai e2,Ai e1,Ai e2,Ai e1]
  rw[e];exact z
section
variable{prog:eT}{w:eU}{A:Around}{E:eo->eS->Prop}{s:eS}
variable{I:eR}{fp wr:List eR}{G:Array GenState->Array GenState->Prop}{n:Nat}{P:Nat->eo->Prop}{St:Nat->eS->Prop}
end
section
variable{X:Cx}
end
section
variable{X:Cx}{pos:Pos}{e:Expr}
end
section
variable{X:Cx}
end
section
variable{K:eh}
end
section
variable{X:Cx}{pos:Pos}{e:Expr}
end
section
variable{K:eh}
theorem UN{P:eT}{w:eU}{mg:Str->Option eo}{base:Heap}{x qual:Str}{st:Stmt}{fa:eR}{fd:eV}{N ps:List Str}{k n m:Nat}{g:M Out}(e1:ps.length=n)(e2:N.length=m)(F:Fun K x qual st fa fd)(S:FnScope N ps (Ap st))
 (hb:∀(cdv:eo) (A:Around) (outer:List Env) (s:eS) (H:Hp) (E:XK),L2.Room k (A.deeper (PyProof.Rows.envOfC qual (Ap st) s.heap.objs.size fa cdv))->
   Co (CX1 false P w) (cxX false P w K mg base N qual (Ap st) fa cdv A outer s H E) (λ_=>E)->FX false (cxX false P w K mg base N qual (Ap st) fa cdv A outer s H E) (λ_=>E)->
   PassesOwn (model P w) (cxX false P w K mg base N qual (Ap st) fa cdv A outer s H E).A (cxX false P w K mg base N qual (Ap st) fa cdv A outer s H E).env (cxX false P w K mg base N qual (Ap st) fa cdv A outer s H E).xe->
   Ht (cxX false P w K mg base N qual (Ap st) fa cdv A outer s H E) (λ_=>E)->
   PSs (cxX false P w K mg base N qual (Ap st) fa cdv A outer s H E) (Bp st) (RSg K (μX K E) g)):FnOk P w K mg base (CX1 false P w) (k+1) fa fd ps (spX K (fnOf n m g)):=
 M7 e1 e2 F S λcdv A outer s H E hr h1 h2 h3=>hb cdv A outer s H E hr h1 h2 h3 XE.raisesT
theorem U5{M:Model}{env:Env}{j:Nat}{pos:Pos}:∀(A:Around) (s:eS) (Q:eo->eS->Prop) (E:eo->eS->Prop),Q Value.none s->wpAny M A (eval (.Constant .none j pos) env) Q E s:=λA s Q E h=>un7 h
def T6(K:eh)(b:Bool):R2:=λx y H Q=>∃p q us ts,x=.ref p/\y=.ref q/\H p=some (.dK us)/\H q=some (.dK ts)/\us.length=ts.length/\(∀kv∈us,∃z,Ep ts kv.1=some z/\GH K H kv.2 z)/\Q (.bl b) H
theorem Uu{P:eT}{w:eU}{H:Hp}{s:eS}{A:Around}(hok:HOk P w H s.heap){ts:List (Key×V)}{ws:List (Key×eo)}(rel2:KV ts ws)(hu:A.units+60<cLine):∀{us:List (Key×V)}{vs:List (Key×eo)},KV us vs->(∀kv∈us,∃z,Ep ts kv.1=some z/\GH K H kv.2 z)->PySem.W.KeqHits A s ws vs true:=λ{us vs} rel hh=>by
 unfold KV at rel
 induction rel with
 |nil=>exact .nil
 |@cons p q ps qs h1 _ ih=>
   clear 5(hh p ue4)z ez c dz dz' r1 r2 e;clear 5 q k v;clear 5(RelO.some_of (v:=z) (o:=valueAt ws p.1) (by rw[<-ez];exact rel2.val _))u' hu' ru';have:=PySem.W.KeqHits.hit (k:=k) (v:=v) (y:=u') (e:=true) (b:=true) (by rw[show k=p.1 from h1.1.symm];exact hu') (JM hok EQD h1.2 ru' r1 r2 e (by unfold EQD;lia)).2 (ih λkv m=>hh kv (ud3 _ m));exact this
section
variable{X:Cx}
theorem Vv(hu:X.A.units+64<cLine):OpR X (compareOp .NotEq) (T6 X.K false):=by
 intro ei s σ H x y v u Q I rx ry h;clear 5 h p q us ts rfl rfl h1 h2 hl hh k
 cases rx;cases ry
 obtain⟨_,lo1,vs,rel1,d1⟩:=IQ I.hok h1;obtain⟨_,lo2,ws,rel2,d2⟩:=IQ I.hok h2;have hlen:vs.length=ws.length:=by rw[<-rel1.length,<-rel2.length];exact hl
 refine PySem.W.keq_ne (knd:=B8 X.prog X.w) lo1 lo2 d1 d2 ∅ (λ_=>Uu (A:=X.A.in1) I.hok rel2 (by rw[show X.A.in1.units=X.A.units+1 from rfl];lia) rel1 hh) ?_;rw[hlen,ui3];exact⟨.bl false,H,I,rfl,k⟩
end
def JN(b:Bool)(x y:D):M D:=match x,y with
 |.obj m,.obj n=>λt=>match t.S[m]?,t.S[n]? with
   |some (.dct kvs),some (.dct lvs)=>if kvs.length=lvs.length/\kvs.all (λkv=>match Bf lvs kv.1 with|some e=>alike1 t.S kv.2 e|none=>false)=true then some (.bl b,t) else none
   |_,_=>none
 |_,_=>fail
set_option tactic.hygienic true in
theorem Tf{b:Bool}:A5 K (T6 K b) (JN b):=λ{Oo c t σ H x y dx dy r t' Q} f rx ry eq k=>by
 unfold JN at eq
 split at eq
 .next m n=>
  split at eq
  .next kvs lvs e1 e2=>
   split at eq
   .next hp=>
    cases eq
    obtain⟨a,rfl,ha⟩:=rx.rv
    obtain⟨b',rfl,hb⟩:=ry.rv
    clear 5(f.s.obs _ a _ ha e1)us g1 g2;clear 5(f.s.obs _ b' _ hb e2)ts g3 g4;refine⟨a,b',us,ts,rfl,rfl,g1,g3,by rw[g2.length,g4.length];exact hp.1,λkv m=>?_,k _ H c f .refl (.bl b)⟩;clear 5(g2.allK kv m)q q1 q2 q3;have hq:=uh7.mp hp.2 q q1
    split at hq
    .next e ee=>
     clear 5(g4.get _ ee)z z1 z2;exact⟨z,by rw[q2];exact z1,alike1.to f.s q3 z2 hq⟩
    .cases hq
   .cases eq
  .cases eq
 .cases eq
def CM(K:eh):Prop:=∀n∈JL,∀C,nsIn K mainGlobals n=some (some (.ref C))->Cls K C/\∀f∈atN,NoAttr K C f
noncomputable def Ft(f:Str)(v:D):List (Str×D)->List (Str×D)
 |[]=>[(f,v)]
 |(g,x)::r=>if g=f then(g,v)::r else(g,x)::Ft f v r
section
variable{K:eh}{c:Cf}{H:Hp}
theorem FldR.len:∀{us:List (Str×V)}{fs:List (Str×D)},FldR K c H us fs->us.length=fs.length
 |_,_,.nil=>rfl
 |_,_,.cons _ t=>by rw[ug9,ug9,FldR.len t]
theorem FldR.look{f:Str}{d:D}:∀{us:List (Str×V)}{fs:List (Str×D)},FldR K c H us fs->fs.lookup f=some d->∃v,us.lookup f=some v/\Rep K c H v d
 |_,_,.nil,e=>by cases e
 |(g,x)::us,(g',y)::fs,.cons ⟨h1,h2⟩ t,e=>by
   have h1:g=g':=h1;subst h1
   by_cases q:(f==g)=true
   .simp only[List.lookup,q] at e⊢
    cases e
    exact⟨_,rfl,h2⟩
   .have q:(f==g)=false:=by simpa using q
    simp only[List.lookup,q] at e⊢;exact FldR.look t e
theorem FldR.none{f:Str}:∀{us:List (Str×V)}{fs:List (Str×D)},FldR K c H us fs->(∀p∈fs,p.1≠f)->us.lookup f=none
 |_,_,.nil,_=>rfl
 |(g,x)::us,(g',y)::fs,.cons ⟨h1,h2⟩ t,e=>by
   have h1:g=g':=h1;subst h1;have q:(f==g)=false:=by
    have:=e (g,y) (.head _);simpa using λz:f=g=>this z.symm
   simp only[List.lookup,q];exact FldR.none t λp hp=>e p (.tail _ hp)
theorem FldR.put{f:Str}{v:V}{d:D}(r:Rep K c H v d):∀{us:List (Str×V)}{fs:List (Str×D)},FldR K c H us fs->FldR K c H (CI f v us) (Ft f d fs)
 |_,_,.nil=>.cons ⟨rfl,r⟩ .nil
 |(g,x)::us,(g',y)::fs,.cons ⟨h1,h2⟩ t=>by
   have h1:g=g':=h1;subst h1;show FldR K c H (if g=f then(g,v)::us else(g,x)::CI f v us) (if g=f then(g,d)::fs else(g,y)::Ft f d fs)
   by_cases q:g=f
   .rw[gE q,gE q];exact .cons ⟨rfl,r⟩ t
   .rw[gG q,gG q];exact .cons ⟨rfl,h2⟩ (FldR.put r t)
theorem FldR.mono{c':Cf}{H':Hp}(e:Ext c H c' H'){us:List (Str×V)}{fs:List (Str×D)}(h:FldR K c H us fs):FldR K c' H' us fs:=Paired.mapP h λ_ _ z=>⟨z.1,z.2.mono e⟩
theorem NI{f:Str}{v:D}(hf:f∈atN):∀{fs:List (Str×D)},(∀p∈fs,p.1∈atN)->∀p∈Ft f v fs,p.1∈atN
 |[],_=>λp hp=>by rw[show Ft f v []=[(f,v)] from rfl,uf0] at hp;subst hp;exact hf
 |(g,x)::r,h=>λp hp=>by
   rw[show Ft f v ((g,x)::r)=(if g=f then(g,v)::r else(g,x)::Ft f v r) from rfl] at hp
   split at hp
   .rcases uk8.mp hp with e|e
    .subst e;exact h (g,x) (.head _)
    .exact h p (.tail _ e)
   .rcases uk8.mp hp with e|e
    .subst e;exact h (g,x) (.head _)
    .exact NI hf (λp hp=>h p (.tail _ hp)) p e
end
noncomputable def Fi{α:Type}(d:D)(h:Nat->Str->List (Str×D)->M α):M α:=λt=>match d with
 |.obj k=>match t.S[k]? with
   |some (.ins n fs)=>h k n fs t
   |_=>none
 |_=>none
theorem GW{α:Type}{d:D}{h:Nat->Str->List (Str×D)->M α}{t:T}{z:α×T}(e:Fi d h t=some z):∃k n fs,d=.obj k/\t.S[k]?=some (.ins n fs)/\h k n fs t=some z:=by
 cases d with
 |obj k=>
   rw[show Fi (.obj k) h t=(match t.S[k]? with|some (.ins n fs)=>h k n fs t|_=>none) from rfl] at e
   cases es:t.S[k]? with
   |none=>rw[es] at e;cases e
   |some o=>
     rw[es] at e
     cases o with
     |ins n fs=>exact⟨k,n,fs,rfl,es,e⟩
     |_=>cases e
 |_=>cases e
def CZ(f:Str)(a:M D):M D:=bnd a λd=>Fi d λ_ _ fs t=>(fs.lookup f).map λv=>(v,t)
def EO(f:Str)(gv ga:M D):M Out:=bnd gv λv=>bnd ga λd=>Fi d λk n fs t=>if fs.length<1000 then some (.next,{t with S:=t.S.set k (.ins n (Ft f v fs))}) else none
def KW(n:Str)(g:Fn)(f:M (List D)):M D:=bnd f λds t=>match g (.obj t.S.length::ds) (t.S++[.ins n []]) with
 |some (.non,S')=>some (.obj t.S.length,{t with S:=S'})
 |_=>none
def Dq(n:Str)(g:Fn)(o:M D)(f:M (List D)):M D:=bnd o λd=>Fi d λ_ n' _=>if n'=n then bnd f λds t=>match g (d::ds) t.S with
 |some (r,S')=>some (r,{t with S:=S'})
 |none=>none else fail
theorem HI{c:Cf}{H:Hp}{v:V}{k:Nat}(h:Rep K c H v (.obj k)):∃a,v=.ref a/\c.ι[k]?=some a:=by
 obtain⟨_,rfl,e⟩:=h.rv
 exact⟨_,rfl,e⟩
end
section
variable{X:Cx}{CX:CXT}{k:Nat}{f C:eR}{fd:eV}{ps:List Str}{sp:Sp}{E:St->XK}{x m:Str}{p pos apos:Pos}{e o:Expr}{es:List Expr}{ta:TE}{t:TA}
theorem VS{ei:List (eR×Obj)}{σ:St}{H:Hp}{s:eS}{Q:VK}{us:List eo}{vs:List V}(F:FnOk X.prog X.w X.K X.mg X.base CX k f fd ps sp)(hr:Room k X.A)(hb:Binds X.K fd ps [])(hx:Co CX X E)
 (I:Inv X ei σ H s) (r:Vals vs us) (h:sp vs H Q (E σ)):wpAny (model X.prog X.w) X.A (call (.ref f) us) (EP X ei σ Q) X.xe s:=by
 have hl:(us++[]).length=ps.length:=by rw[ui8,<-r.length];exact F.len _ _ _ _ h
 refine gm (gd (F.run X.A X.stack s H ⟨us,[]⟩ us vs Q (E σ) hr I.env0 (by have:=hb s us I.kIn hl;rwa [ui8] at this) r h) λr s' hq=>?_)
 cases r with
 |error e=>exact hx ei σ H s e s' I hq
 |ok fl=>
   cases fl with
   |ret u=>exact I.after hq
   |next=>exact False.elim hq
   |brk=>exact False.elim hq
   |cont=>exact False.elim hq
def YO(C:eR)(m:Str)(sp:Sp)(E:St->XK)(ta:TE)(t:TA):TE:=λσ H Q=>ta σ H λx H1=>∃a dx fs,x=.ref a/\H1 a=some (.ins C dx fs)/\fs.lookup m=none/\
 t σ H1 λvs H2=>sp (x::vs) H2 Q (E σ)
abbrev H9(X:Cx)(o:Expr)(m:Str)(es:List Expr)(apos pos:Pos)(pl:Sem Bool):Prop:=eval (.Call (.Attribute o m apos) es [] pos) X.env=(do
 let ov <-eval o X.env
 standAt apos.atName
 let (f,first) <-holding [ov] (getMethod ov m pl)
 callWith pos f first (backTo pos (starEach es X.env)) (backToKw pos (keywordEach [] X.env)))
theorem SL{pl:Sem Bool}(he:PE X o ta)(c:Cls X.K C)(hm:Meth X.K C m f)(F:FnOk X.prog X.w X.K X.mg X.base CX k f fd ps sp)(hr:Room k X.A)(hb:Binds X.K fd ps [])(hx:Co CX X E)(ha:PA X (e::es) t)
 (hst:starEach (e::es) X.env=(false,eval e X.env)::starEach es X.env) (hpl:(backTo pos (starEach es X.env)).any (·.1)=false) (ht:H9 X o m (e::es) apos pos pl) :
 PE X (.Call (.Attribute o m apos) (e::es) [] pos) (YO C m sp E ta t):=by
 intro ei s σ H Q I h;refine fu (pl:=pl) (thn (he ei s σ H _ I h) λu s1 z9=>?_) ht;clear 5 z9 x H1 I1 rx a dx fs ex ea l q;subst ex;obtain rfl:u=Value.ref a:=rx;refine Jb I1 ea c hm l ?_;refine ue7 (first:=[.ref a]) (h₀:=X.base) I.ok.mod.kin hm.kp (thn (ha pos ei s1 σ H1 _ I1 q) λus s2 z9=>?_) hst hpl;clear 5 z9 vs H2 I2 r q2;refine⟨I2.kIn,?_⟩;exact VS (us:=.ref a::us) (vs:=.ref a::vs) F hr hb hx I2 (.cons rfl r) q2
structure ByCls(K:eh)(C:eR)(m:Str)(f:eR):Prop where
 ga:specialIn K (.ref C) "__getattribute__" = some (some (.builtin "type.__getattribute__"))
 rd:readsIn K C (.type "type")=true
 at_:(match findCls K (.ref C) (.type "type") m with|some (.val (.ref g))=>g==f|_=>false)=true
 kp:keepIn K (.ref f)=true
end
section
variable{n:Str}{h:Fn}
section
variable{X:Cx}{e o a value:Expr}{es:List Expr}{pos pos' apos p:Pos}{f:Str}{g gv ga:M D}{fl:M (List D)}{C:eR}
theorem W8(cm:CM X.K)(hf:f∈atN)(he:PE X e (RE X.K g))(hb:attributeBase e f X.env (eval e X.env)=eval e X.env):PE X (.Attribute e f pos) (RE X.K (CZ f g)):=
 AB (Yb he hb) λσ H Q z9=>by
  clear 5 z9 Oo c t fi r t' eq kk;clear 5(Af eq)d t1 e1 eq;clear 5(GW eq)k n fs rfl es eq;clear 5(uc4.mp eq)y e2 e3
  cases e3
  refine⟨Oo,c,t,fi,.obj k,_,e1,λv H1 c1 f1 s1 rv=>?_⟩;clear 5(HI rv)b rfl hk;obtain⟨⟨hn,hat⟩,C,dx,us,g1,g2,g3⟩:=f1.s.obs k b _ hk es;clear 5(g3.look e2)w l1 l2;exact⟨b,C,dx,us,w,rfl,g2,(cm n hn C g1).1,(cm n hn C g1).2 f hf,l1,kk w H1 c1 f1 s1 l2⟩
set_option tactic.hygienic true
theorem Xp{μ:Cf->Hp->D->(V->Hp->Prop)->Prop}(cm:CM X.K)(hf:f∈atN)(ha:PE X o (RE X.K ga))(hv:PE X value (RE X.K gv))(hs:autoParam (swapsWith value (some (.Attribute o f pos')) pos.line X.env=pure false) q3T) :
 PS X (.Assign [.Attribute o f pos'] value pos) (RSg X.K μ (EO f gv ga)):=
 Bh (Yj ha hv hs) λD σ H z9=>by
  clear 5 z9 Oo c t fi r t' eq kk;clear 5(Af eq)d t1 e1 eq;clear 5(Af eq)d2 t2 e2 eq;clear 5(GW eq)k n fs rfl es eq
  split at eq
  .next hl=>
   cases eq
   refine⟨Oo,c,t,fi,d,t1,e1,λv H1 c1 f1 s1 rv=>⟨Oo,c1,t1,f1,.obj k,t2,e2,λx H2 c2 f2 s2 rx=>?_⟩⟩;clear 5(HI rx)b rfl hk;obtain⟨⟨hn,hat⟩,C,dx,us,g1,g2,g3⟩:=f2.s.obs k b _ hk es;refine⟨b,C,dx,us,rfl,g2,(cm n hn C g1).1,(cm n hn C g1).2 f hf,by rw[g3.len];exact hl,?_⟩;obtain⟨f3,s3⟩:=f2.wrObj (o:=.ins n (Ft f d fs)) (u:=.ins C dx (CI f v us)) hk λc' H' ext hu=>⟨⟨hn,NI hf hat⟩,C,dx,_,g1,hu,(FldR.put (rv.mono s2.ext) g3).mono ext⟩;exact kk σ _ c2 f3 ((s1.trans s2).trans s3)
  .cases eq
theorem Qk{ds:List D}{t:T}{r:D}{t':T}(e:(match h (.obj t.S.length::ds) (t.S++[.ins n []]) with|some (.non,S')=>some (.obj t.S.length,{t with S:=S'})|_=>none:Option (D×T))=some (r,t')) :
 ∃S',h (.obj t.S.length::ds) (t.S++[.ins n []])=some (.non,S')/\r=.obj t.S.length/\t' = {t with S:=S'}:=by
 split at e
 .next S' q=>cases e;exact⟨S',q,rfl,rfl⟩
 .cases e
set_option tactic.hygienic false
theorem UH{k:Nat}{fa:eR}{fd:eV}{ps:List Str}(hn:n∈JL)(hC:nsIn X.K mainGlobals n=some (some (.ref C)))(M:Mk X.K C fa)(F:FnOk X.prog X.w X.K X.mg X.base CX0 k fa fd ps (spF X.K h))(hr:Room (k+1) X.A)(hg:Gl X n)(hm:X.mg n=some (.ref C))(hb:Binds X.K fd ps [])
 (ha:PA X (e::es) (RA X.K fl)) (hdb:autoParam ((n==("__debug__":Str))=false) q1T) (h1:autoParam (A4 e=false) q3T) (h2:autoParam (A9 es=true) q3T):PE X (.Call (.Name n p) (e::es) [] pos) (RE X.K (KW n h fl)):=
 AB (VB M F hr hg hm hb .nil OK ha hdb (AJ h1) (AL h2).1) λσ H Q z9=>by
  clear 5 z9 Oo c t fi r t' eq kk;clear 5(Af eq)ds t1 e1 eq;clear 5(Qk eq)S' e2 rfl rfl;refine⟨Oo,c,t,fi,ds,t1,e1,λvs H1 c1 f1 s1 rvs x dx hx hdx ne=>?_⟩;rw[ui8];have f2:=f1.laid (p:=dx) (o:=.own x) hdx;have s2:=f1.stp_laid (p:=dx) (o:=.own x) hdx;have hx2:upd H1 dx (.own x) x=none:=by rw[Ai (Ne.symm ne)];exact hx
  obtain⟨c3,f3,s3,e3⟩:=f2.newObj (o:=.ins n []) (u:=.ins C dx []) hx2 λc' H' ext hu=>⟨⟨hn,λp hp=>by cases hp⟩,C,dx,[],hC,hu,.nil⟩;refine⟨c3,.obj t1.S.length::ds,_,f3.s,.cons (.obj e3) ((rvs.mono s2.ext).mono s3.ext),.non,S',e2,λv H' c' si st ho rv=>?_⟩;clear 5(f3.after si st ho)f4 s4
  cases rv
  exact⟨rfl,kk _ H' c' f4 ((s1.trans s2).trans (s3.trans s4)) (.obj (st.ext.io _ _ e3))⟩
structure MAt(K:eh)(n m:Str)(C fa:eR):Prop where
 cl:n∈JL
 at_:nsIn K mainGlobals n=some (some (.ref C))
 me:Meth K C m fa
 na:m∉atN
theorem Ky{d:D}{t:T}{r:D}{t':T}(e:Fi d (λ_ n' _=>if n'=n then bnd fl λds t=>match h (d::ds) t.S with|some (r,S')=>some (r,{t with S:=S'})|none=>none else fail) t=some (r,t')) :
 ∃k fs ds t1 S',d=.obj k/\t.S[k]?=some (.ins n fs)/\fl t=some (ds,t1)/\h (d::ds) t1.S=some (r,S')/\t' = {t1 with S:=S'}:=by
 clear 5(GW e)k n' fs rfl es q
 by_cases hn:n'=n
 .subst hn;rw[gE rfl] at q;clear 5(Af q)ds t1 e1 q;clear 5(GN q)S' e2 rfl;exact⟨k,fs,ds,t1,S',rfl,es,e1,e2,rfl⟩
 .rw[gG hn] at q;cases q
section
variable{k:Nat}{fa:eR}{fd:eV}{ps:List Str}{h:Fn}{n m:Str}{qx:Bool}{E:L2.St->XK}
theorem M5{pl:Sem Bool}(cm:CM X.K)(ma:MAt X.K n m C fa)(F:FnOk X.prog X.w X.K X.mg X.base CX0 k fa fd ps (spF X.K h))(hr:Room k X.A)(hb:Binds X.K fd ps [])(he:PE X o (RE X.K g))(ha:PA X (e::es) (RA X.K fl))
 (h1:autoParam (A4 e=false) q3T) (h2:autoParam (A9 es=true) q3T) (ht:autoParam (H9 X o m (e::es) apos pos pl) q3T):PE X (.Call (.Attribute o m apos) (e::es) [] pos) (RE X.K (Dq n h g fl)):=
 AB (VC (pl:=pl) he (cm n ma.cl C ma.at_).1 ma.me F hr hb .nil OK ha (AJ h1) (AL h2).1 ht) λσ H Q z9=>by
  clear 5 z9 Oo c t fi r t' eq kk;clear 5(Af eq)d t1 e1 eq;clear 5(Ky eq)j fs ds t2 S' rfl es e2 e3 rfl;refine⟨Oo,c,t,fi,.obj j,t1,e1,λv H1 c1 f1 s1 rv=>?_⟩;clear 5(HI rv)b rfl hk;obtain⟨⟨_,hat⟩,C',dx,us,g1,g2,g3⟩:=f1.s.obs j b _ hk es;rw[ma.at_] at g1
  cases g1
  refine⟨b,dx,us,rfl,g2,g3.none λp hp z=>ma.na (z ▸ hat p hp),Oo,c1,t1,f1,ds,t2,e2,λvs H2 c2 f2 s2 rvs=>?_⟩;show spF X.K h (V.ref b::(vs++[])) H2 Q E0;rw[ui8];refine⟨c2,.obj j::ds,t2.S,f2.s,.cons (.obj (s2.ext.io _ _ hk)) rvs,r,S',e3,λv H' c' si st ho rv=>?_⟩;clear 5(f2.after si st ho)f3 s3;exact kk v H' c' f3 ((s1.trans s2).trans s3) rv
theorem UV{pl:Sem Bool}(cm:CM X.K)(ma:MAt X.K n m C fa)(F:FnOk X.prog X.w X.K X.mg X.base (CX1 qx X.prog X.w) k fa fd ps (spX X.K h))(hr:Room k X.A)(hb:Binds X.K fd ps [])(hx:Co (CX1 qx X.prog X.w) X E)(he:PE X o (RE X.K g))(ha:PA X (e::es) (RA X.K fl))
 (h1:autoParam (A4 e=false) q3T) (h2:autoParam (A9 es=true) q3T) (ht:autoParam (H9 X o m (e::es) apos pos pl) q3T):PE X (.Call (.Attribute o m apos) (e::es) [] pos) (RX X.K E (Dq n h g fl)):=
 AB (SL (pl:=pl) he (cm n ma.cl C ma.at_).1 ma.me F hr hb hx ha (AJ h1) (AL h2).1 ht) λσ H Q z9=>by
  clear 5 z9 Oo c t fi r t' eq kk;clear 5(Af eq)d t1 e1 eq;clear 5(Ky eq)j fs ds t2 S' rfl es e2 e3 rfl;refine⟨Oo,c,t,fi,.obj j,t1,e1,λv H1 c1 f1 s1 rv=>?_⟩;clear 5(HI rv)b rfl hk;obtain⟨⟨_,hat⟩,C',dx,us,g1,g2,g3⟩:=f1.s.obs j b _ hk es;rw[ma.at_] at g1
  cases g1
  refine⟨b,dx,us,rfl,g2,g3.none λp hp z=>ma.na (z ▸ hat p hp),Oo,c1,t1,f1,ds,t2,e2,λvs H2 c2 f2 s2 rvs=>?_⟩;refine⟨c2,.obj j::ds,t2.S,f2.s,.cons (.obj (s2.ext.io _ _ hk)) rvs,r,S',e3,λv H' c' si st ho rv=>?_⟩;clear 5(f2.after si st ho)f3 s3;exact kk v H' c' f3 ((s1.trans s2).trans s3) rv
end
end
variable{K:eh}
theorem X0{k:Kd}{P:eT}{w:eU}{mg:Str->Option eo}{base:Heap}{n:Nat}{fa:eR}{fd:eV}{ps:List Str}{f:Fn}(h:okK k P w K mg base n fa fd ps f):okK k P w K mg base (n+1) fa fd ps f:=by
 cases k<;>exact FnOk.mono h (un4 _)
def Of(K:eh)(C:eR):Bool:=plainGet K C Str.empty&&hasDictIn K C&&plainOver K C&&findIn K (.ref C) "__setattr__" == some (some (.builtin "object.__setattr__"))&&atN.all λf=>findIn K (.ref C) f==some none
theorem Ur{C:eR}(h:Of K C=true):Cls K C/\∀f∈atN,NoAttr K C f:=by
 unfold Of at h;simp only[uh3,gl,uh7] at h;obtain⟨⟨⟨⟨a,b⟩,c⟩,d⟩,e⟩:=h;exact⟨⟨a,b,c,d⟩,λf hf=>e f hf⟩
theorem Zb(h:∀n∈JL,nsIn K mainGlobals n=some none\/∃C,nsIn K mainGlobals n=some (some (.ref C))/\Of K C=true):CM K:=λn hn C e=>by
 rcases h n hn with q|⟨C',q,b⟩
 .rw[e] at q;cases q
 .rw[e] at q;cases q;exact Ur b
noncomputable def Oy(K:eh)(C:eR):Bool:=makesIn K C&&keepIn K (.ref C)
theorem Zu{C f:eR}(h:Oy K C=true)(i:findIn K (.ref C) "__init__" = some (some (.ref f)))(hf:isFn K (.ref f)=true):Mk K C f:=by
 unfold Oy at h;simp only[uh3] at h;exact⟨h.1,i,hf,h.2⟩
end
section
variable{K:eh}
end
abbrev Gd:=Option (Nat×List D)
def Gon(g:Gd)(S:List Ob):Prop:=∀k xs,g=some (k,xs)->S[k]?=some (.lst xs)
def chk(g:Gd):M Unit:=λt=>@ite _ (Gon g t.S) (Classical.propDecidable _) (some ((),t)) none
section
variable{g:Gd}
set_option tactic.hygienic true in
theorem Gi{t t':T}{u:Unit}(h:chk g t=some (u,t')):Gon g t.S/\t'=t:=by
 unfold chk at h
 split at h
 .next q=>cases h;exact⟨q,rfl⟩
 .cases h
theorem IN{t:T}(h:Gon g t.S):chk g t=some ((),t):=by unfold chk;rw[gE h]
def compG(g:Gd)(st:D->M Unit)(tst:M Bool)(elt:M D):List D->M (List D)
 |[]=>bnd (chk g) λ_=>ret []
 |d::r=>bnd (chk g) λ_=>bnd (st d) λ_=>bnd tst λk=>if k=true then bnd elt λx=>bnd (compG g st tst elt r) λxs=>ret (x::xs) else compG g st tst elt r
def GV(n:Nat)(fr:List Nat)(f:M (Gd×List D))(st:D->M Unit)(tst:M Bool)(elt:M D):M (List D):=bnd f λp t=>match compG p.1 st tst elt p.2 ⟨cenv n fr t.env,t.S⟩ with
 |some (xs,t')=>if xs.length<=LIM then some (xs,{t with S:=t'.S}) else none
 |none=>none
structure ItOk3(K:eh)(J:It)(g:Gd)(c:Cf)(H:Hp)(ds:List D):Prop where
 go:∀c' H' S' (i:Nat),Ext c H c' H'->SInv K c' S' H'->Gon g S'->i<ds.length->J.go i H'
 yld:∀c' H' S' (i:Nat) x H'' d,Ext c H c' H'->SInv K c' S' H'->Gon g S'->ds[i]?=some d->J.yld i H' x H''->∃p vs es,x=.ref p/\H' p=none/\H''=upd H' p (.tup vs)/\d=.tup es/\Reps K c' H' vs es
 stop:∀c' H' S',Ext c H c' H'->SInv K c' S' H'->Gon g S'->J.stop ds.length H'
inductive RI3(K:eh)(f:M (Gd×List D))(σ:L2.St)(H:Hp)(R:It->Hp->Prop):Prop where
 |mk (Oo:eR->Prop) (c:Cf) (t:T) (fi:FInv K Oo c t σ H) (p:Gd×List D) (t':T) (e:f t=some (p,t')) (k:∀J H' c',FInv K Oo c' t' σ H'->Stp Oo c H c' H'->ItOk3 K J p.1 c' H' p.2->R J H'):RI3 K f σ H R
section
variable{X:Cx}{e a b tg iter elt:Expr}{ifs:List Expr}{pos:Pos}{scope:Scope}{N':List Str}{n:Nat}{fr:List Nat}{st:D->M Unit}{tst:M Bool}{el:M D}
end
structure ItOkG(K:eh)(J:It)(g:Gd)(c:Cf)(H:Hp)(ds:List D):Prop where
 go:∀c' H' S' (i:Nat),Ext c H c' H'->SInv K c' S' H'->Gon g S'->i<ds.length->J.go i H'
 yld:∀c' H' S' (i:Nat) x H'' d,Ext c H c' H'->SInv K c' S' H'->Gon g S'->ds[i]?=some d->J.yld i H' x H''->H''=H'/\Rep K c' H' x d
 stop:∀c' H' S',Ext c H c' H'->SInv K c' S' H'->Gon g S'->J.stop ds.length H'
variable{K:eh}
theorem ItOk.toG{J:It}{c:Cf}{H:Hp}{ds:List D}(h:ItOk K J c H ds):ItOkG K J g c H ds:=
 ⟨λc' H' _ i e _ _=>h.go c' H' i e,λc' H' _ i x H'' d e _ _=>h.yld c' H' i x H'' d e,λc' H' _ e _ _=>h.stop c' H' e⟩
def RIG(K:eh)(f:M (Gd×List D)):TI:=λσ H R=>∃Oo c t,FInv K Oo c t σ H/\∃p t',f t=some (p,t')/\∀J H' c',FInv K Oo c' t' σ H'->Stp Oo c H c' H'->ItOkG K J p.1 c' H' p.2->R J H'
set_option tactic.hygienic true in
def forG(g:Gd)(st:D->M Unit)(b:M Out):List D->M Out
 |[]=>bnd (chk g) λ_=>ret .next
 |d::r=>bnd (chk g) λ_=>bnd (st d) λ_=>bnd b λo=>match o with
   |.next=>forG g st b r
   |.cont=>forG g st b r
   |.brk=>ret .next
   |.ret x=>ret (.ret x)
def IZ(f:M (Gd×List D))(st:D->M Unit)(b:M Out):M Out:=bnd f λp=>forG p.1 st b p.2
theorem RS.forG{μ:Cf->Hp->D->(V->Hp->Prop)->Prop}{K:eh}{f:M (Gd×List D)}{st:D->M Unit}{b:M Out}{E:Ends}{σ:L2.St}{H:Hp}(q:RSg K μ (IZ f st b) E σ H):Tt (RIG K f) (RG K st) (RSg K μ b) E σ H:=by
 clear 5 q Oo c t fi o t' eq k;clear 5(Af eq)pg t1 e1 eq;refine⟨Oo,c,t,fi,pg,t1,e1,λJ H1 c1 f1 s1 it=>?_⟩;clear 5 pg g ds;dsimp only at eq it;refine⟨λi m σ' H'=>m=ds.length-i/\i<=ds.length/\∃c' t2,FInv K Oo c' t2 σ' H'/\Stp Oo c1 H1 c' H'/\L2.forG g st b (ds.drop i) t2=some (o,t'),⟨_,rfl,un3 _,c1,t1,f1,.refl,by rw[uk4];exact eq⟩,?_⟩;rintro i m σ' H' ⟨rfl,hi,c',t2,f2,s2,e2⟩
 by_cases hlt:i<ds.length
 .rw[ub2 hlt] at e2;unfold L2.forG at e2;clear 5(Af e2)u0 t0 e0 e2;clear 5(Gi e0)hon ht0;rw[ht0] at e2;clear e0 ht0;refine .inr ⟨it.go c' H' _ i s2.ext f2.s hon hlt,λσ3 H3=>∃c3 t3,FInv K Oo c3 t3 σ3 H3/\Stp Oo c1 H1 c3 H3/\L2.forG g st b (ds.drop (i+1)) t3=some (o,t'),λσ3 H3 h=>⟨ds.length-(i+1),by lia,rfl,hlt,h⟩,λx H'' hy=>?_⟩;clear 5(it.yld c' H' _ i x H'' _ s2.ext f2.s hon (ub4 hlt) hy)rfl rx;clear 5(Af e2)u t3 e3 e2;clear 5(Af e2)o4 t4 e4 e2;refine⟨Oo,c',t2,_,f2,rx,t3,e3,λσ3 H3 c3 f3 s3=>?_⟩;refine⟨Oo,c3,t3,f3,o4,t4,e4,λσ5 H5 c5 f5 s5=>?_⟩;have s':=(s2.trans s3).trans s5
  cases o4 with
  |next=>exact⟨c5,t4,f5,s',e2⟩
  |cont=>exact⟨c5,t4,f5,s',e2⟩
  |brk=>cases e2;exact k σ5 H5 c5 f5 (s1.trans s')
  |ret r=>cases e2;exact k σ5 H5 c5 f5 (s1.trans s')
 .have hi':i=ds.length:=by lia
  subst hi';rw[uh5] at e2;unfold L2.forG at e2;clear 5(Af e2)u0 t0 e0 e2;clear 5(Gi e0)hon ht0;rw[ht0] at e2;clear e0 ht0
  cases e2
  exact .inl ⟨it.stop c' H' _ s2.ext f2.s hon,k σ' H' c' f2 (s1.trans s2)⟩
set_option tactic.hygienic true in
theorem RF.compG{K:eh}{n:Nat}{fr:List Nat}{f:M (Gd×List D)}{st:D->M Unit}{tst:M Bool}{elt:M D}{σ:L2.St}{H:Hp}{Q:VK}(q:RF K (GV n fr f st tst elt) σ H Q):K5 (RIG K f) (RG K st) (RT K tst) (RE K elt) (ET n fr) σ H Q:=by
 clear 5 q Oo c t fi xs t' eq k;clear 5(Af eq)pg t1 e1 eq;refine⟨Oo,c,t,fi,pg,t1,e1,λJ H1 c1 f1 s1 it=>?_⟩;clear 5 pg g ds;dsimp only at eq it
 cases e3:L2.compG g st tst elt ds ⟨cenv n fr t1.env,t1.S⟩ with
 |none=>rw[e3] at eq;cases eq
 |some p=>
   clear 5 p ys t3;rw[e3] at eq;dsimp only at eq
   split at eq
   case isFalse=>cases eq
   next hl=>
   cases eq
   refine⟨λi m acc σ' H'=>m=ds.length-i/\i<=ds.length/\∃c' t2 zs rest,FInv K c1.O c' t2 σ' H'/\Stp c1.O c1 H1 c' H'/\Reps K c' H' acc zs/\L2.compG g st tst elt (ds.drop i) t2=some (rest,t3)/\xs=zs++rest,
    ⟨_,rfl,un3 _,c1,_,[],xs,IW f1,.refl,.nil,by rw[uk4];exact e3,rfl⟩,?_⟩
   rintro i m acc σ' H' ⟨rfl,hi,c',t2,zs,rest,f2,s2,ra,e2,ez⟩;have hacc:acc.length<=sizeLine:=by
    have:zs.length<=xs.length:=by rw[ez,ue8];exact uh6 _ _
    rw[ra.length];exact um0 this (um0 hl CO)
   refine⟨hacc,?_⟩
   by_cases hlt:i<ds.length
   .rw[ub2 hlt] at e2;unfold L2.compG at e2;clear 5(Af e2)u0 t0 e0 e2;clear 5(Gi e0)hon ht0;rw[ht0] at e2;clear e0 ht0;refine .inr ⟨it.go c' H' _ i s2.ext f2.s hon hlt,λx H'' hy=>?_⟩;clear 5(it.yld c' H' _ i x H'' _ s2.ext f2.s hon (ub4 hlt) hy)rfl rx;clear 5(Af e2)u t4 e4 e2;clear 5(Af e2)kb t5 e5 e2;refine⟨c1.O,c',t2,_,f2,rx,t4,e4,λσ3 H3 c3 f3 s3=>⟨c1.O,c3,t4,f3,kb,t5,e5,λH4 c4 f4 s4=>?_⟩⟩
    cases kb with
    |false=>
      rw[gG ue5] at e2⊢;exact⟨ds.length-(i+1),by lia,rfl,hlt,c4,t5,zs,rest,f4,(s2.trans s3).trans s4,ra.mono (s3.trans s4).ext,e2,ez⟩
    |true=>
      rw[gE rfl] at e2⊢;clear 5(Af e2)x6 t6 e6 e2;clear 5(Af e2)r7 t7 e7 e2
      cases e2
      refine⟨c1.O,c4,t5,f4,x6,t6,e6,λv H5 c5 f5 s5 rv=>?_⟩;exact⟨ds.length-(i+1),by lia,rfl,hlt,c5,t6,zs++[x6],r7,f5,((s2.trans s3).trans s4).trans s5,(ra.mono ((s3.trans s4).trans s5).ext).append (.cons rv .nil),e7,by rw[ez,ug1];rfl⟩
   .have hi':i=ds.length:=by lia
    subst hi';rw[uh5] at e2;unfold L2.compG at e2;clear 5(Af e2)u0 t0 e0 e2;clear 5(Gi e0)hon ht0;rw[ht0] at e2;clear e0 ht0
    cases e2
    refine .inl ⟨it.stop c' H' _ s2.ext f2.s hon,λp hp _=>?_⟩;clear 5 f2.leave si ext;clear 5(f1.after si ⟨s2.ext.trans ext,s2.oo⟩ (λ_=>gD))f6 s6;rw[ui8] at ez;subst ez;exact k p acc H' _ f6 (s1.trans s6) (ra.mono ext) hp
def F0:D->M (Gd×List D)
 |.obj k=>λt=>match t.S[k]? with
   |some (.lst ds)=>some ((some (k,ds),ds),t)
   |_=>none
 |d=>bnd (DK d) λds=>ret (none,ds)
def LF(f:M D):M (Gd×List D):=bnd f F0
theorem ItOkG.lst{K:eh}{g:Gd}{c:Cf}{H:Hp}{p:eR}{ds:List D}(r:∀c' H' S',Ext c H c' H'->SInv K c' S' H'->Gon g S'->∃vs,SqL K H' p vs/\Reps K c' H' vs ds):ItOkG K (Itl K p) g c H ds:=by
 refine⟨λc' H' S' i ex si on hi=>?_,λc' H' S' i x H'' d ex si on hd hy=>?_,λc' H' S' ex si on=>?_⟩
 .clear 5(r c' H' S' ex si on)vs h1 h2;obtain⟨v,e,_⟩:=h2.at (ub4 hi);exact⟨vs,v,h1,e⟩
 .clear 5(r c' H' S' ex si on)vs h1 h2;clear 5 hy rfl hx;exact⟨rfl,h2.get (hx vs h1) hd⟩
 .clear 5(r c' H' S' ex si on)vs h1 h2;exact⟨vs,h1,by rw[h2.length];exact un2 _⟩
section
variable{X:Cx}{e a b tg iter elt:Expr}{ifs:List Expr}{pos:Pos}{scope:Scope}{N':List Str}{n:Nat}{fr:List Nat}{st:D->M Unit}{tst:M Bool}{el:M D}
theorem UR{μ:Cf->Hp->D->(V->Hp->Prop)->Prop}{body:List Stmt}{f:M (Gd×List D)}{b:M Out}(hp:PassesOwn (model X.prog X.w) X.A X.env X.xe)(hc:X.calm=true)(hi:PI X tg iter (RIG X.K f))(hg:PG X tg (RG X.K st))(hb:PSs X body (RSg X.K μ b))
 (hs:autoParam (∀x,foldedSetIterable iter X.env x=pure x) q2T):PS X (.For tg iter body [] pos) (RSg X.K μ (IZ f st b)):=
 Bh (QG hp hc hi hg hb hs) λ_ _ _ q=>RS.forG q
theorem RY{f:M (Gd×List D)}(O:CmpOk X scope N' (ET n fr))(hc:X.calm=true)(hi:PI X tg iter (RIG X.K f))
 (hg:∀cl C s2 H2 fp,PG (BD X N' scope cl C s2 H2 fp) tg (RG X.K st)) (ht:∀cl C s2 H2 fp,PIf (BD X N' scope cl C s2 H2 fp) ifs (RT X.K tst)) (he:∀cl C s2 H2 fp,PE (BD X N' scope cl C s2 H2 fp) elt (RE X.K el))
 (hs:autoParam (∀x,foldedSetIterable iter X.env x=pure x) q2T):PE X (.ListComp elt [⟨tg,iter,ifs,0⟩] scope pos) (RF X.K (GV n fr f st tst el)):=
 AB (NE O hc hi hg ht he hs) λ_ _ _ q=>RF.compG q
set_option tactic.hygienic true in
theorem UK{f:M D}(h:PE X e (RE X.K f)):PI X tg e (RIG X.K (LF f)):=
 ID (QB h) λσ H R z=>by
  clear 5 z Oo c t fi ds t' eq k;clear 5(Af eq)d t1 e1 eq;refine⟨Oo,c,t,fi,d,t1,e1,λv H1 c1 f1 s1 rv=>?_⟩
  cases rv with
  |@obj a kk hk=>
    unfold F0 at eq;dsimp only at eq
    split at eq
    .next es hS=>
     cases eq
     clear 5(f1.s.obs kk a _ hk hS)ws g1 g3;refine .inl ⟨a,rfl,⟨ws,SqL.of g1⟩,k _ H1 c1 f1 s1 (ItOkG.lst λc' H' S' ex si on=>?_)⟩;clear 5(si.obs kk a _ (ex.io _ _ hk) (on kk es rfl))us q1 q2;exact⟨us,SqL.of q1,q2⟩
    .cases eq
  |@lst p vs ds' h1 h2 h3=>
    cases eq
    exact .inl ⟨p,rfl,⟨vs,SqL.of h1⟩,k _ H1 c1 f1 s1 (ItOk.toG (ItOk.lst λc' H' ex=>⟨vs,SqL.of (ex.keep _ _ h1 h2),h3.mono ex⟩))⟩
  |@scr p ns h1=>
    cases eq
    exact .inl ⟨p,rfl,⟨_,h1.sq⟩,k _ H1 c1 f1 s1 (ItOk.toG (ItOk.lst λc' H' ex=>⟨_,(h1.mono ex).sq,Reps.ints ns⟩))⟩
  |@tup p vs ds' h1 h2 h3=>
    cases eq
    exact .inr (.inl ⟨p,rfl,⟨vs,SqT.of h1⟩,k _ H1 c1 f1 s1 (ItOk.toG (ItOk.tup λc' H' ex=>⟨vs,SqT.of (ex.keep _ _ h1 h2),h3.mono ex⟩))⟩)
  |str x=>
    cases eq
    exact .inr (.inr ⟨x,rfl,k _ H1 c1 f1 s1 (ItOk.toG ItOk.str)⟩)
  |_=>cases eq
end
noncomputable def AI(S:List Ob):Nat->D->D
 |0,d=>d
 |n+1,.obj k=>match S[k]? with
   |some (.lst ds)=>.lst (ds.map (AI S n))
   |_=>.obj k
 |n+1,.tup ds=>.tup (ds.map (AI S n))
 |n+1,.lst ds=>.lst (ds.map (AI S n))
 |_+1,d=>d
def eqO(g:Bool->Bool)(x y:D):M D:=λt=>if (Bg (AI t.S 16 x)&&Bg (AI t.S 16 y))=true then(eqN EQD (AI t.S 16 x) (AI t.S 16 y)).map λb=>(.bl (g b),t) else none
set_option tactic.hygienic true
theorem Iq{K:eh}{c:Cf}{S:List Ob}{H:Hp}(s:SInv K c S H):∀(n:Nat){v:V}{d:D},Rep K c H v d->Bg (AI S n d)=true->Rep K c0 H v (AI S n d)
 |0,v,d,r,p=>DL r (by simpa only[AI] using p)
 |n+1,v,d,r,p=>by
   have row:∀{vs:List V}{ds:List D},Reps K c H vs ds->Fs (ds.map (AI S n))=true->Reps K c0 H vs (ds.map (AI S n)):=by
    intro vs ds q
    induction ds generalizing vs with
    |nil=>intro _;cases q;exact .nil
    |cons d ds ih=>
      intro p
      cases q with
      |cons a b=>
        rw[uk9,Fs,uh3] at p;exact .cons (Iq s n a p.1) (ih b p.2)
   cases r with
   |@obj a k hk=>
     unfold AI at p⊢
     split
     .next ds e=>
      rw[e] at p;clear 5(s.obs k a _ hk e)vs h1 h2;exact .lst h1 (GL _) (row h2 (by simpa[Bg] using p))
     .next h=>
      split at p
      .next ds e=>exact absurd e (h ds)
      .simp[Bg] at p
   |tup h m q=>rw[AI] at p⊢;exact .tup h (GL _) (row q (by simpa only[Bg] using p))
   |lst h m q=>rw[AI] at p⊢;exact .lst h (GL _) (row q (by simpa only[Bg] using p))
   |non=>exact .non
   |bl b=>exact .bl b
   |int b=>exact .int b
   |str b=>exact .str b
   |ty b=>exact .ty b
   |scr h=>exact DL (c:=c) (.scr h) p
   |dic h n=>exact DL (.dic h n) p
   |exc a b n f q=>exact DL (.exc a b n f q) p
theorem VW{g:Bool->Bool}:A5 K (OO K g) (eqO g):=λ{Oo c t σ H x y dx dy r t' Q} f rx ry eq k=>by
 unfold eqO at eq
 split at eq
 .next hp=>
  rw[uh3] at hp;clear 5(uc4.mp eq)b e1 e2
  cases e2
  exact⟨c0,_,_,b,Iq f.s 16 rx hp.1,Iq f.s 16 ry hp.2,e1,k _ H c f .refl (.bl (g b))⟩
 .cases eq
set_option tactic.hygienic false
theorem Ot{X:Cx}{ei:List (eR×Obj)}{σ:L2.St}{H:Hp}{s:eS}{A:Around}{E:eo->eS->Prop}{Q:eo->eS->Prop}{b:Bool}{x:V}{u:eo}{T:String}{tp:eR}{dd:Option eR}{its:List eo}{n:Nat}{sl:Array (Option eo)}(I:Inv X ei σ H s)(rx:RelV x u)(ty:TyOf X.K H x (.type T))(htp:s.heap.get? tp=some ⟨.type "tuple",dd,.seq its.toArray n,sl⟩)
 (e:PySem.W.kitAny X.K (.type T) its=some b) (h:∀tk,Q (.bool b) {s with toks:=tk}):wpAny (model X.prog X.w) A (call (.builtin "isinstance") [u,.ref tp]) Q E s:=by
 cases ty with
 |non=>cases (show u=Value.none from rx);exact uj7 PySem.W.kitx_none I.kIn True.intro htp e (λz=>nomatch z) h
 |bl y=>cases (show u=Value.bool y from rx);exact uj7 PySem.W.kitx_bool I.kIn True.intro htp e (λz=>nomatch z) h
 |int i=>clear 5((show ∃t,u=Value.int i t from rx))t q;cases q;exact uj7 PySem.W.kitx_int I.kIn True.intro htp e (λz=>nomatch z) h
 |str y=>clear 5((show ∃t,u=Value.str y t from rx))t q;cases q;exact uj7 PySem.W.kitx_str I.kIn True.intro htp e (λz=>nomatch z) h
 |flt y=>clear 5((show ∃t,u=Value.float y t from rx))t q;cases q;exact uj7 PySem.W.kitx_float I.kIn True.intro htp e (λz=>nomatch z) h
 |@lst a xs ea=>
   cases (show u=Value.ref a from rx)
   obtain⟨_,_,n,_,h1⟩:=(show ObjOk X.prog X.w H s.heap a (.lst xs) from I.hok a _ ea);exact uj7 uf6 I.kIn ⟨_,h1,rfl⟩ htp e (λz=>nomatch z) h
 |@frz a ob xs ea=>
   cases (show u=Value.ref a from rx)
   obtain⟨_,_,_,n,_,h1⟩:=(show ObjOk X.prog X.w H s.heap a (.frz ob (.lst xs)) from I.hok a _ ea);exact uj7 uf6 I.kIn ⟨_,h1,rfl⟩ htp e (λz=>nomatch z) h
 |@tup a xs ea=>
   cases (show u=Value.ref a from rx)
   obtain⟨_,_,_,p⟩:=(show ObjOk X.prog X.w H s.heap a (.tup xs) from I.hok a _ ea);obtain⟨o,h1,h2,_⟩:=p;exact uj7 PySem.W.kitx_tuple I.kIn ⟨o,h1,h2⟩ htp e (λz=>nomatch z) h
 |@dK a kvs ea=>
   cases (show u=Value.ref a from rx)
   obtain⟨_,_,vs,_,p⟩:=(show ObjOk X.prog X.w H s.heap a (.dK kvs) from I.hok a _ ea);obtain⟨o,es,ep,h1,h2,_⟩:=p;exact uj7 uf7 I.kIn ⟨o,h1,h2.1⟩ htp e (λz=>nomatch z) h
 |@dT a kvs ea=>
   cases (show u=Value.ref a from rx)
   obtain⟨_,_,xs,_,o,es,ep,h1,h2,_⟩:=(show ObjOk X.prog X.w H s.heap a (.dT kvs) from I.hok a _ ea);exact uj7 uf7 I.kIn ⟨o,h1,h2.1⟩ htp e (λz=>nomatch z) h
def T7(K:eh):List V->Hp->VK->Prop:=λxs H Q=>∃x p n1 n2 T b,xs=[x,.ref p]/\H p=some (.tup [.ty n1,.ty n2])/\TyOf K H x (.type T)/\PySem.W.kitAny K (.type T) [.type n1,.type n2]=some b/\Q (.bl b) H
theorem Po{X:Cx}:B4 X (.builtin "isinstance") (T7 X.K):=by
 intro ei s σ H xs us Q I r h;clear 5 h x p n1 n2 T b rfl hp ty e q;clear 5(HR r)u w' rfl rx rt
 cases (show w'=Value.ref p from rt)
 obtain⟨_,its,rv,hit⟩:=(show ObjOk X.prog X.w H s.heap p (.tup [.ty n1,.ty n2]) from I.hok p _ hp);clear 5(HR rv)u1 u2 rfl r1 r2
 cases (show u1=Value.type n1 from r1)
 cases (show u2=Value.type n2 from r2)
 clear 5 hit o h1 h2 n h3;clear 5 o oc od oda osl;dsimp only at h2 h3;subst h2 h3;exact Ot I rx ty h1 e λtk=>⟨.bl b,H,I.tok tk,rfl,q⟩
def Gp:List D->M D
 |[d,.tup [.ty m1,.ty m2]]=>λt=>match d with
   |.obj k=>match t.S[k]? with
     |some (.lst _)=>match C1 "list" m1,C1 "list" m2 with
       |some b1,some b2=>some (.bl (b1||b2),t)
       |_,_=>none
     |_=>none
   |d=>match tyD d with
     |some n=>match C1 n m1,C1 n m2 with
       |some b1,some b2=>some (.bl (b1||b2),t)
       |_,_=>none
     |none=>none
 |_=>fail
theorem Np{d:D}{n m1 m2:String}{b1 b2:Bool}(h:tyD d=some n)(h1:C1 n m1=some b1)(h2:C1 n m2=some b2):PySem.W.kitAny K (.type n) [.type m1,.type m2]=some (b1||b2):=by
 rw[PySem.W.kitAny,HE h h1]
 cases b1 with
 |true=>rfl
 |false=>rw[PySem.W.kitAny,HE h h2];cases b2<;>rfl
set_option tactic.hygienic true in
theorem Th:Eu K (T7 K) Gp:=λ{Oo c t σ H xs ds r t' Q} f rx eq k=>by
 unfold Gp at eq
 split at eq
 .next d m1 m2=>
  clear 5(Jn rx)v u rfl rv ru
  obtain⟨p,ws,rfl,g1,g2,g3⟩:=ru.rv
  clear 5(Jn g3)w1 w2 rfl r1 r2
  cases r1
  cases r2
  split at eq
  .next kk=>
   obtain⟨a,rfl,hk⟩:=rv.rv
   split at eq
   .next xs hS=>
    clear 5(f.s.obs kk a _ hk hS)vs q1 q2
    split at eq
    .next b1 b2 e1 e2=>
     cases eq
     exact⟨_,p,m1,m2, "list",_,rfl,g1,.lst q1,Np (d:=.lst xs) rfl e1 e2,k _ H c f .refl (.bl _)⟩
    .cases eq
   .cases eq
  .next nk=>
   split at eq
   .next n et=>
    split at eq
    .next b1 b2 e1 e2=>
     cases eq
     refine⟨v,p,m1,m2,n,_,rfl,g1,?_,Np et e1 e2,k _ H c f .refl (.bl _)⟩
     cases rv<;>first|(cases et;first|exact .non|exact .bl _|exact .int _|exact .str _|exact .lst ‹_› | exact .tup ‹_› | exact .dK ‹_›)|cases et
    .cases eq
   .cases eq
 .cases eq
end
section
variable{X:Cx}{k:Nat}{f l I S:eR}{fd:eV}{ps:List Str}{sp:Sp}{ei:List (eR×Obj)}{σ:St}{H:Hp}{s:eS}{Q:VK}{oS oI oS' oI':Obj}{h':Heap}{t':Nat}
end
section
variable{K:eh}{g:Fn}
end
section
variable{X:Cx}{e:Expr}{pos:Pos}
end
section
variable{X:Cx}{e elt tg iter:Expr}{pos:Pos}{scope:Scope}{N':List Str}{ifs:List Expr}{n:Nat}{fr:List Nat}{f:M (List D)}{st:D->M Unit}{tst:M Bool}{el:M D}
theorem RF.ofObj{K:eh}{f:M (List D)}{σ:L2.St}{H:Hp}{Q:VK}(q:RE K (Dz f) σ H Q):RF K f σ H Q:=by
 clear 5 q Oo c t fi r t' eq k;clear 5(Af eq)ds t1 e1 eq
 cases eq
 refine⟨Oo,c,t,fi,ds,_,e1,λp xs H1 c1 f1 s1 rxs hp=>?_⟩;obtain⟨c2,f2,s2,e2⟩:=f1.newObj (o:=.lst ds) (u:=.lst xs) hp λc' H' ex hu=>⟨xs,hu,rxs.mono ex⟩;exact k _ _ c2 f2 (s1.trans s2) (.obj e2)
end
section
variable{X:Cx}{e:Expr}
end
section
variable{X:Cx}{e el eu ek:Expr}{p2 pos:Pos}{te:TE}{tl tu tk:TO}
end
section
variable{X:Cx}{elt tg iter:Expr}{pos:Pos}{scope:Scope}{N':List Str}{ifs:List Expr}{n:Nat}{fr:List Nat}{st:D->M Unit}{tst:M Bool}{el:M D}
end
abbrev EnO(h:Heap)(e it:eR)(i:Int)(x:eo)(a:eR)(q:Bool):Prop:=h.get? e=some {cls:=.type "enumerate",dict:=none,data:=.fields #[rawInt a,.bool q,.ref it,rawInt i,.none,x],slots:=#[]}
section
variable{prog:eT}{w:eU}{A:Around}{E:eo->eS->Prop}{s:eS}
end
inductive EnS(h:Heap)(e it:eR)(i:Nat):Prop where
 |new (old:eo) (z:i=0) (h1:IsEnum h e it i old)
 |out (old:eo) (a0:eR) (q:Bool) (h1:EnO h e it i old a0 q)
section
variable{A:Around}{s:eS}
end
theorem US{X:Cx}{elt tg iter:Expr}{pos:Pos}{scope:Scope}{N':List Str}{ifs:List Expr}{n:Nat}{fr:List Nat}{st:D->M Unit}{tst:M Bool}{el:M D}{f:M (List D)}{μ:Cf->Hp->D->(V->Hp->Prop)->Prop}{i:Nat}{y:Str}{py spos:Pos}(O:CmpOk X scope N' (ET n fr))(hc:X.calm=true)(hN:X.N.Nodup)(hiN:X.N[i]?=some y)(hx:X.env.scope.names.lookup y=some .local)(hi:PI X tg iter (RI X.K f))
 (hg:∀cl C s2 H2 fp,PG (BD X N' scope cl C s2 H2 fp) tg (RG X.K st)) (ht:∀cl C s2 H2 fp,PIf (BD X N' scope cl C s2 H2 fp) ifs (RT X.K tst)) (he:∀cl C s2 H2 fp,PE (BD X N' scope cl C s2 H2 fp) elt (RE X.K el))
 (hsw:autoParam (swapsWith (.ListComp elt [⟨tg,iter,ifs,0⟩] scope pos) (some (.Name y py)) spos.line X.env=pure true) q3T)
 (hs:autoParam (∀x,foldedSetIterable iter X.env x=pure x) q2T):PS X (.Assign [.Name y py] (.ListComp elt [⟨tg,iter,ifs,0⟩] scope pos) spos) (RSg X.K μ (Al i (Dz (AN n fr f st tst el)))):=
 Bh (NG O hc hN hiN hx hi hg ht he hsw hs) λE σ H q=>RF.comp (RF.ofObj (RS.set q))
abbrev vw(d:L2.D):Option L2.Sl:=some (.val d)
abbrev dr(i:Int):L2.M L2.D:=L2.fC (.int i)
end L2
namespace LW
inductive XN6{A0 A1 A2 A3 A4 A5:Type}(P:A0->A1->A2->A3->A4->A5->Prop):Prop where|mk(a0:A0)(a1:A1)(a2:A2)(a3:A3)(a4:A4)(a5:A5)(h:P a0 a1 a2 a3 a4 a5):XN6 P
inductive XN3{A0 A1 A2:Type}(P:A0->A1->A2->Prop):Prop where|mk(a0:A0)(a1:A1)(a2:A2)(h:P a0 a1 a2):XN3 P
inductive XN4{A0 A1 A2 A3:Type}(P:A0->A1->A2->A3->Prop):Prop where|mk(a0:A0)(a1:A1)(a2:A2)(a3:A3)(h:P a0 a1 a2 a3):XN4 P
inductive XN5{A0 A1 A2 A3 A4:Type}(P:A0->A1->A2->A3->A4->Prop):Prop where|mk(a0:A0)(a1:A1)(a2:A2)(a3:A3)(a4:A4)(h:P a0 a1 a2 a3 a4):XN5 P
inductive XN7{A0 A1 A2 A3 A4 A5 A6:Type}(P:A0->A1->A2->A3->A4->A5->A6->Prop):Prop where|mk(a0:A0)(a1:A1)(a2:A2)(a3:A3)(a4:A4)(a5:A5)(a6:A6)(h:P a0 a1 a2 a3 a4 a5 a6):XN7 P
inductive XN8{A0 A1 A2 A3 A4 A5 A6 A7:Type}(P:A0->A1->A2->A3->A4->A5->A6->A7->Prop):Prop where|mk(a0:A0)(a1:A1)(a2:A2)(a3:A3)(a4:A4)(a5:A5)(a6:A6)(a7:A7)(h:P a0 a1 a2 a3 a4 a5 a6 a7):XN8 P
inductive XN13{A0 A1 A2 A3 A4 A5 A6 A7 A8 A9 A10 A11 A12:Type}(P:A0->A1->A2->A3->A4->A5->A6->A7->A8->A9->A10->A11->A12->Prop):Prop where|mk(a0:A0)(a1:A1)(a2:A2)(a3:A3)(a4:A4)(a5:A5)(a6:A6)(a7:A7)(a8:A8)(a9:A9)(a10:A10)(a11:A11)(a12:A12)(h:P a0 a1 a2 a3 a4 a5 a6 a7 a8 a9 a10 a11 a12):XN13 P
inductive AN3(p0 p1 p2:Prop):Prop where|mk:p0->p1->p2->AN3 p0 p1 p2
inductive AN4(p0 p1 p2 p3:Prop):Prop where|mk:p0->p1->p2->p3->AN4 p0 p1 p2 p3
inductive AN5(p0 p1 p2 p3 p4:Prop):Prop where|mk:p0->p1->p2->p3->p4->AN5 p0 p1 p2 p3 p4
inductive AN6(p0 p1 p2 p3 p4 p5:Prop):Prop where|mk:p0->p1->p2->p3->p4->p5->AN6 p0 p1 p2 p3 p4 p5
inductive AN8(p0 p1 p2 p3 p4 p5 p6 p7:Prop):Prop where|mk:p0->p1->p2->p3->p4->p5->p6->p7->AN8 p0 p1 p2 p3 p4 p5 p6 p7
inductive AN10(p0 p1 p2 p3 p4 p5 p6 p7 p8 p9:Prop):Prop where|mk:p0->p1->p2->p3->p4->p5->p6->p7->p8->p9->AN10 p0 p1 p2 p3 p4 p5 p6 p7 p8 p9
open PySem L2
def G9:M Out:=
 (Ao (Hv (DI (dr 32) (Ab 0) (dr 126) leA leA) (Ac (Ab 0) (dr 37) (eqS λb=>!b))))
def Ii:M Out:=
 (Ao (Ac (Ac (Ab 0) (dr 0) ixD) (fC (.str "end")) (eqS id)))
def EX:M Out:=
 (Ao (Ac (Ac (fUn (Ab 0) IG) (dr 7) Ar) (dr 8) E2))
def Hb:M Out:=
 (Ao (Ac (Ab 0) (Ac (dr 8) (Ab 1) Dg) MA))
def Fk:M Out:=
 (Ae (Al 1 (dr 0))
 (Ae (FD (Aj (Ac (Ab 0) (dr 0) gtA))
   (Ae (Al 0 (Ac (Ab 0) (dr 256) E2))
 (Al 1 (Ac (Ab 1) (dr 1) Ar))))
 (Ao (Ab 1))))
def Ek(JG Lq Lp Lr JH:Fn):M Out:=
 (Ae (Al 3 (Ac (Ab 0) (dr 0) ixD))
 (Ae (ifS (Aj (Ac (Ab 3) (fC (.str "nothing")) (eqS id)))
   (Ao (nxD (AC (Aa (fC .non) (Aa (Ab 2) Ad)))))
   Aq)
 (Ae (ifS (Aj (Ac (Ab 3) (fC (.str "number")) (eqS id)))
   (Ao (Ah JH (Aa (Ab 0) (Aa (Ab 1) (Aa (Ab 2) Ad)))))
   Aq)
 (Ae (ifS (Aj (Ac (Ab 3) (fC (.str "text")) (eqS id)))
   (Ao (Ah Lr (Aa (Ab 0) (Aa (Ab 1) (Aa (Ab 2) Ad)))))
   Aq)
 (Ae (ifS (Aj (Ac (Ab 3) (fC (.str "list")) (eqS id)))
   (Ao (Ah Lp (Aa (Ab 0) (Aa (Ab 1) (Aa (Ab 2) Ad)))))
   Aq)
 (Ae (ifS (Aj (Ac (Ab 3) (fC (.str "pair")) (eqS id)))
   (Ao (Ah Lq (Aa (Ab 0) (Aa (Ab 1) (Aa (Ab 2) Ad)))))
   Aq)
 (Ao (Ah JG (Aa (Ab 0) (Aa (Ab 1) (Aa (Ab 2) Ad)))))))))))
def Fj:M Out:=
 (Ae (ifS (Aj (Ac (Ab 1) (fB (Aa (Ab 0) Ad) AH) geA))
   (Hk "Short" (Aa (fC (.str "the bytes end within a value")) Ad))
   Aq)
 (Ao (nxD (Ac (Ab 0) (Ab 1) ixD))))
def Ee(Ec:Fn):M Out:=
 (Ae (Dj 3 (Ah Ec (Aa (Ab 1) (Aa (Ab 2) Ad))))
 (Ae (ifS (Aj (Ac (Ab 3) (Ab 0) gtA))
   (Cu "Broken" (Aa (Ab 2) (Aa (fC .non) Ad)))
   Aq)
 (Ao (nxD (Ab 3)))))
def CH(Oc Ec JI:Fn):M Out:=
 (Ae (Al 3 (Ac (Ac (Ab 0) (dr 2) ixD) (Ac (Ab 0) (dr 1) ixD) BE))
 (Ae (Al 4 (Ah JI (Aa (Ab 3) Ad)))
 (Ae (Al 5 (dr 0))
 (Ae (BF (Bs (Aa (Ab 4) Ad)) (As 6)
   (Ae (Dj 5 (Hw (Ac (Ab 5) (dr 256) Dg) (Ah Ec (Aa (Ab 1) (Aa (Ac (Ab 2) (Ab 6) Ar) Ad))) Ar))
 (ifS (Aj (Ac (Ab 5) (Ah Oc (Aa (Ab 3) (Aa (Ac (Ac (Ab 4) (dr 1) BE) (Ab 6) BE) Ad))) gtA))
   (Cu "Broken" (Aa (Ac (Ab 2) (Ab 6) Ar) (Aa (fC .non) Ad)))
   Aq)))
 (Ao (nxD (AC (Aa (Ac (Ac (Ab 0) (dr 1) ixD) (Ab 5) Ar) (Aa (Ac (Ab 2) (Ab 4) Ar) Ad)))))))))
def Dv(Od CQ:Fn):M Out:=
 (Ae (Dj 3 (Ah CQ (Aa (Ac (Ab 0) (dr 1) ixD) (Aa (Ab 1) (Aa (Ab 2) Ad)))))
 (Ae (Al 4 (Ac (Ab 2) (dr 1) Ar))
 (Ae (Al 5 (fC (.str "")))
 (Ae (BF (Bs (Aa (Ab 3) Ad)) (As 6)
   (Dj 5 (Hw (Ab 5) (Ah Od (Aa (Ab 1) (Aa (Ac (Ab 4) (Ab 6) Ar) Ad))) Ar)))
 (Ao (nxD (AC (Aa (Ab 5) (Aa (Ac (Ab 4) (Ab 3) Ar) Ad)))))))))
def Fl(Oa Ec:Fn):M Out:=
 (Ae (Dj 2 (Ah Ec (Aa (Ab 0) (Aa (Ab 1) Ad))))
 (Ae (ifS (Gk (Aj (Ah Oa (Aa (Ab 2) Ad))))
   (Cu "Broken" (Aa (Ab 1) (Aa (fC .non) Ad)))
   Aq)
 (Ao (nxD (Ac (fC (.str " !\"#$ &'()*+,-./0123456789:;<=>?@ABCDEFGHIJKLMNOPQRSTUVWXYZ[\\]^_`abcdefghijklmnopqrstuvwxyz{|}~")) (Ac (Ab 2) (dr 32) BE) ixD)))))
def Du(Bz:Fn):M Out:=
 (Ae (Dj 3 (Ah Bz (Aa (Ac (Ab 0) (dr 1) ixD) (Aa (Ab 1) (Aa (Ab 2) Ad)))))
 (Ae (Dj 4 (Ah Bz (Aa (Ac (Ab 0) (dr 2) ixD) (Aa (Ab 1) (Aa (Ac (Ab 3) (dr 1) ixD) Ad)))))
 (Ao (nxD (AC (Aa (AC (Aa (Ac (Ab 3) (dr 0) ixD) (Aa (Ac (Ab 4) (dr 0) ixD) Ad))) (Aa (Ac (Ab 4) (dr 1) ixD) Ad)))))))
def CG(Bz CQ:Fn):M Out:=
 (Ae (Dj 3 (Ah CQ (Aa (Ac (fB (Aa (Ac (Ab 0) (dr 1) ixD) Ad) AH) (dr 1) BE) (Aa (Ab 1) (Aa (Ab 2) Ad)))))
 (Ae (Dj 4 (Ah Bz (Aa (Ac (Ac (Ab 0) (dr 1) ixD) (Ab 3) ixD) (Aa (Ab 1) (Aa (Ac (Ab 2) (dr 1) Ar) Ad)))))
 (Ao (nxD (AC (Aa (AC (Aa (fC (.str "of")) (Aa (Ab 3) (Aa (Ac (Ab 4) (dr 0) ixD) Ad)))) (Aa (Ac (Ab 4) (dr 1) ixD) Ad)))))))
def EC(Bz:Fn):M Out:=
 (Ae (ifS (Aj (Ac (Ab 2) (fB (Aa (Ab 1) Ad) AH) geA))
   (Ao (nxD (fC .non)))
   Aq)
 (Ae (ifS (Aj (Ac (Ac (Ab 1) (Ab 2) ixD) (fB (Aa (Ac (Ab 0) (dr 1) ixD) Ad) AH) geA))
   (Cu "Broken" (Aa (Ab 2) (Aa (Ac (Ab 0) (dr 0) ixD) Ad)))
   Aq)
 (Ae (Al 3 (Ac (Ac (Ab 0) (dr 1) ixD) (Ac (Ab 1) (Ab 2) ixD) ixD))
 (Ae (Eo (Dj 4 (Ah Bz (Aa (Ac (Ab 3) (dr 1) ixD) (Aa (Ab 1) (Aa (Ac (Ab 2) (dr 1) Ar) Ad))))) (hNo "Short" (Ao (nxD (fC .non))) (hAs "Broken" 5 (Cu "Broken" (Aa (bnd (Ab 5) (Gg "at")) (Aa (Ac (Ab 0) (dr 0) ixD) Ad))) Oq)))
 (Ao (nxD (AC (Aa (AC (Aa (Ac (Ab 0) (dr 0) ixD) (Aa (Ac (Ab 3) (dr 0) ixD) (Aa (Ac (Ab 4) (dr 0) ixD) Ad)))) (Aa (Ac (Ab 3) (dr 2) ixD) (Aa (Ac (Ab 4) (dr 1) ixD) Ad))))))))))
def Dt(Bz CQ:Fn):M Out:=
 (Ae (Dj 3 (Ah CQ (Aa (Ac (Ab 0) (dr 2) ixD) (Aa (Ab 1) (Aa (Ab 2) Ad)))))
 (Ae (Al 4 (Ac (Ab 2) (dr 1) Ar))
 (Ae (Al 5 (Dz (AD Ad)))
 (Ae (BF (Bs (Aa (Ab 3) Ad)) (As 6)
   (Ae (Dj 7 (Ah Bz (Aa (Ac (Ab 0) (dr 1) ixD) (Aa (Ab 1) (Aa (Ab 4) Ad)))))
 (Ae (EK (objM BN (Ab 5) (Aa (Ac (Ab 7) (dr 0) ixD) Ad)))
 (Al 4 (Ac (Ab 7) (dr 1) ixD)))))
 (Ao (nxD (AC (Aa (Ab 5) (Aa (Ab 4) Ad)))))))))
def ED(B5 D0 Gh:Fn):M Out:=
 (Ae (Al 3 (KW "Listener" Gh (Aa (Ab 0) (Aa (Ab 1) (Aa (Ab 2) Ad)))))
 (Ae (FD (fOr (Aj (Dq "Listener" D0 (Ab 3) (Aa (fC (.str "left")) Ad))) (Aj (Dq "Listener" D0 (Ab 3) (Aa (fC (.str "right")) Ad))))
   Aq)
 (Ae (IS (Dq "Listener" B5 (Ab 3) (Aa (fC (.str "left")) Ad)))
 (Ae (IS (Dq "Listener" B5 (Ab 3) (Aa (fC (.str "right")) Ad)))
 (Ao (nxD (AC (Aa (CZ "heard" (Ab 3)) (Aa (AC (Aa (Ac (CZ "places" (Ab 3)) (fC (.str "left")) AG) (Aa (Ac (CZ "places" (Ab 3)) (fC (.str "right")) AG) Ad))) Ad)))))))))
def CF:M Out:=
 (Ae (Al 2 (dr 0))
 (Ae (ifS (Aj (Ac (Ab 1) (fB (Aa (Ab 0) Ad) AH) ltA))
   (Al 2 (Ac (Ab 0) (Ab 1) ixD))
   Aq)
 (Ao (Dp [("rest",(Ab 2)),("digits",(JO (Ac (Ab 1) (fB (Aa (Ab 0) Ad) AH) geA) (Ac (Ab 2) (Ac (dr 10) (dr 18) Hj) geA))),("count",(Ab 1))]))))
def C5:M Out:=
 (Ae (ifS (Aj (Ac (Ab 0) (fC (.str "digits")) AG))
   (Ae (Al 2 (Ac (Ac (Ab 0) (fC (.str "rest")) AG) (Ab 1) EE))
 (Ae (BP (Ac (Ac (Ab 0) (fC (.str "rest")) AG) (Ab 1) Hz) (Cm (Ab 0) (fC (.str "rest"))))
 (Ao (Ab 2))))
   Aq)
 (Ae (BP (Ac (Ac (Ab 0) (fC (.str "count")) AG) (dr 1) Ar) (Cm (Ab 0) (fC (.str "count"))))
 (Ae (Al 3 (Ac (Ac (Ac (Ac (Ab 0) (fC (.str "rest")) AG) (dr 999999999989) EE) (Ac (dr 480007) (Ac (Ab 0) (fC (.str "count")) AG) Ik) Ar) (dr 999999999989) EE))
 (Ae (Al 3 (Ac (Ac (Ab 3) (Ab 3) Ik) (dr 1000000000039) EE))
 (Ae (Al 3 (Ac (Ac (Ac (Ab 3) (dr 290027) Ar) (Ab 3) Ik) (dr 999999999961) EE))
 (Ao (Ac (Ac (Ab 3) (dr 7) Hz) (Ab 1) EE)))))))
def Bb(Ag A0:Fn):M Out:=
 (Ae (Al 2 (Ah Ag (Aa (Ab 0) (Aa (Ac (dr 3) (Ac (dr 3) (fB (Aa (Ac (Ab 1) (dr 0) gtA) Ad) GX) Dg) Ar) Ad))))
 (Ae (ifS (Aj (Ac (Ab 2) (dr 0) (eqS id)))
   (Ao (AC (Aa (fC (.str "nothing")) Ad)))
   Aq)
 (Ae (ifS (Aj (Ac (Ab 2) (dr 1) (eqS id)))
   (Ae (Al 3 (Ac (Av (AD (Aa (dr 0) (Aa (Ac (Ah Ag (Aa (Ab 0) (Aa (dr 9) Ad))) (dr 4) BE) (Aa (Ac (Ah Ag (Aa (Ab 0) (Aa (Ac (dr 10) (dr 16) Hj) Ad))) (Ac (dr 10) (dr 15) Hj) BE) Ad))))) (Ah Ag (Aa (Ab 0) (Aa (dr 3) Ad))) ixD))
 (Ao (AC (Aa (fC (.str "number")) (Aa (Ab 3) (Aa (Ac (Ab 3) (Ac (Av (AD (Aa (dr 0) (Aa (dr 1) (Aa (dr 200) (Aa (dr 255) (Aa (dr 256) (Aa (dr 70000) (Aa (Ah Ag (Aa (Ab 0) (Aa (Ac (dr 10) (dr 16) Hj) Ad))) Ad))))))))) (Ah Ag (Aa (Ab 0) (Aa (dr 7) Ad))) ixD) Ar) Ad))))))
   Aq)
 (Ae (ifS (Aj (Ac (Ab 2) (dr 2) (eqS id)))
   (Ao (AC (Aa (fC (.str "text")) (Aa (Ac (Av (AD (Aa (dr 0) (Aa (dr 1) (Aa (dr 5) (Aa (dr 250) Ad)))))) (Ah Ag (Aa (Ab 0) (Aa (dr 4) Ad))) ixD) Ad))))
   Aq)
 (Ae (ifS (Aj (Ac (Ab 2) (dr 3) (eqS id)))
   (Ae (Al 4 (Ah A0 (Aa (Ab 0) (Aa (Ac (Ab 1) (dr 1) BE) Ad))))
 (Ae (ifS (Aj (Ac (Ac (Ab 4) (dr 0) ixD) (fC (.str "list")) (eqS id)))
   (Al 4 (AC (Aa (fC (.str "list")) (Aa (Ac (Ab 4) (dr 1) ixD) (Aa (fB (Aa (Ac (Ab 4) (dr 2) ixD) (Aa (dr 6) Ad)) Fp) Ad)))))
   Aq)
 (Ao (AC (Aa (fC (.str "list")) (Aa (Ab 4) (Aa (Ac (Av (AD (Aa (dr 0) (Aa (dr 2) (Aa (dr 6) (Aa (dr 250) Ad)))))) (Ah Ag (Aa (Ab 0) (Aa (dr 4) Ad))) ixD) Ad)))))))
   Aq)
 (Ae (ifS (Aj (Ac (Ab 2) (dr 4) (eqS id)))
   (Ao (AC (Aa (fC (.str "pair")) (Aa (Ah A0 (Aa (Ab 0) (Aa (Ac (Ab 1) (dr 1) BE) Ad))) (Aa (Ah A0 (Aa (Ab 0) (Aa (Ac (Ab 1) (dr 1) BE) Ad))) Ad)))))
   Aq)
 (Ao (AC (Aa (fC (.str "choice")) (Aa (fB (Aa (Av (AN 1 [0,1] (Bs (Aa (Ac (dr 1) (Ah Ag (Aa (Ab 0) (Aa (dr 3) Ad))) Ar) Ad)) (As 0) Bk (Ah A0 (Aa (Ab 1) (Aa (Ac (Ab 2) (dr 1) BE) Ad))))) Ad) Iy) Ad))))))))))
def DW(By Ag:Fn):M Out:=
 (Ae (Al 2 (Ac (Ab 1) (dr 0) ixD))
 (Ae (ifS (Aj (Ac (Ab 2) (fC (.str "nothing")) (eqS id)))
   (Ao (fC .non))
   Aq)
 (Ae (ifS (Aj (Ac (Ab 2) (fC (.str "number")) (eqS id)))
   (Ao (Ac (Av (AD (Aa (Ac (Ab 1) (dr 1) ixD) (Aa (Ac (Ab 1) (dr 2) ixD) (Aa (Ac (Ac (Ab 1) (dr 1) ixD) (Ah Ag (Aa (Ab 0) (Aa (Ac (Ac (Ac (Ab 1) (dr 2) ixD) (Ac (Ab 1) (dr 1) ixD) BE) (dr 1) Ar) Ad))) Ar) Ad))))) (Ah Ag (Aa (Ab 0) (Aa (dr 3) Ad))) ixD))
   Aq)
 (Ae (ifS (Aj (Ac (Ab 2) (fC (.str "text")) (eqS id)))
   (Ae (Al 3 (Ac (Av (AD (Aa (Ah Ag (Aa (Ab 0) (Aa (dr 7) Ad))) (Aa (dr 249) Ad)))) (fB (Aa (Ac (Ah Ag (Aa (Ab 0) (Aa (dr 24) Ad))) (dr 1) (eqS id)) Ad) GX) ixD))
 (Ae (Al 4 (fC (.str " !\"#$&'()*+,-./0123456789:;<=>?@ABCDEFGHIJKLMNOPQRSTUVWXYZ[\\]^_`abcdefghijklmnopqrstuvwxyz{|}~")))
 (Ao (joinM (fC (.str "")) (Aa (Av (AN 1 [4,0] (Bs (Aa (fB (Aa (Ac (Ab 1) (dr 1) ixD) (Aa (Ab 3) Ad)) Fp) Ad)) (As 0) Bk (Ac (Ab 1) (Ah Ag (Aa (Ab 2) (Aa (dr 94) Ad))) ixD))) Ad)))))
   Aq)
 (Ae (ifS (Aj (Ac (Ab 2) (fC (.str "list")) (eqS id)))
   (Ao (Av (AN 1 [0,1] (Bs (Aa (fB (Aa (Ac (Ab 1) (dr 2) ixD) (Aa (Ah Ag (Aa (Ab 0) (Aa (dr 4) Ad))) Ad)) Fp) Ad)) (As 0) Bk (Ah By (Aa (Ab 1) (Aa (Ac (Ab 2) (dr 1) ixD) Ad))))))
   Aq)
 (Ae (ifS (Aj (Ac (Ab 2) (fC (.str "pair")) (eqS id)))
   (Ao (AC (Aa (Ah By (Aa (Ab 0) (Aa (Ac (Ab 1) (dr 1) ixD) Ad))) (Aa (Ah By (Aa (Ab 0) (Aa (Ac (Ab 1) (dr 2) ixD) Ad))) Ad))))
   Aq)
 (Ae (Al 5 (Ah Ag (Aa (Ab 0) (Aa (fB (Aa (Ac (Ab 1) (dr 1) ixD) Ad) AH) Ad))))
 (Ao (AC (Aa (fC (.str "of")) (Aa (Ab 5) (Aa (Ah By (Aa (Ab 0) (Aa (Ac (Ac (Ab 1) (dr 1) ixD) (Ab 5) ixD) Ad))) Ad))))))))))))
def DR(AW Ff:Fn):M Out:=
 (Ae (Al 2 (Ac (Ab 0) (dr 0) ixD))
 (Ae (ifS (Aj (Ac (Ab 2) (fC (.str "nothing")) (eqS id)))
   (Ao (Av (AD Ad)))
   Aq)
 (Ae (ifS (Aj (Ac (Ab 2) (fC (.str "number")) (eqS id)))
   (Ae (Al 3 (Ac (Ab 1) (Ac (Ab 0) (dr 1) ixD) BE))
 (Ae (Al 4 (Av (AD Ad)))
 (Ae (BF (Bs (Aa (Ah Ff (Aa (Ac (Ac (Ab 0) (dr 2) ixD) (Ac (Ab 0) (dr 1) ixD) BE) Ad)) Ad)) (As 5)
   (Ae (Al 4 (Ac (Av (AD (Aa (Ac (Ab 3) (dr 256) EE) Ad))) (Ab 4) Ar))
 (Al 3 (Ac (Ab 3) (dr 256) E2))))
 (Ao (Ab 4)))))
   Aq)
 (Ae (ifS (Aj (Ac (Ab 2) (fC (.str "text")) (eqS id)))
   (Ao (Ac (Av (AD (Aa (fB (Aa (Ab 1) Ad) AH) Ad))) (Av (AN 1 [] (BZ (Ab 1)) (As 0) Bk (fB (Aa (Ab 0) Ad) JX))) Ar))
   Aq)
 (Ae (ifS (Aj (Ac (Ab 2) (fC (.str "list")) (eqS id)))
   (Ae (Al 4 (Av (AD (Aa (fB (Aa (Ab 1) Ad) AH) Ad))))
 (Ae (BF (BZ (Ab 1)) (As 6)
   (Al 4 (Ac (Ab 4) (Ah AW (Aa (Ac (Ab 0) (dr 1) ixD) (Aa (Ab 6) Ad))) Ar)))
 (Ao (Ab 4))))
   Aq)
 (Ae (ifS (Aj (Ac (Ab 2) (fC (.str "pair")) (eqS id)))
   (Ao (Ac (Ah AW (Aa (Ac (Ab 0) (dr 1) ixD) (Aa (Ac (Ab 1) (dr 0) ixD) Ad))) (Ah AW (Aa (Ac (Ab 0) (dr 2) ixD) (Aa (Ac (Ab 1) (dr 1) ixD) Ad))) Ar))
   Aq)
 (Ao (Ac (Av (AD (Aa (Ac (Ab 1) (dr 1) ixD) Ad))) (Ah AW (Aa (Ac (Ac (Ab 0) (dr 1) ixD) (Ac (Ab 1) (dr 1) ixD) ixD) (Aa (Ac (Ab 1) (dr 2) ixD) Ad))) Ar))))))))
def wdB(Ag A0:Fn):M Out:=
 (Ae (Al 11 (Ac (Av (AD (Aa (fB (Aa (Ac (Ab 2) (dr 1) BE) (Aa (Ac (Ab 5) (dr 1) Ar) Ad)) Fp) (Aa (Ah Ag (Aa (Ab 6) (Aa (Ab 2) Ad))) Ad)))) (Ah Ag (Aa (Ab 6) (Aa (dr 2) Ad))) ixD))
 (ownM 9 BN (Aa (AC (Aa (Ac (Ab 3) (Ac (Ac (Ab 8) (Ac (dr 3) (Ab 10) Dg) Ar) (dr 14) EE) ixD) (Aa (Ah A0 (Aa (Ab 6) (Aa (Ah Ag (Aa (Ab 6) (Aa (dr 3) Ad))) Ad))) (Aa (Ab 11) Ad)))) Ad)))
def Df(Ag A0 A7:Fn):M Out:=
 (Ae (Al 3 (Av (AD (Aa (fC (.str "a")) (Aa (fC (.str "ab")) (Aa (fC (.str "b")) (Aa (fC (.str "ba")) (Aa (fC (.str "abc")) (Aa (fC (.str "zz")) (Aa (fC (.str "hello")) (Aa (fC (.str "x")) (Aa (fC (.str "quit")) (Aa (fC (.str "go")) (Aa (fC (.str "abcdefgh")) (Aa (fC (.str "c")) (Aa (fC (.str "no")) (Aa (fC (.str "abcdefgi")) Ad)))))))))))))))))
 (Ae (DC 4 (AD Ad))
 (Ae (BF (Bs (Aa (Ab 2) Ad)) (As 5)
   (Ae (Al 6 (Ah A7 (Aa (Ab 0) (Aa (Ac (Ab 1) (Ab 5) Ar) Ad))))
 (ifS (Ic (Aj (Ac (Ah Ag (Aa (Ab 6) (Aa (dr 6) Ad))) (dr 1) (eqS id))) (fOr (Aj (Ac (Ab 5) (dr 0) gtA)) (Aj (Ac (Ah Ag (Aa (Ab 6) (Aa (dr 4) Ad))) (dr 1) (eqS id)))))
   (ownM 4 BN (Aa (AC (Aa (fC (.str "end")) Ad)) Ad))
   (Ae (Al 7 (Ac (Av (AD (Aa (fC (.str "left")) (Aa (fC (.str "right")) Ad)))) (Ah Ag (Aa (Ab 6) (Aa (dr 2) Ad))) ixD))
 (Ae (Al 8 (Ah Ag (Aa (Ab 6) (Aa (dr 14) Ad))))
 (Ae (DC 9 (AD Ad))
 (Ae (BF (Bs (Aa (Ac (Av (AD (Aa (dr 1) (Aa (dr 2) (Aa (dr 3) (Aa (dr 9) Ad)))))) (Ah Ag (Aa (Ab 6) (Aa (dr 4) Ad))) ixD) Ad)) (As 10)
   (wdB Ag A0))
 (ownM 4 BN (Aa (AC (Aa (Ab 7) (Aa (Ab 9) Ad))) Ad)))))))))
 (Ao (Ab 4)))))
def DS(Ag IJ A7:Fn):M Out:=
 (Ae (Al 1 (Ah A7 (Aa (Ab 0) (Aa (dr 0) Ad))))
 (Ae (Al 2 (Ac (dr 1) (Ah Ag (Aa (Ab 1) (Aa (dr 9) Ad))) Ar))
 (Ae (Al 3 (fB (Aa (dr 30) (Aa (Ac (dr 36) (Ab 2) E2) Ad)) Fp))
 (Ao (Av (AN 1 [0,3,1] (Bs (Aa (Ab 2) Ad)) (As 0) Bk (Ah IJ (Aa (Ab 1) (Aa (Ac (dr 2) (Ac (Ab 2) (Ab 0) Dg) Ar) (Aa (Ac (dr 1) (Ah Ag (Aa (Ab 3) (Aa (Ab 2) Ad))) Ar) Ad))))))))))
def OU(AW By Ag A7:Fn):M Out:=
 (Ae (Al 7 (Ah A7 (Aa (Ab 0) (Aa (Ab 6) Ad))))
 (Ae (Al 8 (Ah Ag (Aa (Ab 7) (Aa (fB (Aa (Ab 1) Ad) AH) Ad))))
 (ifS (Aj (Ac (fB (Aa (Ac (Ac (Ab 1) (Ab 8) ixD) (EM 3 (Ab 8)) ixD) Ad) AH) (dr 1) gtA))
   (Ae (BP (Ac (Ac (Ab 1) (Ab 8) ixD) (EM 3 (Ab 8)) ixD) (unS 2 (AX (As 9) (AX (As 10) El))))
 (Ae (BP (Ac (Ab 10) (Ah Ag (Aa (Ab 7) (Aa (fB (Aa (Ab 10) Ad) AH) Ad))) ixD) (unS 3 (AX (As 11) (AX (As 12) (AX (As 13) El)))))
 (Ae (Al 14 (Ah By (Aa (Ab 7) (Aa (Ab 12) Ad))))
 (ifS (Aj (Ac (Ac (dr 2) (fB (Aa (Ah AW (Aa (Ab 12) (Aa (Ab 14) Ad))) Ad) AH) Ar) (Ab 5) leA))
   (Ae (Al 5 (Ac (Ac (Ab 5) (dr 2) BE) (fB (Aa (Ah AW (Aa (Ab 12) (Aa (Ab 14) Ad))) Ad) AH) BE))
 (Ae (ownM 4 BN (Aa (AC (Aa (Ab 8) (Aa (Ab 9) (Aa (Ab 11) (Aa (Ab 14) Ad))))) Ad))
 (BP (Ab 13) (GB 3 (Ab 8)))))
   Aq))))
   Aq)))
def Eh(AW By Ag A7:Fn):M Out:=
 (Ae (DC 3 (bnd (Av (AD (Aa (dr 0) Ad))) λx=>bnd (fB (Aa (Ab 1) Ad) AH) λy=>Ip x y))
 (Ae (DC 4 (AD Ad))
 (Ae (Al 5 (dr 1500))
 (Ae (BF (Gm (Aa (Ab 2) (Aa (fB (Aa (dr 63) (Aa (fB (Aa (Ab 0) Ad) AH) Ad)) Fp) Ad))) (As 6)
   (OU AW By Ag A7))
 (Ao (Ab 4))))))
def KS(AW:Fn):M Out:=
 (Ae (Al 8 (Ac (Ac (Ac (Ab 0) (Ab 4) ixD) (EM 3 (Ab 4)) ixD) (dr 1) ixD))
 (Ae (Al 9 (idxM (Av (AN 1 [] (BZ (Ab 8)) (As 0) Bk (Ac (Ab 0) (dr 0) ixD))) (Aa (Ab 6) Ad)))
 (Ae (BP (Ac (Ac (Ac (Ab 2) (Ab 5) AG) (Av (AD (Aa (Ab 4) (Aa (Ab 9) Ad)))) Ar) (Ah AW (Aa (Ac (Ac (Ab 8) (Ab 9) ixD) (dr 1) ixD) (Aa (Ab 7) Ad))) Ar) (Cm (Ab 2) (Ab 5)))
 (BP (Ac (Ac (Ab 8) (Ab 9) ixD) (dr 2) ixD) (GB 3 (Ab 4))))))
def Ef(AW:Fn):M Out:=
 (Ae (Al 2 (Dp [("left",(Av (AD Ad))),("right",(Av (AD Ad)))]))
 (Ae (DC 3 (bnd (Av (AD (Aa (dr 0) Ad))) λx=>bnd (fB (Aa (Ab 0) Ad) AH) λy=>Ip x y))
 (Ae (BF (BZ (Ab 1)) (unS 4 (AX (As 4) (AX (As 5) (AX (As 6) (AX (As 7) El)))))
   (KS AW))
 (Ao (Ab 2)))))
def DA:M Out:=
 (Ae (EO "grammars" (Ab 1) (Ab 0))
 (Ae (EO "wires" (Dp [("left",(Ab 2)),("right",(Ab 3))]) (Ab 0))
 (Ae (EO "places" (Dp [("left",(dr 0)),("right",(dr 0))]) (Ab 0))
 (Ae (EO "standings" (Dz (AN 1 [] (BZ (Ab 1)) (As 0) Bk (dr 0))) (Ab 0))
 (EO "heard" (Dz (AN 1 [] (BZ (Ab 1)) (As 0) Bk (Dz (AD Ad)))) (Ab 0))))))
def CD(C4:Fn):M Out:=
 (Ae (Al 2 (Ac (CZ "places" (Ab 0)) (Ab 1) AG))
 (Ae (Al 3 (Dq "Listener" C4 (Ab 0) (Aa (Ab 1) Ad)))
 (Ae (FD (Aj (Ac (Ab 3) (fC .non) FZ))
   (Ae (Al 4 (Ac (Ac (CZ "wires" (Ab 0)) (Ab 1) AG) (Ac (CZ "places" (Ab 0)) (Ab 1) AG) ixD))
 (Ae (EK (objM BN (Ac (CZ "heard" (Ab 0)) (Ab 4) ixD) (Aa (Ac (Ab 3) (dr 0) ixD) Ad)))
 (Ae (BP (Ac (Ab 3) (dr 1) ixD) (stD (CZ "standings" (Ab 0)) (Ab 4)))
 (Ae (BP (Ac (Ab 3) (dr 2) ixD) (Cm (CZ "places" (Ab 0)) (Ab 1)))
 (Al 3 (Dq "Listener" C4 (Ab 0) (Aa (Ab 1) Ad))))))))
 (Ao (Ac (Ac (CZ "places" (Ab 0)) (Ab 1) AG) (Ab 2) gtA)))))
abbrev B1(B5:Fn):M Out:=
 (Eo (Ao (Dq "Listener" B5 (Ab 0) (Aa (Ab 1) Ad))) (hNo "Broken" (Ao (fC .non)) Oq))
def De(IK Pm:Fn):M Out:=
 (Ae (Al 2 (Ac (CZ "wires" (Ab 0)) (Ab 1) AG))
 (Ae (Al 3 (Ac (CZ "places" (Ab 0)) (Ab 1) AG))
 (Ae (ifS (Aj (Ac (Ab 3) (fB (Aa (Ab 2) Ad) AH) geA))
   (Ao (nxD (fC .non)))
   Aq)
 (Ae (ifS (Aj (Ac (Ac (Ab 2) (Ab 3) ixD) (fB (Aa (CZ "grammars" (Ab 0)) Ad) AH) geA))
   (Cu "Broken" (Aa (Ab 3) (Aa (Ab 1) Ad)))
   Aq)
 (Ae (Al 4 (Ac (Ac (CZ "grammars" (Ab 0)) (Ac (Ab 2) (Ab 3) ixD) ixD) (Ac (CZ "standings" (Ab 0)) (Ac (Ab 2) (Ab 3) ixD) ixD) ixD))
 (Ae (ifS (Aj (Ah Pm (Aa (Ab 4) Ad)))
   (Cu "Broken" (Aa (Ab 3) (Aa (Ab 1) Ad)))
   Aq)
 (Ae (ifS (Aj (Ac (Ac (Ab 4) (dr 0) ixD) (Ab 1) (eqS λb=>!b)))
   (Ao (nxD (fC .non)))
   Aq)
 (Ao (Ah IK (Aa (Ab 4) (Aa (Ab 2) (Aa (Ac (Ab 3) (dr 1) Ar) Ad))))))))))))
def Ei:M Out:=
 (Ae (ifS (Aj (Ac (Ab 0) (dr 37) ltA))
   (Ao (Ac (fC (.str " !\"#$")) (Ac (Ab 0) (dr 32) BE) ixD))
   Aq)
 (Ae (Al 1 (fC (.str "&'()*+,-./0123456789:;<=>?@ABCDEFGHIJKLMNOPQRSTUVWXYZ[\\]^_`abcdefghijklmnopqrstuvwxyz{|}~")))
 (Ao (Ac (Ab 1) (Ac (Ab 0) (dr 38) BE) ixD))))
def C3(Ff:Fn):M Out:=
 (Ae (Al 3 (Ah Ff (Aa (Ac (Ac (Ab 0) (dr 2) ixD) (Ac (Ab 0) (dr 1) ixD) BE) Ad)))
 (Ae (Al 4 (dr 0))
 (Ae (BF (Bs (Aa (Ab 3) Ad)) (As 5)
   (Ae (ifS (Aj (Ac (Ac (Ab 2) (Ab 5) Ar) (fB (Aa (Ab 1) Ad) AH) (eqS id)))
   (Ao (AC (Aa (fC (.str "short")) Ad)))
   Aq)
 (Ae (Al 4 (Ac (Ac (dr 256) (Ab 4) Dg) (Ac (Ab 1) (Ac (Ab 2) (Ab 5) Ar) ixD) Ar))
 (Ae (Al 6 (Ab 4))
 (Ae (BF (Bs (Aa (Ac (Ac (Ab 3) (dr 1) BE) (Ab 5) BE) Ad)) (As 7)
   (Al 6 (Ac (dr 256) (Ab 6) Dg)))
 (ifS (Aj (Ac (Ab 6) (Ac (Ac (Ab 0) (dr 2) ixD) (Ac (Ab 0) (dr 1) ixD) BE) gtA))
   (Ao (AC (Aa (fC (.str "broken")) (Aa (Ac (Ab 2) (Ab 5) Ar) Ad))))
   Aq))))))
 (Ao (AC (Aa (fC (.str "whole")) (Aa (Ac (Ac (Ab 0) (dr 1) ixD) (Ab 4) Ar) (Aa (Ac (Ab 2) (Ab 3) Ar) Ad))))))))
def lmB(BY:Fn):M Out:=
 (Ae (Al 5 (Ah BY (Aa (Ab 4) (Aa (Ab 1) (Aa (Ab 2) Ad)))))
 (Ae (ifS (Aj (Ac (Ac (Ab 5) (dr 0) ixD) (fC (.str "whole")) (eqS λb=>!b)))
   (Ao (Ab 5))
   Aq)
 (Ae (ownM 3 BN (Aa (Ac (Ab 5) (dr 1) ixD) Ad))
 (Al 2 (Ac (Ab 5) (dr 2) ixD)))))
def BR(BY:Fn):M Out:=
 (Ae (DC 3 (AD Ad))
 (Ae (BF (BZ (Ab 0)) (As 4)
   (lmB BY))
 (Ao (AC (Aa (fC (.str "whole")) (Aa (Ab 3) (Aa (Ab 2) Ad)))))))
def txB:M Out:=
 (Ae (ifS (Aj (Ac (Ac (Ac (Ab 2) (dr 1) Ar) (Ab 6) Ar) (fB (Aa (Ab 1) Ad) AH) (eqS id)))
   (Ao (AC (Aa (fC (.str "short")) Ad)))
   Aq)
 (ifS (fOr (Gk (Aj (DI (dr 32) (Ac (Ab 1) (Ac (Ac (Ab 2) (dr 1) Ar) (Ab 6) Ar) ixD) (dr 126) leA leA))) (Aj (Ac (Ac (Ab 1) (Ac (Ac (Ab 2) (dr 1) Ar) (Ab 6) Ar) ixD) (dr 37) (eqS id))))
   (Ao (AC (Aa (fC (.str "broken")) (Aa (Ac (Ac (Ab 2) (dr 1) Ar) (Ab 6) Ar) Ad))))
   Aq))
def Eg(Lo EZ BY GG:Fn):M Out:=
 (Ae (Al 3 (Ac (Ab 0) (dr 0) ixD))
 (Ae (ifS (Aj (Ac (Ab 3) (fC (.str "nothing")) (eqS id)))
   (Ao (AC (Aa (fC (.str "whole")) (Aa (fC .non) (Aa (Ab 2) Ad)))))
   Aq)
 (Ae (ifS (Aj (Ac (Ab 3) (fC (.str "number")) (eqS id)))
   (Ao (Ah GG (Aa (Ab 0) (Aa (Ab 1) (Aa (Ab 2) Ad)))))
   Aq)
 (Ae (ifS (Aj (Ac (Ab 3) (fC (.str "pair")) (eqS id)))
   (Ae (Al 4 (Ah EZ (Aa (Av (AD (Aa (Ac (Ab 0) (dr 1) ixD) (Aa (Ac (Ab 0) (dr 2) ixD) Ad)))) (Aa (Ab 1) (Aa (Ab 2) Ad)))))
 (Ao (fIf (Aj (Ac (Ac (Ab 4) (dr 0) ixD) (fC (.str "whole")) (eqS id))) (AC (Aa (fC (.str "whole")) (Aa (fB (Aa (Ac (Ab 4) (dr 1) ixD) Ad) Iy) (Aa (Ac (Ab 4) (dr 2) ixD) Ad)))) (Ab 4))))
   Aq)
 (Ae (ifS (Aj (Ac (Ab 2) (fB (Aa (Ab 1) Ad) AH) (eqS id)))
   (Ao (AC (Aa (fC (.str "short")) Ad)))
   Aq)
 (Ae (Al 5 (Ac (Ab 1) (Ab 2) ixD))
 (Ae (ifS (Aj (Ac (Ab 3) (fC (.str "choice")) (eqS id)))
   (Ae (ifS (Aj (Ac (Ab 5) (fB (Aa (Ac (Ab 0) (dr 1) ixD) Ad) AH) geA))
   (Ao (AC (Aa (fC (.str "broken")) (Aa (Ab 2) Ad))))
   Aq)
 (Ae (Al 4 (Ah BY (Aa (Ac (Ac (Ab 0) (dr 1) ixD) (Ab 5) ixD) (Aa (Ab 1) (Aa (Ac (Ab 2) (dr 1) Ar) Ad)))))
 (Ao (fIf (Aj (Ac (Ac (Ab 4) (dr 0) ixD) (fC (.str "whole")) (eqS id))) (AC (Aa (fC (.str "whole")) (Aa (AC (Aa (fC (.str "of")) (Aa (Ab 5) (Aa (Ac (Ab 4) (dr 1) ixD) Ad)))) (Aa (Ac (Ab 4) (dr 2) ixD) Ad)))) (Ab 4)))))
   Aq)
 (Ae (ifS (Aj (Ac (Ab 5) (Ac (Ab 0) (fUn (dr 1) L5) ixD) gtA))
   (Ao (AC (Aa (fC (.str "broken")) (Aa (Ab 2) Ad))))
   Aq)
 (Ae (ifS (Aj (Ac (Ab 3) (fC (.str "list")) (eqS id)))
   (Ao (Ah EZ (Aa (Ac (Av (AD (Aa (Ac (Ab 0) (dr 1) ixD) Ad))) (Ab 5) Dg) (Aa (Ab 1) (Aa (Ac (Ab 2) (dr 1) Ar) Ad)))))
   Aq)
 (Ae (BF (Bs (Aa (Ab 5) Ad)) (As 6)
   (txB))
 (Ao (AC (Aa (fC (.str "whole")) (Aa (joinM (fC (.str "")) (Aa (Av (AN 1 [] (BZ (fSl (Ab 1) (Cy (Ac (Ab 2) (dr 1) Ar)) (Cy (Ac (Ac (Ab 2) (dr 1) Ar) (Ab 5) Ar)) En)) (As 0) Bk (Ah Lo (Aa (Ab 0) Ad)))) Ad)) (Aa (Ac (Ac (Ab 2) (dr 1) Ar) (Ab 5) Ar) Ad)))))))))))))))
def EW(BY:Fn):M Out:=
 (Ae (ifS (Aj (Ac (Ab 4) (fB (Aa (Ab 3) Ad) AH) (eqS id)))
   (Ao (AC (Aa (fC (.str "waits")) Ad)))
   Aq)
 (Ae (Al 5 (Ac (Ab 3) (Ab 4) ixD))
 (Ae (ifS (fOr (Aj (Ac (Ab 5) (fB (Aa (Ab 0) Ad) AH) geA)) (Aj (Ac (fB (Aa (Ac (Ac (Ab 0) (Ab 5) ixD) (Ac (Ab 1) (Ab 5) ixD) ixD) Ad) AH) (dr 1) (eqS id))))
   (Ao (AC (Aa (fC (.str "broken")) (Aa (Ab 4) Ad))))
   Aq)
 (Ae (ifS (fOr (Aj (Ac (Ac (Ac (Ac (Ab 0) (Ab 5) ixD) (Ac (Ab 1) (Ab 5) ixD) ixD) (dr 0) ixD) (Ab 2) (eqS λb=>!b))) (Aj (Ac (Ac (Ab 4) (dr 1) Ar) (fB (Aa (Ab 3) Ad) AH) (eqS id))))
   (Ao (AC (Aa (fC (.str "waits")) Ad)))
   Aq)
 (Ae (Al 6 (Ac (Ac (Ac (Ab 0) (Ab 5) ixD) (Ac (Ab 1) (Ab 5) ixD) ixD) (dr 1) ixD))
 (Ae (ifS (Aj (Ac (Ac (Ab 3) (Ac (Ab 4) (dr 1) Ar) ixD) (fB (Aa (Ab 6) Ad) AH) geA))
   (Ao (AC (Aa (fC (.str "broken")) (Aa (Ac (Ab 4) (dr 1) Ar) Ad))))
   Aq)
 (Ae (BP (Ac (Ab 6) (Ac (Ab 3) (Ac (Ab 4) (dr 1) Ar) ixD) ixD) (unS 3 (AX (As 7) (AX (As 8) (AX (As 9) El)))))
 (Ae (Al 10 (Ah BY (Aa (Ab 8) (Aa (Ab 3) (Aa (Ac (Ab 4) (dr 2) Ar) Ad)))))
 (Ae (ifS (Aj (Ac (Ac (Ab 10) (dr 0) ixD) (fC (.str "short")) (eqS id)))
   (Ao (AC (Aa (fC (.str "waits")) Ad)))
   Aq)
 (Ae (ifS (Aj (Ac (Ac (Ab 10) (dr 0) ixD) (fC (.str "broken")) (eqS id)))
   (Ao (Ab 10))
   Aq)
 (Ao (AC (Aa (fC (.str "read")) (Aa (Ab 5) (Aa (AC (Aa (Ab 2) (Aa (Ab 7) (Aa (Ac (Ab 10) (dr 1) ixD) Ad)))) (Aa (Ab 9) (Aa (Ac (Ab 10) (dr 2) ixD) Ad)))))))))))))))))
def duB(EQ:Fn):M Out:=
 (Ae (BP (Ah EQ (Aa (Ab 0) (Aa (Ab 2) (Aa (Ab 7) (Aa (Ac (Ab 1) (Ab 7) AG) (Aa (Ac (Ab 4) (Ab 7) AG) Ad)))))) (Cm (Ab 5) (Ab 7)))
 (ifS (Aj (Ac (Ac (Ac (Ab 5) (Ab 7) AG) (dr 0) ixD) (fC (.str "read")) (eqS id)))
   (Ae (EK (objM BN (Ac (Ab 3) (Ac (Ac (Ab 5) (Ab 7) AG) (dr 1) ixD) ixD) (Aa (Ac (Ac (Ab 5) (Ab 7) AG) (dr 2) ixD) Ad)))
 (Ae (BP (Ac (Ac (Ab 5) (Ab 7) AG) (dr 3) ixD) (stD (Ab 2) (Ac (Ac (Ab 5) (Ab 7) AG) (dr 1) ixD)))
 (Ae (BP (Ac (Ac (Ab 5) (Ab 7) AG) (dr 4) ixD) (Cm (Ab 4) (Ab 7)))
 (Al 6 (fC (.bl true))))))
   Aq))
def EB(EQ:Fn):M Out:=
 (Ae (Al 2 (Dz (bnd (Av (AD (Aa (dr 0) Ad))) λx=>bnd (fB (Aa (Ab 0) Ad) AH) λy=>Ip x y)))
 (Ae (Al 3 (Dz (AN 1 [] (BZ (Ab 0)) (As 0) Bk (Dz (AD Ad)))))
 (Ae (Al 4 (Dp [("left",(dr 0)),("right",(dr 0))]))
 (Ae (Al 5 (Fh []))
 (Ae (Al 6 (fC (.bl true)))
 (Ae (FD (Aj (Ab 6))
   (Ae (Al 6 (fC (.bl false)))
 (BF (BZ (Av (AD (Aa (fC (.str "right")) (Aa (fC (.str "left")) Ad))))) (As 7)
   (duB EQ))))
 (Ae (BF (BZ (Av (AD (Aa (fC (.str "left")) (Aa (fC (.str "right")) Ad))))) (As 7)
   (ifS (Aj (Ac (Ac (Ac (Ab 5) (Ab 7) AG) (dr 0) ixD) (fC (.str "broken")) (eqS id)))
   (Ao (AC (Aa (fC (.str "broken")) (Aa (Ac (Ac (Ab 5) (Ab 7) AG) (dr 1) ixD) (Aa (Ab 7) Ad)))))
   Aq))
 (Ao (AC (Aa (Ab 3) (Aa (AC (Aa (Ac (Ab 4) (fC (.str "left")) AG) (Aa (Ac (Ab 4) (fC (.str "right")) AG) Ad))) Ad)))))))))))
def Ej(IL:Fn):M Out:=
 (Ae (Al 2 (fC .non))
 (Ae (Al 3 (fC .non))
 (Ae (Eo (Dj 3 (Ah IL (Aa (Ab 0) (Aa (Ac (Ab 1) (fC (.str "left")) AG) (Aa (Ac (Ab 1) (fC (.str "right")) AG) Ad))))) (hAs "ParleyError" 4 (Al 2 (Ab 4)) Oq))
 (Ae (ifS (Aj (Ac (Ab 2) (fC .non) isC))
   (Ao (Ab 3))
   Aq)
 (Ae (Al 5 (Av (AD (Aa (bnd (Ab 2) (HC ["NoName", "NoRow", "NoTalk", "NoText", "NoValue", "Short"])) (Aa (Hx (bnd (Ab 2) (FS "ValueError"))) Ad)))))
 (Ae (ifS (fOr (Aj (Ac (fC (.bl true)) (Ab 5) (inD false))) (Gk (Aj (bnd (Ab 2) (FS "Broken")))))
   (Ao (fC (.str "other")))
   Aq)
 (Ao (AC (Aa (fC (.str "broken")) (Aa (bnd (Ab 2) (Gg "at")) (Aa (bnd (Ab 2) (Gg "side")) Ad)))))))))))
def spB(Ag:Fn):M Out:=
 (Ae (Al 4 (Ac (Av (AD (Aa (fC (.str "left")) (Aa (fC (.str "right")) Ad)))) (Ah Ag (Aa (Ab 1) (Aa (dr 2) Ad))) ixD))
 (Ae (Al 5 (Ac (Ab 2) (Ab 4) AG))
 (Ae (Al 6 (Ah Ag (Aa (Ab 1) (Aa (Ac (fB (Aa (Ab 5) Ad) AH) (dr 1) Ar) Ad))))
 (Ae (Al 7 (Ac (Av (AD (Aa (Ah Ag (Aa (Ab 1) (Aa (dr 256) Ad))) (Aa (Ah Ag (Aa (Ab 1) (Aa (dr 4) Ad))) (Aa (dr 255) (Aa (dr 37) Ad)))))) (Ah Ag (Aa (Ab 1) (Aa (dr 4) Ad))) ixD))
 (Ae (Al 8 (Ah Ag (Aa (Ab 1) (Aa (dr 6) Ad))))
 (Ae (BP (Ac (Ac (fSl (Ab 5) fNo (Cy (Ab 6)) En) (Av (AD (Aa (Ab 7) Ad))) Ar) (fSl (Ab 5) (Cy (Ac (Ab 6) (dr 1) Ar)) fNo En) Ar) (Cm (Ab 2) (Ab 4)))
 (Ae (ifS (Aj (Ac (Ab 8) (dr 1) (eqS id)))
   (BP (Ac (Ac (fSl (Ab 5) fNo (Cy (Ab 6)) En) (Av (AD (Aa (Ab 7) Ad))) Ar) (fSl (Ab 5) (Cy (Ab 6)) fNo En) Ar) (Cm (Ab 2) (Ab 4)))
   Aq)
 (Ae (ifS (Aj (Ac (Ab 8) (dr 2) (eqS id)))
   (BP (Ac (fSl (Ab 5) fNo (Cy (Ab 6)) En) (fSl (Ab 5) (Cy (Ac (Ab 6) (dr 1) Ar)) fNo En) Ar) (Cm (Ab 2) (Ab 4)))
   Aq)
 (Ae (ifS (Aj (Ac (Ab 8) (dr 3) (eqS id)))
   (BP (fSl (Ab 5) fNo (Cy (Ab 6)) En) (Cm (Ab 2) (Ab 4)))
   Aq)
 (Ae (ifS (Aj (Ac (Ab 8) (dr 4) (eqS id)))
   (BP (Ac (Ab 5) (Av (AN 1 [1] (Bs (Aa (Ah Ag (Aa (Ab 1) (Aa (dr 7) Ad))) Ad)) (As 0) Bk (Ah Ag (Aa (Ab 1) (Aa (Ac (Av (AD (Aa (dr 256) (Aa (dr 3) Ad)))) (Ah Ag (Aa (Ab 1) (Aa (dr 2) Ad))) ixD) Ad))))) Ar) (Cm (Ab 2) (Ab 4)))
   Aq)
 (ifS (Aj (Ac (Ab 8) (dr 5) (eqS id)))
   (BP (Av (AN 1 [1] (Bs (Aa (Ah Ag (Aa (Ab 1) (Aa (dr 20) Ad))) Ad)) (As 0) Bk (Ah Ag (Aa (Ab 1) (Aa (Ac (Av (AD (Aa (dr 256) (Aa (dr 3) Ad)))) (Ah Ag (Aa (Ab 1) (Aa (dr 2) Ad))) ixD) Ad))))) (Cm (Ab 2) (Ab 4)))
   Aq)))))))))))
def DB(Ag:Fn):M Out:=
 (Ae (Al 2 (Dp [("left",(Av (fBF (Aa (Ac (Ab 0) (fC (.str "left")) AG) Ad) FT))),("right",(Av (fBF (Aa (Ac (Ab 0) (fC (.str "right")) AG) Ad) FT)))]))
 (Ae (BF (Bs (Aa (Ah Ag (Aa (Ab 1) (Aa (dr 3) Ad))) Ad)) (As 3)
   (spB Ag))
 (Ao (Ab 2))))
def DT(BQ:Fn):M Out:=
 (Ae (ifS (Aj (fB (Aa (Ab 0) (Aa (AC (Aa (fC (.ty "list")) (Aa (fC (.ty "tuple")) Ad))) Ad)) Gp))
   (Ao (Ac (Av (AD (Aa (fB (Aa (Ab 0) (Aa (fC (.ty "list")) Ad)) FR) Ad))) (Av (GV 1 [] (LF (Ab 0)) (As 0) Bk (Ah BQ (Aa (Ab 0) Ad)))) Ar))
   Aq)
 (Ao (Av (AD (Aa (fB (Aa (Ab 0) (Aa (fC (.ty "bool")) Ad)) FR) (Aa (fB (Aa (Ab 0) (Aa (fC (.ty "str")) Ad)) FR) Ad))))))
def DU(ER:Fn):M Out:=
 (Ae (DC 1 (AD Ad))
 (Ae (ifS (Aj (fB (Aa (Ab 0) (Aa (fC (.ty "list")) Ad)) FR))
   (ownM 1 BN (Aa (Ab 0) Ad))
   Aq)
 (Ae (ifS (Aj (fB (Aa (Ab 0) (Aa (AC (Aa (fC (.ty "list")) (Aa (fC (.ty "tuple")) Ad))) Ad)) Gp))
   (IZ (LF (Ab 0)) (As 2)
   (DC 1 (bnd (Ab 1) λx=>bnd (Ah ER (Aa (Ab 2) Ad)) λy=>JK x y)))
   Aq)
 (Ao (Ab 1)))))
def DV(GM ER BQ MO:Fn):M Out:=
 (Ae (Al 3 (Ah MO (Aa (Ab 0) (Aa (Ab 2) Ad))))
 (Ae (Al 4 (Dp [("left",(Av (fBF (Aa (Ac (Ab 2) (fC (.str "left")) AG) Ad) FT))),("right",(Av (fBF (Aa (Ac (Ab 2) (fC (.str "right")) AG) Ad) FT)))]))
 (Ae (Al 5 (Ah GM (Aa (Ab 1) (Aa (Ab 4) Ad))))
 (Ae (ifS (fOr (Aj (Ac (Ab 5) (Ab 3) (eqO λb=>!b))) (fOr (Aj (Ac (Ah BQ (Aa (Ab 5) Ad)) (Ah BQ (Aa (Ab 3) Ad)) (eqS λb=>!b))) (fOr (Aj (Ac (Ab 4) (Ab 2) (JN false))) (Aj (Ac (Ab 1) (Ab 0) (eqS λb=>!b))))))
   (Ao (fC (.bl false)))
   Aq)
 (Ae (Al 6 (Av (AN 1 [] (BZ (Av (AD (Aa (Ab 4) (Aa (Ab 2) Ad))))) (As 0) Bk (Ah BQ (Aa (Ac (Ac (Ab 0) (fC (.str "left")) AG) (Ac (Ab 0) (fC (.str "right")) AG) Ar) Ad)))))
 (Ae (ifS (fOr (Aj (Ac (Ah BQ (Aa (Ab 1) Ad)) (Ah BQ (Aa (Ab 0) Ad)) (eqS λb=>!b))) (Aj (Ac (Ac (Ab 6) (dr 0) ixD) (Ac (Ab 6) (dr 1) ixD) (eqS λb=>!b))))
   (Ao (fC (.bl false)))
   Aq)
 (Ae (ifS (Aj (Ac (Ac (Ab 3) (dr 0) ixD) (fC (.str "broken")) (eqO λb=>!b)))
   (Ae (Al 7 (Ah ER (Aa (Ab 5) Ad)))
 (Ae (Al 8 (Av (AN 1 [] (BZ (Ab 7)) (As 0) Bk (fB (Aa (Ab 0) Ad) AH))))
 (Ae (BF (BZ (Ab 7)) (As 9)
   (EK (objM BN (Ab 9) (Aa (fC .non) Ad))))
 (Ae (Al 10 (Av (AN 1 [] (BZ (Ab 8)) (As 0) Bk (Ac (Ab 0) (dr 1) Ar))))
 (Ae (ifS (fOr (Aj (Ac (Av (AN 1 [] (BZ (Ab 7)) (As 0) Bk (fB (Aa (Ab 0) Ad) AH))) (Ab 10) (eqS λb=>!b))) (Aj (Ac (Ah GM (Aa (Ab 1) (Aa (Ab 4) Ad))) (Ab 3) (eqO λb=>!b))))
   (Ao (fC (.bl false)))
   Aq)
 (ifS (Aj (Ac (Av (AN 1 [] (BZ (Ab 7)) (As 0) Bk (fB (Aa (Ab 0) Ad) AH))) (Ab 10) (eqS λb=>!b)))
   (Ao (fC (.bl false)))
   Aq))))))
   Aq)
 (Ao (Ac (Ab 1) (Ab 0) (eqS id))))))))))
def Ha(ES JF A7 Ln Lm Fe:Fn):M Out:=
 (Ae (Al 1 (Ah Fe (Aa (Ab 0) Ad)))
 (Ae (Al 2 (Ah Fe (Aa (Ab 0) Ad)))
 (Ae (Al 3 (Ah Lm (Aa (Ab 1) (Aa (Ah Ln (Aa (Ab 0) (Aa (Ab 1) (Aa (dr 38) Ad)))) Ad))))
 (Ae (ifS (Gk (Aj (Ah ES (Aa (Ab 1) (Aa (Ab 2) (Aa (Ab 3) Ad))))))
   (Ao (fC (.bl false)))
   Aq)
 (Ae (BF (Bs (Aa (dr 8) Ad)) (As 4)
   (Ae (Al 5 (Ah A7 (Aa (Ab 0) (Aa (Ac (Av (AD (Aa (dr 1) (Aa (Ac (dr 55) (Ab 4) Ar) Ad)))) (fB (Aa (Ac (fB (Aa (Ab 0) Ad) AH) (dr 55) gtA) Ad) GX) ixD) Ad))))
 (Ae (BP (Ac (Ac (Ab 5) (fC (.str "count")) AG) (Ac (dr 50) (Ab 4) Dg) Ar) (Cm (Ab 5) (fC (.str "count"))))
 (ifS (Gk (Aj (Ah ES (Aa (Ab 1) (Aa (Ab 2) (Aa (Ah JF (Aa (Ab 3) (Aa (Ab 5) Ad))) Ad))))))
   (Ao (fC (.bl false)))
   Aq))))
 (Ao (Ah ES (Aa (Ab 1) (Aa (Ab 2) (Aa (Dp [("left",(Av (AD Ad))),("right",(Av (AD Ad)))]) Ad))))))))))
end LW
namespace L2
open PySem
def W{α:Type}(m:M α)(t:T)(P:α->T->Prop):Prop:=∃a t',m t=some (a,t')/\P a t'
def Wf(g:Fn)(ds:List D)(S:List Ob)(P:D->List Ob->Prop):Prop:=∃r S',g ds S=some (r,S')/\P r S'
theorem W.mono{α:Type}{m:M α}{t:T}{P Q:α->T->Prop}(h:W m t P)(i:∀a t',P a t'->Q a t'):W m t Q:=by
 clear 5 h a t' e p;exact⟨a,t',e,i a t' p⟩
theorem Wf.mono{g:Fn}{ds:List D}{S:List Ob}{P Q:D->List Ob->Prop}(h:Wf g ds S P)(i:∀r S',P r S'->Q r S'):Wf g ds S Q:=by
 clear 5 h a t' e p;exact⟨a,t',e,i a t' p⟩
section
variable{α β:Type}
theorem Ay{m:M α}{t:T}{P:α->T->Prop}{a:α}{t':T}(e:m t=some (a,t')):W m t P↔P a t':=by
 constructor
 .rintro⟨a',t1,e',p⟩;rw[e] at e';cases e';exact p
 .exact λp=>⟨a,t',e,p⟩
theorem C8{m:M α}{t:T}{P:α->T->Prop}(e:m t=none):W m t P↔False:=by
 constructor
 .rintro⟨a',t1,e',p⟩;rw[e] at e';cases e'
 .exact False.elim
@[simp] theorem W_ret {a:α}{t:T}{P:α->T->Prop}:W (ret a) t P↔P a t:=Ay rfl
@[simp] theorem W_fail {t:T}{P:α->T->Prop}:W (fail:M α) t P↔False:=C8 rfl
@[simp] theorem W_bnd {f:M α}{g:α->M β}{t:T}{P:β->T->Prop}:W (bnd f g) t P↔W f t λa t1=>W (g a) t1 P:=by
 constructor
 .rintro⟨b,t',e,p⟩;clear 5(Af e)a t1 e1 e2;exact⟨a,t1,e1,b,t',e2,p⟩
 .rintro⟨a,t1,e1,b,t',e2,p⟩;exact⟨b,t',by unfold bnd;rw[e1];exact e2,p⟩
@[simp] theorem TM {c:Prop} [Decidable c] {f g:M α}{t:T}{P:α->T->Prop}:W (if c then f else g) t P↔if c then W f t P else W g t P:=by split<;>rfl
@[simp] theorem da {n:Nat}{a:α}{t:T}{P:α->T->Prop}:W (lim n a) t P↔n<=LIM/\P a t:=by
 unfold lim;constructor
 .rintro⟨a',t',e,p⟩
  split at e
  .cases e;exact⟨by assumption,p⟩
  .cases e
 .rintro⟨h,p⟩;exact⟨a,t,by simp only[h,gC],p⟩
end
section
variable{t:T}{env:List (Option Sl)}{S:List Ob}
@[simp] theorem W_fC {d:D}{P:D->T->Prop}:W (fC d) t P↔P d t:=Ay rfl
@[simp] theorem Pi {i:Nat}{P:D->T->Prop}:W (Ab i) t P↔match t.env[i]? with
 |some (some (.val d))=>P d t
 |some (some (.own ds))=>P (.lst ds) ⟨t.env.set i (vw (.lst ds)),t.S⟩
 |_=>False:=by
 cases e:t.env[i]? with
 |none=>exact C8 (by unfold Ab;simp[e])
 |some o=>
   cases o with
   |none=>exact C8 (by unfold Ab;simp[e])
   |some sl=>
     cases sl with
     |val d=>exact Ay (by unfold Ab;simp[e])
     |own ds=>exact Ay (by unfold Ab;simp[e])
@[simp] theorem W_fBin {f g:M D}{h:D->D->M D}{P:D->T->Prop}:W (Ac f g h) t P↔W f t λx t1=>W g t1 λy t2=>W (h x y) t2 P:=by simp[Ac]
@[simp] theorem W_fUn {f:M D}{h:D->M D}{P:D->T->Prop}:W (fUn f h) t P↔W f t λx t1=>W (h x) t1 P:=by simp[fUn]
@[simp] theorem W_toB {b:Bool}{P:Bool->T->Prop}:W (toB (.bl b)) t P↔P b t:=Ay rfl
@[simp] theorem W_fTst {f:M D}{P:Bool->T->Prop}:W (Aj f) t P↔W f t λx t1=>W (toB x) t1 P:=by simp[Aj]
@[simp] theorem W_fChain {f g w:M D}{h h':D->D->M D}{P:D->T->Prop}:W (DI f g w h h') t P↔W f t λx t1=>W g t1 λy t2=>W (h x y) t2 λk t3=>W (toB k) t3 λk t4=>if k=true then W w t4 λz t5=>W (h' y z) t5 P else P (.bl false) t4:=by
 simp[DI]
@[simp] theorem W_fAnd {f g:M Bool}{P:Bool->T->Prop}:W (Ic f g) t P↔W f t λk t1=>if k=true then W g t1 P else P false t1:=by simp[Ic]
@[simp] theorem W_fOr {f g:M Bool}{P:Bool->T->Prop}:W (fOr f g) t P↔W f t λk t1=>if k=true then P true t1 else W g t1 P:=by simp[fOr]
@[simp] theorem W_fNot {f:M Bool}{P:Bool->T->Prop}:W (Gk f) t P↔W f t λk t1=>P (!k) t1:=by simp[Gk]
@[simp] theorem W_fAndV {f g:M D}{P:D->T->Prop}:W (Hv f g) t P↔W f t λx t1=>W (toB x) t1 λk t2=>if k=true then W g t2 P else P (.bl false) t2:=by simp[Hv]
@[simp] theorem W_fOrV {f g:M D}{P:D->T->Prop}:W (JO f g) t P↔W f t λx t1=>W (toB x) t1 λk t2=>if k=true then P (.bl true) t2 else W g t2 P:=by simp[JO]
@[simp] theorem W_fNotV {f:M D}{P:D->T->Prop}:W (Hx f) t P↔W f t λx t1=>W (toB x) t1 λk t2=>P (.bl (!k)) t2:=by simp[Hx]
@[simp] theorem W_fIf {f:M Bool}{g h:M D}{P:D->T->Prop}:W (fIf f g h) t P↔W f t λk t1=>if k=true then W g t1 P else W h t1 P:=by simp[fIf]
@[simp] theorem W_fNil {P:List D->T->Prop}:W Ad t P↔P [] t:=Ay rfl
@[simp] theorem W_fCons {f:M D}{g:M (List D)}{P:List D->T->Prop}:W (Aa f g) t P↔W f t λd t1=>W g t1 λds t2=>P (d::ds) t2:=by simp[Aa]
@[simp] theorem W_fTup {f:M (List D)}{P:D->T->Prop}:W (AC f) t P↔W f t λds t1=>ds.length<=LIM/\P (.tup ds) t1:=by simp[AC]
@[simp] theorem W_fLst {f:M (List D)}{P:List D->T->Prop}:W (AD f) t P↔W f t λds t1=>ds.length<=LIM/\P ds t1:=by simp[AD]
@[simp] theorem W_fPure {f:M (List D)}{P:D->T->Prop}:W (Av f) t P↔W f t λds t1=>P (.lst ds) t1:=by simp[Av]
@[simp] theorem W_newOb {o:Ob}{P:D->T->Prop}:W (OE o) t P↔P (.obj t.S.length) ⟨t.env,t.S++[o]⟩:=Ay rfl
@[simp] theorem WN {f:M (List D)}{P:D->T->Prop}:W (Dz f) t P↔W f t λds t1=>W (OE (.lst ds)) t1 P:=by simp[Dz]
@[simp] theorem W_fCall {g:Fn}{f:M (List D)}{P:D->T->Prop}:W (Ah g f) t P↔W f t λds t1=>Wf g ds t1.S λr S'=>P r ⟨t1.env,S'⟩:=by
 unfold Ah;rw[W_bnd];constructor
 .rintro⟨ds,t1,e1,r,t',e2,p⟩;refine⟨ds,t1,e1,?_⟩;dsimp only at e2
  cases e:g ds t1.S with
  |none=>rw[e] at e2;cases e2
  |some z=>clear 5 z r' S';rw[e] at e2;cases e2;exact⟨r,_,e,p⟩
 .rintro⟨ds,t1,e1,r,S',e2,p⟩;exact⟨ds,t1,e1,r,_,by simp only[e2],p⟩
@[simp] theorem W_fB {f:M (List D)}{h:List D->M D}{P:D->T->Prop}:W (fB f h) t P↔W f t λds t1=>W (h ds) t1 P:=by simp[fB]
@[simp] theorem W_fBF {f:M (List D)}{h:List D->M (List D)}{P:List D->T->Prop}:W (fBF f h) t P↔W f t λds t1=>W (h ds) t1 P:=by simp[fBF]
@[simp] theorem W_seqS {f g:M Out}{P:Out->T->Prop}:W (Ae f g) t P↔W f t λo t1=>match o with
 |.next=>W g t1 P
 |.brk=>P .brk t1
 |.cont=>P .cont t1
 |.ret d=>P (.ret d) t1:=by
 unfold Ae;constructor
 .rintro⟨o,t',e,p⟩;dsimp only at e
  cases e1:f t with
  |none=>rw[e1] at e;cases e
  |some z=>
    clear 5 z o1 t1;rw[e1] at e;refine⟨o1,t1,e1,?_⟩
    cases o1 with
    |next=>exact⟨o,t',e,p⟩
    |brk=>cases e;exact p
    |cont=>cases e;exact p
    |ret d=>cases e;exact p
 .rintro⟨o,t1,e,p⟩
  cases o with
  |next=>clear 5 p o t' e' p;exact⟨o,t',by simp only[e];exact e',p⟩
  |brk=>exact⟨_,_,by simp only[e],p⟩
  |cont=>exact⟨_,_,by simp only[e],p⟩
  |ret d=>exact⟨_,_,by simp only[e],p⟩
set_option tactic.hygienic true in
@[simp] theorem W_skipS {P:Out->T->Prop}:W Aq t P↔P .next t:=Ay rfl
@[simp] theorem W_retS {f:M D}{P:Out->T->Prop}:W (Ao f) t P↔W f t λd t1=>P (.ret d) t1:=by simp[Ao]
set_option tactic.hygienic true in
@[simp] theorem W_dropS {f:M D}{P:Out->T->Prop}:W (EK f) t P↔W f t λd t1=>P .next t1:=by simp[EK]
@[simp] theorem W_ifS {f:M Bool}{g h:M Out}{P:Out->T->Prop}:W (ifS f g h) t P↔W f t λk t1=>if k=true then W g t1 P else W h t1 P:=by simp[ifS]
@[simp] theorem W_putV {i:Nat}{d:D}{P:Unit->T->Prop}:W (As i d) t P↔P () ⟨t.env.set i (vw d),t.S⟩:=Ay rfl
@[simp] theorem W_setS {i:Nat}{f:M D}{P:Out->T->Prop}:W (Al i f) t P↔W f t λd t1=>P .next ⟨t1.env.set i (vw d),t1.S⟩:=by
 simp only[Al,W_bnd,W_ret,W_putV]
@[simp] theorem W_ownS {i:Nat}{f:M (List D)}{P:Out->T->Prop}:W (DC i f) t P↔W f t λds t1=>P .next ⟨t1.env.set i (some (.own ds)),t1.S⟩:=by
 unfold DC;rw[W_bnd];have:∀(ds:List D) (t1:T),W (λt:T=>some (Out.next,({t with env:=t.env.set i (some (.own ds))}:T))) t1 P↔P .next ⟨t1.env.set i (some (.own ds)),t1.S⟩:=λds t1=>Ay rfl;simp only[this]
set_option tactic.hygienic true in
@[simp] theorem W_asgS {f:M D}{g:D->M Unit}{P:Out->T->Prop}:W (BP f g) t P↔W f t λd t1=>W (g d) t1 λ_ t2=>P .next t2:=by simp[BP]
@[simp] theorem W_putNil {P:Unit->T->Prop}:W (El []) t P↔P () t:=Ay rfl
@[simp] theorem W_putCons {f:D->M Unit}{g:List D->M Unit}{d:D}{ds:List D}{P:Unit->T->Prop}:W (AX f g (d::ds)) t P↔W (f d) t λ_ t1=>W (g ds) t1 P:=by simp[AX]
@[simp] theorem aN {n:Nat}{g:List D->M Unit}{ds:List D}{P:Unit->T->Prop}:W (unS n g (.lst ds)) t P↔ds.length=n/\W (g ds) t P:=by
 unfold unS;simp only[TM,W_fail];split<;>simp[*]
@[simp] theorem W_unS_tup {n:Nat}{g:List D->M Unit}{ds:List D}{P:Unit->T->Prop}:W (unS n g (.tup ds)) t P↔ds.length=n/\W (g ds) t P:=by
 unfold unS;simp only[TM,W_fail];split<;>simp[*]
@[simp] theorem W_forS {f:M (List D)}{st:D->M Unit}{b:M Out}{P:Out->T->Prop}:W (BF f st b) t P↔W f t λds t1=>W (BS st b ds) t1 P:=by simp[BF]
set_option tactic.hygienic true
@[simp] theorem W_forL_nil {st:D->M Unit}{b:M Out}{P:Out->T->Prop}:W (BS st b []) t P↔P .next t:=Ay rfl
theorem Bm{st:D->M Unit}{b:M Out}{d:D}{r:List D}{P:Out->T->Prop}:W (BS st b (d::r)) t P↔W (st d) t λ_ t1=>W b t1 λo t2=>match o with
 |.next=>W (BS st b r) t2 P
 |.cont=>W (BS st b r) t2 P
 |.brk=>P .next t2
 |.ret x=>P (.ret x) t2:=by
 constructor
 .rintro⟨o,t',e,p⟩;unfold BS at e
  cases e1:st d t with
  |none=>rw[e1] at e;cases e
  |some z=>
    clear 5 z u t1;rw[e1] at e
    try dsimp only at e
    refine⟨u,t1,e1,?_⟩
    cases e2:b t1 with
    |none=>rw[e2] at e;cases e
    |some z=>
      clear 5 z o2 t2;rw[e2] at e
      try dsimp only at e
      refine⟨o2,t2,e2,?_⟩
      cases o2 with
      |next=>exact⟨o,t',e,p⟩
      |cont=>exact⟨o,t',e,p⟩
      |brk=>cases e;exact p
      |ret x=>cases e;exact p
 .rintro⟨u,t1,e1,o,t2,e2,p⟩
  cases o with
  |next=>clear 5 p o t' e' p;exact⟨o,t',by unfold BS;simp only[e1,e2];exact e',p⟩
  |cont=>clear 5 p o t' e' p;exact⟨o,t',by unfold BS;simp only[e1,e2];exact e',p⟩
  |brk=>exact⟨_,_,by unfold BS;simp only[e1,e2],p⟩
  |ret x=>exact⟨_,_,by unfold BS;simp only[e1,e2],p⟩
theorem Dn{st:D->M Unit}{b:M Out}{P:Out->T->Prop}(I:List D->T->Prop):∀(ds:List D) (t:T),I ds t->
 (∀d r t,I (d :: r) t->d∈ds->W (st d) t λ_ t1=>W b t1 λo t2=>match o with
   |.next=>I r t2
   |.cont=>I r t2
   |.brk=>P .next t2
   |.ret x=>P (.ret x) t2)->(∀t,I [] t->P .next t)->W (BS st b ds) t P
 |[],t,h,_,fin=>W_forL_nil.mpr (fin t h)
 |d::r,t,h,turn,fin=>by
   rw[Bm];refine(turn d r t h ue4).mono λ_ t1 h1=>h1.mono λo t2 h2=>?_
   cases o with
   |next=>exact Dn I r t2 h2 (λd' r' t' h' m=>turn d' r' t' h' (ud3 _ m)) fin
   |cont=>exact Dn I r t2 h2 (λd' r' t' h' m=>turn d' r' t' h' (ud3 _ m)) fin
   |brk=>exact h2
   |ret x=>exact h2
set_option tactic.hygienic false
@[simp] theorem W_fComp {n:Nat}{fr:List Nat}{f:M (List D)}{st:D->M Unit}{tst:M Bool}{elt:M D}{P:List D->T->Prop}:W (AN n fr f st tst elt) t P↔W f t λds t1=>W (Bl st tst elt ds) ⟨cenv n fr t1.env,t1.S⟩ λxs t'=>xs.length<=LIM/\P xs ⟨t1.env,t'.S⟩:=by
 unfold AN;rw[W_bnd];constructor
 .rintro⟨ds,t1,e1,xs,t',e2,p⟩;refine⟨ds,t1,e1,?_⟩;dsimp only at e2
  cases e:Bl st tst elt ds ⟨cenv n fr t1.env,t1.S⟩ with
  |none=>rw[e] at e2;cases e2
  |some z=>
    clear 5 z ys t3;rw[e] at e2;dsimp only at e2
    split at e2
    .cases e2;exact⟨_,_,e,by assumption,p⟩
    .cases e2
 .rintro⟨ds,t1,e1,xs,t',e2,h,p⟩;exact⟨ds,t1,e1,xs,_,by simp only[e2,h,gC],p⟩
@[simp] theorem W_compL_nil {st:D->M Unit}{tst:M Bool}{elt:M D}{P:List D->T->Prop}:W (Bl st tst elt []) t P↔P [] t:=Ay rfl
theorem A6{st:D->M Unit}{tst:M Bool}{elt:M D}{d:D}{r:List D}{P:List D->T->Prop}:W (Bl st tst elt (d::r)) t P↔W (st d) t λ_ t1=>W tst t1 λk t2=>
 if k=true then W elt t2 λx t3=>W (Bl st tst elt r) t3 λxs t4=>P (x::xs) t4 else W (Bl st tst elt r) t2 P:=by
 rw[Bl];simp
theorem GK{st:D->M Unit}{tst:M Bool}{elt:M D}{P:List D->T->Prop}(I:List D->List D->T->Prop):∀(ds:List D) (acc:List D) (t:T),I acc ds t->
 (∀acc d r t,I acc (d::r) t->d∈ds->W (st d) t λ_ t1=>W tst t1 λk t2=>if k=true then W elt t2 λx t3=>I (acc++[x]) r t3 else I acc r t2)->
 (∀acc t,I acc [] t->P acc t)->W (Bl st tst elt ds) t λxs t'=>P (acc++xs) t'
 |[],acc,t,h,_,fin=>W_compL_nil.mpr (by rw[ui8];exact fin acc t h)
 |d::r,acc,t,h,turn,fin=>by
   rw[A6];have turn':∀acc d' r' t',I acc (d'::r') t'->d'∈r->_:=λacc d' r' t' h' m=>turn acc d' r' t' h' (ud3 _ m);refine(turn acc d r t h ue4).mono λ_ t1 h1=>h1.mono λk t2 h2=>?_
   cases k with
   |true=>
     rw[gE rfl] at h2⊢;refine h2.mono λx t3 h3=>(GK I r (acc++[x]) t3 h3 turn' fin).mono λxs t4 h4=>?_;rw[ug1] at h4;exact h4
   |false=>
     rw[gG ue5] at h2⊢;exact GK I r acc t2 h2 turn' fin
theorem Aw{n m:Nat}{g:M Out}{ds:List D}{P:D->List Ob->Prop}(h:ds.length=n)(w:W g ⟨env0 m ds,S⟩ λo t=>match o with
 |.ret r=>P r t.S
 |.next=>P .non t.S
 |_=>False):Wf (fnOf n m g) ds S P:=by
 clear 5 w o t e p
 cases o with
 |ret r=>exact⟨r,t.S,by unfold fnOf;rw[gE h,e],p⟩
 |next=>exact⟨.non,t.S,by unfold fnOf;rw[gE h,e],p⟩
 |brk=>exact p.elim
 |cont=>exact p.elim
@[simp] theorem W_tTru {P:Bool->T->Prop}:W Bk t P↔P true t:=Ay rfl
@[simp] theorem cU {P:D->T->Prop}:W bb t P↔P .dic t:=Ay rfl
end
section
variable{t:T}{P:D->T->Prop}
theorem IF{α β:Type}{o:Option β}{g:β->α×T}{Q:α->T->Prop}{m:M α}(e:m t=o.map g):W m t Q↔∃b,o=some b/\Q (g b).1 (g b).2:=by
 constructor
 .rintro⟨a,t',e',p⟩;rw[e] at e';clear 5(uc4.mp e')b h1 h2;exact⟨b,h1,by rw[h2];exact p⟩
 .rintro⟨b,h,p⟩;exact⟨_,_,by rw[e,h];rfl,p⟩
theorem Rn{α:Type}{c:Prop}[Decidable c]{z:α×T}{Q:α->T->Prop}{m:M α}(e:m t=if c then some z else none):W m t Q↔c/\Q z.1 z.2:=by
 constructor
 .rintro⟨a,t',e',p⟩;rw[e] at e'
  split at e'
  .cases e';exact⟨by assumption,p⟩
  .cases e'
 .rintro⟨h,p⟩;exact⟨_,_,by rw[e,gE h],p⟩
theorem Lh{α β:Type}{o:Option β}(f:β->α){Q:α->T->Prop}{m:M α}(e:m t=o.map λb=>(f b,t)):W m t Q↔∃b,o=some b/\Q (f b) t:=IF (g:=λb=>(f b,t)) e
theorem Gc{α:Type}{c:Prop}[Decidable c]{a:α}{Q:α->T->Prop}{m:M α}(e:m t=if c then some (a,t) else none):W m t Q↔c/\Q a t:=Rn (z:=(a,t)) e
@[simp] theorem W_ix_tup {ds:List D}{i:Int}:W (ixD (.tup ds) (.int i)) t P↔∃d,atI ds i=some d/\P d t:=Lh id rfl
@[simp] theorem W_ix_lst {ds:List D}{i:Int}:W (ixD (.lst ds) (.int i)) t P↔∃d,atI ds i=some d/\P d t:=Lh id rfl
@[simp] theorem W_ix_scr {ns:List Int}{i:Int}:W (ixD (.scr ns) (.int i)) t P↔∃n,atI ns i=some n/\P (.int n) t:=Lh D.int rfl
@[simp] theorem W_ix_str {x:Str}{i:Int}:W (ixD (.str x) (.int i)) t P↔x.length<=LIM/\∃n,atI x.cps.toList i=some n/\P (.str ⟨#[n]⟩) t:=by
 by_cases h:x.length<=LIM
 .have:ixD (.str x) (.int i) t=(atI x.cps.toList i).map λn=>(.str ⟨#[n]⟩,t):=by simp only[ixD,h,gC]
  rw[IF this];simp[h]
 .rw[C8 (by simp only[ixD,h,gw])];simp[h]
@[simp] theorem W_ix_obj {k:Nat}{i:Int}:W (ixD (.obj k) (.int i)) t P↔∃ds,t.S[k]?=some (.lst ds)/\∃d,atI ds i=some d/\P d t:=by
 cases e:t.S[k]? with
 |none=>rw[C8 (by simp only[ixD,e])];simp
 |some o=>
   cases o with
   |dct _|ins _ _=>rw[C8 (by simp only[ixD,e])];simp
   |lst ds=>
     have:ixD (.obj k) (.int i) t=(atI ds i).map λd=>(d,t):=by simp only[ixD,e]
     rw[IF this];simp
@[simp] theorem N7 {α:Type}{a:α}{r:List α}:atI (a::r) 0=some a:=by simp[atI,ixN]
@[simp] theorem TQ {α:Type}{a b:α}{r:List α}:atI (a::b::r) 1=some b:=by
 have:(1:Int)<((a::b::r).length:Nat):=by simp;lia
 simp only[atI,ixN,this,gC,show(0:Int)<=1 by decide];rfl
@[simp] theorem TR {α:Type}{a b c:α}{r:List α}:atI (a::b::c::r) 2=some c:=by
 have:(2:Int)<((a::b::c::r).length:Nat):=by simp;lia
 simp only[atI,ixN,this,gC,show(0:Int)<=2 by decide];rfl
theorem MX{α:Type}{xs:List α}{i:Int}(h0:0<=i)(h1:i<xs.length):∃d,atI xs i=some d/\d∈xs/\xs[i.toNat]?=some d:=by
 have hl:i.toNat<xs.length:=by lia
 refine⟨xs[i.toNat],?_,ui0 hl,ub4 hl⟩;simp[atI,ixN,h0,h1,hl]
@[simp] theorem W_len_lst {ds:List D}:W (AH [.lst ds]) t P↔P (.int ds.length) t:=Ay rfl
@[simp] theorem W_len_tup {ds:List D}:W (AH [.tup ds]) t P↔P (.int ds.length) t:=Ay rfl
@[simp] theorem W_len_scr {ds:List Int}:W (AH [.scr ds]) t P↔P (.int ds.length) t:=Ay rfl
@[simp] theorem W_len_str {x:Str}:W (AH [.str x]) t P↔x.length<=LIM/\P (.int x.length) t:=by simp[AH]
@[simp] theorem W_len_obj {k:Nat}:W (AH [.obj k]) t P↔∃ds,t.S[k]?=some (.lst ds)/\P (.int ds.length) t:=by
 cases e:t.S[k]? with
 |none=>rw[C8 (by simp only[AH,e])];simp
 |some o=>
   cases o with
   |dct _|ins _ _=>rw[C8 (by simp only[AH,e])];simp
   |lst ds=>rw[Ay (a:=.int ds.length) (t':=t) (by simp only[AH,e])];simp
@[simp] theorem W_isi {d:D}{m:String}:W (Gq [d,.ty m]) t P↔∃n,tyD d=some n/\∃b,C1 n m=some b/\P (.bl b) t:=by
 cases e:tyD d with
 |none=>rw[C8 (by simp only[Gq,e])];simp
 |some n=>
   have:Gq [d,.ty m] t=(C1 n m).map λb=>(.bl b,t):=by simp only[Gq,e]
   rw[IF this];simp
noncomputable def Je:D->Bool
 |.non=>true
 |_=>false
noncomputable def bo(b:Bool):D->Bool
 |.bl c=>c==b
 |_=>false
@[simp] theorem W_is_non {x:D}:W (isC x .non) t P↔P (.bl (Je x)) t:=Ay (by cases x<;>rfl)
@[simp] theorem cS {x:D}{b:Bool}:W (isC x (.bl b)) t P↔P (.bl (bo b x)) t:=Ay (by cases x<;>rfl)
@[simp] theorem W_isNot {x y:D}:W (FZ x y) t P↔W (isC x y) t λd t1=>W (toB d) t1 λb t2=>P (.bl (!b)) t2:=by
 unfold FZ;rw[W_bnd];constructor
 .exact λh=>h.mono λd t1 h1=>by
   cases d with
   |bl b=>simpa using h1
   |_=>exact(W_fail.mp h1).elim
 .exact λh=>h.mono λd t1 h1=>by
   cases d with
   |bl b=>simpa using h1
   |_=>obtain⟨_,_,e,_⟩:=h1;cases e
@[simp] theorem W_add_int {i j:Int}:W (Ar (.int i) (.int j)) t P↔P (.int (i+j)) t:=Ay rfl
@[simp] theorem W_sub_int {i j:Int}:W (BE (.int i) (.int j)) t P↔P (.int (i-j)) t:=Ay rfl
@[simp] theorem W_lt_int {i j:Int}:W (ltA (.int i) (.int j)) t P↔P (.bl (decide (i<j))) t:=Ay rfl
@[simp] theorem W_le_int {i j:Int}:W (leA (.int i) (.int j)) t P↔P (.bl (decide (i<=j))) t:=Ay rfl
@[simp] theorem W_gt_int {i j:Int}:W (gtA (.int i) (.int j)) t P↔P (.bl (decide (j<i))) t:=Ay rfl
@[simp] theorem W_ge_int {i j:Int}:W (geA (.int i) (.int j)) t P↔P (.bl (decide (j<=i))) t:=Ay rfl
@[simp] theorem aU {i j:Str}:W (ltA (.str i) (.str j)) t P↔P (.bl (decide (i.cps.toList<j.cps.toList))) t:=Ay rfl
@[simp] theorem aR {i j:Str}:W (gtA (.str i) (.str j)) t P↔P (.bl (decide (j.cps.toList<i.cps.toList))) t:=Ay rfl
@[simp] theorem W_neg {i:Int}:W (L5 (.int i)) t P↔P (.int (-i)) t:=Ay rfl
@[simp] theorem W_fdiv {i j:Int}:W (E2 (.int i) (.int j)) t P↔(0<j/\j<1073741824)/\P (.int (i/j)) t:=by
 rw[Rn (m:=E2 (.int i) (.int j)) (c:=KU i j=true) (z:=(.int (i/j),t)) rfl];simp[KU]
@[simp] theorem W_mod {i j:Int}:W (EE (.int i) (.int j)) t P↔0<j/\P (.int (i%j)) t:=by
 rw[Rn (m:=EE (.int i) (.int j)) (c:=decide (0<j)=true) (z:=(.int (i%j),t)) rfl];simp
@[simp] theorem W_pow {i j:Int}:W (Hj (.int i) (.int j)) t P↔K4 i j=true/\P (.int (i ^ j.toNat)) t:=Gc rfl
@[simp] theorem W_mul_int {i j:Int}:W (Dg (.int i) (.int j)) t P↔E5 i j=true/\P (.int (i*j)) t:=Gc rfl
@[simp] theorem W_mul_lst {xs:List D}{k:Int}:W (Dg (.lst xs) (.int k)) t P↔(Bw k=true/\xs.length*k.toNat<=LIM)/\P (.lst (List.replicate k.toNat xs).flatten) t:=Gc rfl
theorem B9{i j:Int}(h1 : -18446744073709551616<i)(h2:i<18446744073709551616):E5 i j=true:=by simp[E5,h1,h2]
theorem Vj{i j:Int}(h1 : -18446744073709551616<j)(h2:j<18446744073709551616):E5 i j=true:=by simp[E5,h1,h2]
theorem Bx{k:Int}(h1 : -4611686018427387904<=k)(h2:k<4611686018427387904):Bw k=true:=by simp[Bw,h1,h2]
@[simp] theorem W_add_str {x y:Str}:W (Ar (.str x) (.str y)) t P↔x.length+y.length<=LIM/\P (.str (x++y)) t:=by
 have:Ar (.str x) (.str y)=lim (x.length+y.length) (.str (x++y)):=rfl;rw[this];simp
@[simp] theorem W_add_lst {x y:List D}:W (Ar (.lst x) (.lst y)) t P↔x.length+y.length<=LIM/\P (.lst (x++y)) t:=by
 have:Ar (.lst x) (.lst y)=lim (x.length+y.length) (.lst (x++y)):=rfl;rw[this];simp
@[simp] theorem W_cat {x y:List D}{Q:List D->T->Prop}:W (JK (.lst x) (.lst y)) t Q↔x.length+y.length<=LIM/\Q (x++y) t:=by
 have:JK (.lst x) (.lst y)=lim (x.length+y.length) (x++y):=rfl;rw[this];simp
@[simp] theorem c9 {i:Int}:W (aX [.int i]) t P↔P (.int (if i<0 then -i else i)) t:=Ay rfl
@[simp] theorem W_min {i j:Int}:W (Fp [.int i,.int j]) t P↔P (.int (if j<i then j else i)) t:=Ay rfl
@[simp] theorem db {i j:Int}:W (br [.int i,.int j]) t P↔P (.int (if j > i then j else i)) t:=Ay rfl
@[simp] theorem aL {i:Int}:W (GX [.int i]) t P↔P (.int i) t:=Ay rfl
@[simp] theorem W_int_bl {b:Bool}:W (GX [.bl b]) t P↔P (.int (if b then 1 else 0)) t:=Ay rfl
@[simp] theorem W_ord {x:Str}:W (JX [.str x]) t P↔x.length=1/\P (.int (x.cps.getD 0 0:Nat)) t:=Gc rfl
@[simp] theorem W_tup_lst {ds:List D}:W (Iy [.lst ds]) t P↔P (.tup ds) t:=Ay rfl
@[simp] theorem W_lst_lst {ds:List D}{Q:List D->T->Prop}:W (FT [.lst ds]) t Q↔Q ds t:=Ay rfl
@[simp] theorem aM {ds:List D}{Q:List D->T->Prop}:W (FT [.tup ds]) t Q↔Q ds t:=Ay rfl
@[simp] theorem W_eq_str {g:Bool->Bool}{x y:Str}:W (eqS g (.str x) (.str y)) t P↔P (.bl (g (x==y))) t:=Ay rfl
@[simp] theorem W_eq_int {g:Bool->Bool}{x y:Int}:W (eqS g (.int x) (.int y)) t P↔P (.bl (g (x==y))) t:=Ay rfl
@[simp] theorem cR {g:Bool->Bool}{x y:Bool}:W (eqS g (.bl x) (.bl y)) t P↔P (.bl (g (x==y))) t:=Ay rfl
@[simp] theorem aQ {g:Bool->Bool}{x:List D}:W (eqS g (.lst x) (.lst [])) t P↔P (.bl (g x.isEmpty)) t:=by
 refine Ay ?_
 cases x<;>rfl
theorem He{a b:String}:Str.ofString a=Str.ofString b↔a=b:=by
 constructor
 .intro h;rw[Str.ofString_eq_toList,Str.ofString_eq_toList] at h;injection h with h
  have h:=gu Array.toList h;simp only at h;have hinj:∀xs ys:List Char,xs.map Char.toNat=ys.map Char.toNat->xs=ys:=by
   intro xs
   induction xs with
   |nil=>intro ys h;cases ys with|nil=>rfl|cons _ _=>simp at h
   |cons x xs ih=>
     intro ys h
     cases ys with
     |nil=>simp at h
     |cons y ys=>
       simp only[uk9,List.cons.injEq] at h;rw[ih ys h.2,Char.toNat_inj.mp h.1]
  exact String.toList_inj.mp (hinj _ _ (by simpa using h))
 .exact λh=>by rw[h]
@[simp] theorem XZ {a b:String}:(Str.ofString a==Str.ofString b)=(a==b):=by
 rw[Bool.eq_iff_iff,gl,gl,He]
@[simp] theorem W_sl_lst {ds:List D}{lo hi:Option Int}:W (En (.lst ds) lo hi) t P↔P (.lst (Cw ds lo hi)) t:=Ay rfl
@[simp] theorem aV {ds:List Int}{lo hi:Option Int}:W (En (.scr ds) lo hi) t P↔P (.lst ((Cw ds lo hi).map .int)) t:=Ay rfl
@[simp] theorem W_fSl {f:M D}{l u:M (Option Int)}{h:D->Option Int->Option Int->M D}:W (fSl f l u h) t P↔W f t λx t1=>W l t1 λlo t2=>W u t2 λhi t3=>W (h x lo hi) t3 P:=by simp[fSl]
@[simp] theorem W_fNo {Q:Option Int->T->Prop}:W fNo t Q↔Q none t:=Ay rfl
@[simp] theorem W_asI {i:Int}{Q:Option Int->T->Prop}:W (asI (.int i)) t Q↔Q (some i) t:=Ay rfl
@[simp] theorem W_fPart {f:M D}{Q:Option Int->T->Prop}:W (Cy f) t Q↔W f t λx t1=>W (asI x) t1 Q:=by simp[Cy]
@[simp] theorem W_fItA {f:M D}{Q:List D->T->Prop}:W (BZ f) t Q↔W f t λx t1=>W (DK x) t1 Q:=by simp[BZ]
@[simp] theorem W_it_lst {ds:List D}{Q:List D->T->Prop}:W (DK (.lst ds)) t Q↔Q ds t:=Ay rfl
@[simp] theorem aT {ds:List D}{Q:List D->T->Prop}:W (DK (.tup ds)) t Q↔Q ds t:=Ay rfl
@[simp] theorem aS {ds:List Int}{Q:List D->T->Prop}:W (DK (.scr ds)) t Q↔Q (ds.map .int) t:=Ay rfl
@[simp] theorem W_it_str {x:Str}{Q:List D->T->Prop}:W (DK (.str x)) t Q↔Q (x.cps.toList.map λc=>.str ⟨#[c]⟩) t:=Ay rfl
@[simp] theorem W_fRng1 {f:M (List D)}{Q:List D->T->Prop}:W (Bs f) t Q↔W f t λx t1=>W (Ir x) t1 Q:=by simp[Bs]
@[simp] theorem W_fRng2 {f:M (List D)}{Q:List D->T->Prop}:W (Gm f) t Q↔W f t λx t1=>W (J0 x) t1 Q:=by simp[Gm]
@[simp] theorem W_rng1 {j:Int}{Q:List D->T->Prop}:W (Ir [.int j]) t Q↔Bw j=true/\Q (AQ 0 j.toNat) t:=Gc rfl
@[simp] theorem W_rng2 {i j:Int}{Q:List D->T->Prop}:W (J0 [.int i,.int j]) t Q↔(Bw i&&Bw j)=true/\Q (AQ i (j-i).toNat) t:=Gc rfl
@[simp] theorem W_in_lst {neg:Bool}{x:D}{ds:List D}:W (inD neg x (.lst ds)) t P↔(Ds x=true/\ds.all Ds=true)/\P (.bl (if neg then !inV (toV x) (ds.map toV) else inV (toV x) (ds.map toV))) t:=Gc rfl
set_option tactic.hygienic true in
@[simp] theorem W_ownM {i:Nat}{h:List D->List D->Option (List D)}{g:M (List D)}{Q:Out->T->Prop}:W (ownM i h g) t Q↔(∃xs,t.env[i]?=some (some (.own xs)))/\W g t λds t1=>∃xs,t1.env[i]?=some (some (.own xs))/\∃ys,h xs ds=some ys/\Q .next ⟨t1.env.set i (some (.own ys)),t1.S⟩:=by
 constructor
 .rintro⟨o,t',e,p⟩;unfold ownM at e
  split at e
  .next xs e0=>
   refine⟨⟨xs,e0⟩,?_⟩;clear 5(Af e)ds t1 e1 e;refine⟨ds,t1,e1,?_⟩
   split at e
   .next ys e2=>
    clear 5(uc4.mp e)zs e3 e4
    cases e4
    exact⟨ys,e2,zs,e3,p⟩
   .cases e
  .cases e
 .rintro⟨⟨xs,e0⟩,ds,t1,e1,ys,e2,zs,e3,p⟩;exact⟨_,_,by unfold ownM bnd;simp only[e0,e1,e2,e3,uj6],p⟩
@[simp] theorem app1_one {xs:List D}{d:D}{ys:List D}:BN xs [d]=some ys↔xs.length<LIM/\xs++[d]=ys:=by
 unfold BN;split<;>simp[*]
@[simp] theorem W_stD {f g:M D}{d:D}{Q:Unit->T->Prop}:W (stD f g d) t Q↔W f t λo t1=>W g t1 λi t2=>W (FV o i d) t2 Q:=by simp[stD]
@[simp] theorem W_stOb {k:Nat}{j:Int}{d:D}{Q:Unit->T->Prop}:W (FV (.obj k) (.int j) d) t Q↔∃xs,t.S[k]?=some (.lst xs)/\∃n,ixN xs.length j=some n/\Q () ⟨t.env,t.S.set k (.lst (xs.set n d))⟩:=by
 cases e:t.S[k]? with
 |none=>rw[C8 (by simp only[FV,e])];simp
 |some o=>
   cases o with
   |dct _|ins _ _=>rw[C8 (by simp only[FV,e])];simp
   |lst ds=>
     have:FV (.obj k) (.int j) d t=(ixN ds.length j).map λn=>((),{t with S:=t.S.set k (.lst (ds.set n d))}):=by simp only[FV,e]
     rw[IF this];simp
end
section
variable{t:T}{P:D->T->Prop}{Q:List D->T->Prop}{R:Out->T->Prop}{B:Bool->T->Prop}{U:Unit->T->Prop}
def EV(k:Bool)(A B:Prop):Prop:=if k=true then A else B
theorem Bj{k:Bool}{A B:Prop}(h:k=true)(a:A):EV k A B:=by unfold EV;rw[gE h];exact a
theorem Be{k:Bool}{A B:Prop}(h:k=false)(b:B):EV k A B:=by unfold EV;rw[gG (by rw[h];exact ue5)];exact b
theorem XD{k:Bool}{A B:Prop}(a:k=true->A)(b:k=false->B):EV k A B:=by cases h:k with
 |true=>exact Bj rfl (a h)
 |false=>exact Be rfl (b h)
def FU(g:M Out)(R:Out->T->Prop)(o:Out)(t1:T):Prop:=match o with
 |.next=>W g t1 R
 |o=>R o t1
variable{t1:T}
set_option tactic.hygienic true in
theorem Hm{g:M Out}(h:W g t1 R):FU g R .next t1:=h
theorem Mw{g:M Out}{d:D}(h:R (.ret d) t1):FU g R (.ret d) t1:=h
theorem cG{f g:M Out}(h:W f t (FU g R)):W (Ae f g) t R:=W_seqS.mpr (h.mono λo t1 h1=>by cases o<;>exact h1)
set_option tactic.hygienic true in
theorem aD(h:R .next t):W Aq t R:=W_skipS.mpr h
variable{f:M D}
theorem cF(h:W f t λd t1=>R (.ret d) t1):W (Ao f) t R:=W_retS.mpr h
set_option tactic.hygienic true in
theorem aa(h:W f t λd t1=>R .next t1):W (EK f) t R:=W_dropS.mpr h
theorem wIf{f:M Bool}{g h:M Out}(w:W f t λk t1=>EV k (W g t1 R) (W h t1 R)):W (ifS f g h) t R:=W_ifS.mpr w
theorem cH{i:Nat}(h:W f t λd t1=>R .next ⟨t1.env.set i (vw d),t1.S⟩):W (Al i f) t R:=W_setS.mpr h
theorem cD{i:Nat}{f:M (List D)}(h:W f t λd t1=>R .next ⟨t1.env.set i (some (.own d)),t1.S⟩):W (DC i f) t R:=W_ownS.mpr h
set_option tactic.hygienic true in
theorem bO{g:D->M Unit}(h:W f t λd t1=>W (g d) t1 λ_ t2=>R .next t2):W (BP f g) t R:=W_asgS.mpr h
theorem bQ{f:M (List D)}{st:D->M Unit}{b:M Out}(h:W f t λds t1=>W (BS st b ds) t1 R):W (BF f st b) t R:=W_forS.mpr h
theorem wC{d:D}(h:P d t):W (fC d) t P:=W_fC.mpr h
theorem EI{i:Nat}{d:D}(e:t.env[i]?=some (vw d))(h:P d t):W (Ab i) t P:=by rw[Pi,e];exact h
variable{ds:List D}
theorem aH{i:Nat}(e:t.env[i]?=some (some (.own ds)))(h:P (.lst ds) ⟨t.env.set i (vw (.lst ds)),t.S⟩):W (Ab i) t P:=by rw[Pi,e];exact h
variable{g:M D}
theorem Ke{h:D->D->M D}(w:W f t λx t1=>W g t1 λy t2=>W (h x y) t2 P):W (Ac f g h) t P:=W_fBin.mpr w
theorem wUn{h:D->M D}(w:W f t λx t1=>W (h x) t1 P):W (fUn f h) t P:=W_fUn.mpr w
theorem CN{α β:Type}{f:M α}{g:α->M β}{K:β->T->Prop}(w:W f t λx t1=>W (g x) t1 K):W (bnd f g) t K:=W_bnd.mpr w
theorem O9{b:Bool}(h:B b t):W (toB (.bl b)) t B:=W_toB.mpr h
theorem Pa(h:W f t λx t1=>W (toB x) t1 B):W (Aj f) t B:=W_fTst.mpr h
theorem YW{w:M D}{h h':D->D->M D}(q:W f t λx t1=>W g t1 λy t2=>W (h x y) t2 λk t3=>W (toB k) t3 λk t4=>EV k (W w t4 λz t5=>W (h' y z) t5 P) (P (.bl false) t4)):W (DI f g w h h') t P:=W_fChain.mpr q
theorem bL{f g:M Bool}(h:W f t λk t1=>EV k (W g t1 B) (B false t1)):W (Ic f g) t B:=W_fAnd.mpr h
theorem wOr{f g:M Bool}(h:W f t λk t1=>EV k (B true t1) (W g t1 B)):W (fOr f g) t B:=W_fOr.mpr h
theorem cz{f:M Bool}(h:W f t λk t1=>B (!k) t1):W (Gk f) t B:=W_fNot.mpr h
theorem Z4(h:W f t λx t1=>W (toB x) t1 λk t2=>EV k (W g t2 P) (P (.bl false) t2)):W (Hv f g) t P:=W_fAndV.mpr h
theorem TB(h:W f t λx t1=>W (toB x) t1 λk t2=>EV k (P (.bl true) t2) (W g t2 P)):W (JO f g) t P:=W_fOrV.mpr h
theorem au(h:W f t λx t1=>W (toB x) t1 λk t2=>P (.bl (!k)) t2):W (Hx f) t P:=W_fNotV.mpr h
theorem bW{f:M Bool}{h:M D}(w:W f t λk t1=>EV k (W g t1 P) (W h t1 P)):W (fIf f g h) t P:=W_fIf.mpr w
theorem IB(h:Q [] t):W Ad t Q:=W_fNil.mpr h
theorem DP{g:M (List D)}(h:W f t λd t1=>W g t1 λds t2=>Q (d::ds) t2):W (Aa f g) t Q:=W_fCons.mpr h
def Gu(n:Nat)(A:Prop):Prop:=n<=LIM/\A
variable{n:Nat}
theorem AO{A:Prop}(h:n<=LIM)(a:A):Gu n A:=⟨h,a⟩
theorem cM{f:M (List D)}(h:W f t λds t1=>Gu ds.length (P (.tup ds) t1)):W (AC f) t P:=W_fTup.mpr h
theorem cf{f:M (List D)}(h:W f t λds t1=>Gu ds.length (Q ds t1)):W (AD f) t Q:=W_fLst.mpr h
theorem az{f:M (List D)}(h:W f t λds t1=>P (.lst ds) t1):W (Av f) t P:=W_fPure.mpr h
theorem cA{f:M (List D)}(h:W f t λds t1=>P (.obj t1.S.length) ⟨t1.env,t1.S++[.lst ds]⟩):W (Dz f) t P:=by rw[WN];exact h.mono λds t1 h=>W_newOb.mpr h
theorem Jv{g:Fn}{f:M (List D)}(h:W f t λds t1=>Wf g ds t1.S λr S'=>P r ⟨t1.env,S'⟩):W (Ah g f) t P:=W_fCall.mpr h
theorem wB{f:M (List D)}{h:List D->M D}(w:W f t λds t1=>W (h ds) t1 P):W (fB f h) t P:=W_fB.mpr w
theorem wBF{f:M (List D)}{h:List D->M (List D)}(w:W f t λds t1=>W (h ds) t1 Q):W (fBF f h) t Q:=W_fBF.mpr w
theorem B6{i:Nat}{d:D}(h:U () ⟨t.env.set i (vw d),t.S⟩):W (As i d) t U:=W_putV.mpr h
theorem Wx(h:U () t):W (El []) t U:=W_putNil.mpr h
theorem TC{f:D->M Unit}{g:List D->M Unit}{d:D}(h:W (f d) t λ_ t1=>W (g ds) t1 U):W (AX f g (d::ds)) t U:=W_putCons.mpr h
theorem cO{g:List D->M Unit}(e:ds.length=n)(h:W (g ds) t U):W (unS n g (.tup ds)) t U:=W_unS_tup.mpr ⟨e,h⟩
theorem Z9{fr:List Nat}{f:M (List D)}{st:D->M Unit}{tst:M Bool}{elt:M D}(h:W f t λds t1=>W (Bl st tst elt ds) ⟨cenv n fr t1.env,t1.S⟩ λxs t'=>Gu xs.length (Q xs ⟨t1.env,t'.S⟩)):W (AN n fr f st tst elt) t Q:=W_fComp.mpr h
theorem Et(h:B true t):W Bk t B:=W_tTru.mpr h
variable{i:Int}
theorem Iz{d:D}(e:atI ds i=some d)(h:P d t):W (ixD (.tup ds) (.int i)) t P:=W_ix_tup.mpr ⟨d,e,h⟩
theorem AM{d:D}(e:atI ds i=some d)(h:P d t):W (ixD (.lst ds) (.int i)) t P:=W_ix_lst.mpr ⟨d,e,h⟩
theorem aj(h:P (.int ds.length) t):W (AH [.lst ds]) t P:=W_len_lst.mpr h
theorem am(h:P (.int ds.length) t):W (AH [.tup ds]) t P:=W_len_tup.mpr h
theorem ak{ds:List Int}(h:P (.int ds.length) t):W (AH [.scr ds]) t P:=W_len_scr.mpr h
variable{x:Str}
theorem al(e:x.length<=LIM)(h:P (.int x.length) t):W (AH [.str x]) t P:=W_len_str.mpr ⟨e,h⟩
theorem bZ{d:D}{m n:String}{b:Bool}(e:tyD d=some n)(e':C1 n m=some b)(h:P (.bl b) t):W (Gq [d,.ty m]) t P:=W_isi.mpr ⟨n,e,b,e',h⟩
theorem bY{x:D}(h:P (.bl (Je x)) t):W (isC x .non) t P:=W_is_non.mpr h
theorem Y2{x y:D}(h:W (isC x y) t λd t1=>W (toB d) t1 λb t2=>P (.bl (!b)) t2):W (FZ x y) t P:=W_isNot.mpr h
variable{j:Int}
theorem Z1(h:P (.int (i+j)) t):W (Ar (.int i) (.int j)) t P:=W_add_int.mpr h
theorem aE(h:P (.int (i-j)) t):W (BE (.int i) (.int j)) t P:=W_sub_int.mpr h
theorem cj(h:P (.bl (decide (i<j))) t):W (ltA (.int i) (.int j)) t P:=W_lt_int.mpr h
theorem b9(h:P (.bl (decide (i<=j))) t):W (leA (.int i) (.int j)) t P:=W_le_int.mpr h
theorem bS(h:P (.bl (decide (j<i))) t):W (gtA (.int i) (.int j)) t P:=W_gt_int.mpr h
theorem bR(h:P (.bl (decide (j<=i))) t):W (geA (.int i) (.int j)) t P:=W_ge_int.mpr h
theorem cy(h:P (.int (-i)) t):W (L5 (.int i)) t P:=W_neg.mpr h
theorem YY(h1:0<j)(h2:j<1073741824)(h:P (.int (i/j)) t):W (E2 (.int i) (.int j)) t P:=W_fdiv.mpr ⟨⟨h1,h2⟩,h⟩
theorem Tz(h1:0<j)(h:P (.int (i%j)) t):W (EE (.int i) (.int j)) t P:=W_mod.mpr ⟨h1,h⟩
theorem cE(h1:K4 i j=true)(h:P (.int (i ^ j.toNat)) t):W (Hj (.int i) (.int j)) t P:=W_pow.mpr ⟨h1,h⟩
theorem Dx(h1:E5 i j=true)(h:P (.int (i*j)) t):W (Dg (.int i) (.int j)) t P:=W_mul_int.mpr ⟨h1,h⟩
variable{xs:List D}
theorem ar{k:Int}(h1:Bw k=true/\xs.length*k.toNat<=LIM)(h:P (.lst (List.replicate k.toNat xs).flatten) t):W (Dg (.lst xs) (.int k)) t P:=W_mul_lst.mpr ⟨h1,h⟩
theorem Z3{y:Str}(h:Gu (x.length+y.length) (P (.str (x++y)) t)):W (Ar (.str x) (.str y)) t P:=W_add_str.mpr h
theorem Z2{x y:List D}(h:Gu (x.length+y.length) (P (.lst (x++y)) t)):W (Ar (.lst x) (.lst y)) t P:=W_add_lst.mpr h
theorem bP{x y:List D}(h:Gu (x.length+y.length) (Q (x++y) t)):W (JK (.lst x) (.lst y)) t Q:=W_cat.mpr h
theorem cq(h:P (.int (if j<i then j else i)) t):W (Fp [.int i,.int j]) t P:=W_min.mpr h
theorem ae{i:Bool}(h:P (.int (if i then 1 else 0)) t):W (GX [.bl i]) t P:=W_int_bl.mpr h
theorem cB(e:x.length=1)(h:P (.int (x.cps.getD 0 0:Nat)) t):W (JX [.str x]) t P:=W_ord.mpr ⟨e,h⟩
theorem aF(h:P (.tup ds) t):W (Iy [.lst ds]) t P:=W_tup_lst.mpr h
theorem ao(h:Q ds t):W (FT [.lst ds]) t Q:=W_lst_lst.mpr h
theorem Ty{g:Bool->Bool}{y:Str}(h:P (.bl (g (x==y))) t):W (eqS g (.str x) (.str y)) t P:=W_eq_str.mpr h
theorem Y0{g:Bool->Bool}{x y:Int}(h:P (.bl (g (x==y))) t):W (eqS g (.int x) (.int y)) t P:=W_eq_int.mpr h
theorem cJ{lo hi:Option Int}(h:P (.lst (Cw ds lo hi)) t):W (En (.lst ds) lo hi) t P:=W_sl_lst.mpr h
theorem wSl{l u:M (Option Int)}{h:D->Option Int->Option Int->M D}(w:W f t λx t1=>W l t1 λlo t2=>W u t2 λhi t3=>W (h x lo hi) t3 P):W (fSl f l u h) t P:=W_fSl.mpr w
variable{K:Option Int->T->Prop}
theorem wNo(h:K none t):W fNo t K:=W_fNo.mpr h
theorem bN(h:K (some i) t):W (asI (.int i)) t K:=W_asI.mpr h
theorem ay(h:W f t λx t1=>W (asI x) t1 K):W (Cy f) t K:=W_fPart.mpr h
theorem b0(h:W f t λx t1=>W (DK x) t1 Q):W (BZ f) t Q:=W_fItA.mpr h
theorem b7(h:Q ds t):W (DK (.lst ds)) t Q:=W_it_lst.mpr h
theorem b8(h:Q (x.cps.toList.map λc=>.str ⟨#[c]⟩) t):W (DK (.str x)) t Q:=W_it_str.mpr h
theorem aA{f:M (List D)}(h:W f t λx t1=>W (Ir x) t1 Q):W (Bs f) t Q:=W_fRng1.mpr h
theorem aB{f:M (List D)}(h:W f t λx t1=>W (J0 x) t1 Q):W (Gm f) t Q:=W_fRng2.mpr h
theorem Dm(e:Bw j=true)(h:Q (AQ 0 j.toNat) t):W (Ir [.int j]) t Q:=W_rng1.mpr ⟨e,h⟩
theorem Y4(e:(Bw i&&Bw j)=true)(h:Q (AQ i (j-i).toNat) t):W (J0 [.int i,.int j]) t Q:=W_rng2.mpr ⟨e,h⟩
theorem bX{neg:Bool}{x:D}(e:Ds x=true/\ds.all Ds=true)(h:P (.bl (if neg then !inV (toV x) (ds.map toV) else inV (toV x) (ds.map toV))) t):W (inD neg x (.lst ds)) t P:=W_in_lst.mpr ⟨e,h⟩
theorem ax{i:Nat}{h:List D->List D->Option (List D)}{g:M (List D)}(e:t.env[i]?=some (some (.own xs)))(w:W g t λds t1=>∃xs,t1.env[i]?=some (some (.own xs))/\∃ys,h xs ds=some ys/\R .next ⟨t1.env.set i (some (.own ys)),t1.S⟩):W (ownM i h g) t R:=W_ownM.mpr ⟨⟨xs,e⟩,w⟩
theorem bM{i:Nat}{d:D}{A:List D->Prop}(e:t1.env[i]?=some (some (.own xs)))(w:Gu (xs.length+1) (A (xs++[d]))):∃xs,t1.env[i]?=some (some (.own xs))/\∃ys,BN xs [d]=some ys/\A ys:=
 ⟨xs,e,_,app1_one.mpr ⟨w.1,rfl⟩,w.2⟩
theorem cK{d:D}(h:W f t λo t1=>W g t1 λi t2=>W (FV o i d) t2 U):W (stD f g d) t U:=W_stD.mpr h
end
section
variable{i:Nat}{g:Fn}{d':D}
section
variable{t:T}{P:D->T->Prop}{B:Bool->T->Prop}{Q:List D->T->Prop}
theorem aG{n:Int}{ds:List D}{d:D}(e:t.env[i]?=some (vw (.tup ds)))(a:atI ds n=some d)(h:P d t):W (Ac (Ab i) (dr n) ixD) t P:=Ke (EI e (wC (Iz a h)))
theorem ai{x y:Str}{ds:List D}{g:Bool->Bool}(e:t.env[i]?=some (vw (.tup (.str y::ds))))(h:B (g (y==x)) t):W (Aj (Ac (Ac (Ab i) (dr 0) ixD) (fC (.str x)) (eqS g))) t B:=Pa (Ke (Ke (EI e (wC (Iz N7 (wC (Ty (O9 h))))))))
theorem Y6{x y:Str}{g:Bool->Bool}(e:t.env[i]?=some (vw (.str y)))(h:B (g (y==x)) t):W (Aj (Ac (Ab i) (fC (.str x)) (eqS g))) t B:=Pa (Ke (EI e (wC (Ty (O9 h)))))
theorem Y5{x y:Int}{g:Bool->Bool}(e:t.env[i]?=some (vw (.int y)))(h:B (g (y==x)) t):W (Aj (Ac (Ab i) (dr x) (eqS g))) t B:=Pa (Ke (EI e (wC (Y0 (O9 h)))))
theorem Wp{d:D}(e:t.env[i]?=some (vw d))(h:Wf g [d] t.S λr S'=>P r ⟨t.env,S'⟩):W (Ah g (Aa (Ab i) Ad)) t P:=Jv (DP (EI e (IB h)))
theorem Wq{j:Nat}{d:D}(e:t.env[i]?=some (vw d))(e':t.env[j]?=some (vw d'))(h:Wf g [d,d'] t.S λr S'=>P r ⟨t.env,S'⟩):W (Ah g (Aa (Ab i) (Aa (Ab j) Ad))) t P:=Jv (DP (EI e (DP (EI e' (IB h)))))
theorem Wt{d:D}(e:t.env[i]?=some (vw d))(h:Wf g [d,d'] t.S λr S'=>P r ⟨t.env,S'⟩):W (Ah g (Aa (Ab i) (Aa (fC d') Ad))) t P:=Jv (DP (EI e (DP (wC (IB h)))))
theorem Ws{j k:Nat}{d d'':D}(e:t.env[i]?=some (vw d))(e':t.env[j]?=some (vw d'))(e'':t.env[k]?=some (vw d''))(h:Wf g [d,d',d''] t.S λr S'=>P r ⟨t.env,S'⟩):W (Ah g (Aa (Ab i) (Aa (Ab j) (Aa (Ab k) Ad)))) t P:=Jv (DP (EI e (DP (EI e' (DP (EI e'' (IB h)))))))
end
end
end L2
namespace LW
open PySem L2
set_option compiler.extract_closed false
local macro_rules | `(tactic| clear 31 $t*)=>`(tactic| with_reducible first $[| refine $t ?_]*)
local macro_rules | `(tactic| clear 32 $t*)=>`(tactic| ((with_reducible first $[| refine' $t ?wv ?_]*);(case wv=>exact rfl)))
local macro_rules | `(tactic| clear 33 $t*)=>`(tactic| ((with_reducible first $[| refine' $t ?wv ?_]*);(case wv=>decide)))
local macro_rules | `(tactic| walk_at"w1")=>`(tactic| first
 |clear 32 ai Y6 Wp
 |clear 32 Y5 Wt
 |((with_reducible refine' aG ?wv ?wu ?_);(case wv=>exact rfl);(case wu=>first|exact rfl|exact N7|exact TQ|exact TR))
 |((with_reducible refine' Wq ?wv ?wu ?_);(case wv=>exact rfl);(case wu=>exact rfl))
 |((with_reducible refine' Ws ?wv ?wu ?wt ?_);(case wv=>exact rfl);(case wu=>exact rfl);(case wt=>exact rfl))
 |clear 31 cG Hm Mw cH Ke wC DP IB wIf Pa O9 cF Jv Ty Y0 Z1 aE aD wB wBF az cM cf cA bO bQ bL wOr cz Z4 TB au bW YW wUn cy bY Y2 cj b9 bS bR aj am ak cq ae aF ao Z3 Z2 bP wSl wNo ay bN cJ b0 b7 b8 aA aB B6 Wx TC Z9 Et cD CN aa cK
 |clear 32 EI Bj ax bM
 |clear 32 Be aH cO
 |((with_reducible first|refine' Iz ?wv ?_|refine' AM ?wv ?_);(case wv=>first|exact rfl|exact N7|exact TQ|exact TR))
 |((with_reducible refine AO ?wv ?_);(case wv=>exact ud0 rfl))
 |((with_reducible refine' bZ ?wv ?wu ?_);(case wv=>exact rfl);(case wu=>exact rfl))
 |((with_reducible refine YY ?wv ?wu ?_);(case wv=>decide);(case wu=>decide))
 |clear 33 cE Tz Dm Y4)
local macro_rules | `(tactic| right)=>`(tactic| repeat (walk_at"w1"))
structure DeckAt(k c:Nat)(S:List Ob):Prop where
 ne:k≠c
 at_:∃(cells:List Int) (par pos:Int),S[k]?=some (.lst [.obj c,.int par,.int pos])/\S[c]?=some (.lst (cells.map .int))/\cells≠[]/\0<=pos
variable{n:Nat}
theorem Cq{i:Int}(h0:0<=i)(h1:i<n):ixN n i=some i.toNat:=by simp[ixN,h0,h1]
variable{S:List Ob}{o:Ob}
theorem Nh{k:Nat}{o':Ob}(h:S[k]?=some o):(S.set k o')[k]?=some o':=by
 obtain⟨hl,_⟩:=ub0.mp h;exact uc0 hl
inductive Sh where
 |nothing|number (lo hi:Int)|text (m:Int)|list (s:Sh) (m:Int)|pair (s r:Sh)|choice (ss:List Sh)
mutual
noncomputable def Sh.d:Sh->D
 |.nothing=>.tup [.str "nothing"]
 |.number lo hi=>.tup [.str "number",.int lo,.int hi]
 |.text m=>.tup [.str "text",.int m]
 |.list s m=>.tup [.str "list",s.d,.int m]
 |.pair s r=>.tup [.str "pair",s.d,r.d]
 |.choice ss=>.tup [.str "choice",.tup (shD ss)]
noncomputable def shD:List Sh->List D
 |[]=>[]
 |s::r=>s.d::shD r
end
mutual
noncomputable def Sh.depth:Sh->Nat
 |.nothing=>1
 |.number _ _=>1
 |.text _=>1
 |.list s _=>s.depth+1
 |.pair s r=>max s.depth r.depth+1
 |.choice ss=>E7 ss+1
noncomputable def E7:List Sh->Nat
 |[]=>0
 |s::r=>max s.depth (E7 r)
end
theorem EG:∀ss:List Sh,(shD ss).length=ss.length
 |[]=>rfl
 |s::r=>by simp[shD,EG r]
theorem Fb:∀(ss:List Sh) (k:Nat),(shD ss)[k]?=(ss[k]?).map Sh.d
 |[],k=>by simp[shD]
 |s::r,0=>by simp[shD]
 |s::r,k+1=>by simp[shD,Fb r k]
theorem D6:∀(ss:List Sh) (k:Nat) (s:Sh),ss[k]?=some s->s.depth<=E7 ss
 |[],k,s,h=>by simp at h
 |s::r,0,s',h=>by simp at h;subst h;simp[E7];lia
 |s::r,k+1,s',h=>by
   have:=D6 r k s' (by simpa using h);simp[E7];lia
theorem Sh.depth_pos(s:Sh):1<=s.depth:=by cases s<;>simp[Sh.depth]
noncomputable def A3(n:Nat):Bool:=decide (32<=n)&&decide (n<=126)&&decide (n≠37)
noncomputable def Xy:Str->Bool:=λo=>o==("of":Str)
mutual
def AU:Sh->D->Bool
 |.nothing,d=>Je d
 |.number lo hi,d=>match d with
   |.int i=>decide (lo<=i)&&decide (i<=hi)
   |_=>false
 |.text m,d=>match d with
   |.str x=>decide ((x.length:Int)<=m)&&x.cps.toList.all A3
   |_=>false
 |.list s m,d=>match d with
   |.lst ds=>decide ((ds.length:Int)<=m)&&ds.all λe=>AU s e
   |_=>false
 |.pair s r,d=>match d with
   |.tup [a,b]=>AU s a&&AU r b
   |_=>false
 |.choice ss,d=>match d with
   |.tup [.str o,.int k,x]=>Xy o&&(decide (0<=k)&&decide (k<ss.length))&&IY ss k.toNat x
   |_=>false
def IY:List Sh->Nat->D->Bool
 |[],_,_=>false
 |s::_,0,d=>AU s d
 |_::r,k+1,d=>IY r k d
end
theorem FK:∀(ss:List Sh) (k:Nat) (s:Sh) (d:D),ss[k]?=some s->IY ss k d=AU s d
 |[],k,s,d,h=>by simp at h
 |s::r,0,s',d,h=>by simp at h;subst h;simp[IY]
 |s::r,k+1,s',d,h=>by rw[IY];exact FK r k s' d (by simpa using h)
mutual
noncomputable def okD:D->Bool
 |.str x=>decide (x.length<=90000)
 |.tup xs=>oks xs
 |.lst xs=>oks xs
 |.obj _=>false
 |.scr _=>false
 |.exc _ _=>false
 |.ty _=>false
 |_=>true
noncomputable def oks:List D->Bool
 |[]=>true
 |d::r=>okD d&&oks r
end
abbrev Pure1(f:Fn)(ds:List D)(r:D):Prop:=∀S,Wf f ds S λv S'=>v=r/\S'=S
variable{ds:List D}{r:D}
theorem Pure1.use{f:Fn}(h:Pure1 f ds r){S:List Ob}{P:D->List Ob->Prop}(p:P r S):Wf f ds S P:=(h S).mono λ_ _ ⟨e1,e2⟩=>by subst e1 e2;exact p
def Ld(f:Fn):Prop:=∀n:Nat,Pure1 f [.int n] (.bl (A3 n))
theorem Os:Ld (fnOf 1 1 G9):=by
 intro n S;refine Aw rfl ?_;unfold G9;right;have c1:decide ((32:Int)<=n)=decide (32<=n):=decide_eq_decide.mpr ∅;have c2:decide ((n:Int)<=126)=decide (n<=126):=decide_eq_decide.mpr ∅;have c3:(!((n:Int)==37))=decide (n≠37):=by
  by_cases h:n=37
  .subst h;rfl
  .have:¬((n:Int)=37):=by lia
   simp[h,this]
 rw[c1];refine XD (λe=>?_) λe=>?_
 .right;rw[c2];refine XD (λe'=>?_) λe'=>?_
  .right;exact⟨by simp only[A3,e,e',c3,fZ],rfl⟩
  .exact⟨by simp only[A3,e,e',uk3,Bool.and_false],rfl⟩
 .right;exact⟨by simp only[A3,e,uk3],rfl⟩
theorem G0(x:Str):x.length=x.cps.toList.length:=by simp[Str.length]
theorem Kg(x y:Str):(x++y).cps.toList=x.cps.toList++y.cps.toList:=by
 show(x.cps++y.cps).toList=_;simp
variable{elt:M D}
theorem Ph{f:D->D}{fr:List (Option Sl)}{z:Option Sl}(h:∀d∈ds,W elt ⟨vw d::fr,S⟩ λx t'=>x=f d/\t'=⟨vw d::fr,S⟩) :
 W (Bl (As 0) Bk elt ds) ⟨z::fr,S⟩ λxs t'=>xs=ds.map f/\t'.S=S:=by
 refine(GK (P:=λxs t'=>xs=ds.map f/\t'.S=S) (λacc r t=>acc++r.map f=ds.map f/\∃z,t=⟨z::fr,S⟩) ds [] _ ⟨rfl,z,rfl⟩ ?_ ?_).mono λxs t' h=>h
 .rintro acc d r t ⟨h1,z,rfl⟩ hm;refine B6 (Et ?_);rw[gE rfl];refine(h d hm).mono λx t' z9=>?_;clear 5 z9 e1 e2;subst e1 e2;exact⟨by rw[ug1];exact h1,_,rfl⟩
 .rintro acc t ⟨h1,z,rfl⟩;exact⟨by simpa using h1,rfl⟩
mutual
noncomputable def sz:D->Nat
 |.tup xs=>szs xs+1
 |.lst xs=>szs xs+1
 |_=>1
noncomputable def szs:List D->Nat
 |[]=>0
 |d::r=>sz d+szs r
end
variable{x y:Str}
theorem Wk(h:x.cps.toList=y.cps.toList):x=y:=by
 cases x;cases y
 congr
 exact Array.toList_inj.mp h
mutual
noncomputable def wf:Sh->Bool
 |.nothing=>true
 |.number lo hi=>decide (-1000000000000000000<lo)&&decide (lo<=hi)&&decide (hi<1000000000000000000)
 |.text m=>decide (0<=m)&&decide (m<=250)
 |.list s m=>decide (0<=m)&&decide (m<=250)&&wf s
 |.pair s r=>wf s&&wf r
 |.choice ss=>decide (1<=ss.length)&&decide (ss.length<=9)&&wfs ss
noncomputable def wfs:List Sh->Bool
 |[]=>true
 |s::r=>wf s&&wfs r
end
mutual
noncomputable def cnt:Sh->Nat
 |.list s _=>cnt s+1
 |.pair s r=>cnt s+cnt r+1
 |.choice ss=>WY ss+1
 |_=>1
noncomputable def WY:List Sh->Nat
 |[]=>0
 |s::r=>cnt s+WY r
end
theorem Ea:∀{ss:List Sh},wfs ss=true->∀s∈ss,wf s=true
 |x::r,h,s,m=>by
   rw[wfs,uh3] at h;rcases uk8.mp m with z|z
   .subst z;exact h.1
   .exact Ea h.2 s z
theorem Re:∀{ss:List Sh},(∀s∈ss,wf s=true)->wfs ss=true
 |[],_=>rfl
 |x::r,h=>by rw[wfs,h x ue4,Re λs m=>h s (ud3 _ m)];rfl
theorem My:∀ss:List Sh,shD ss=ss.map Sh.d
 |[]=>rfl
 |s::r=>by rw[shD,My r];rfl
theorem FM:∀{ss:List Sh}{s:Sh},s∈ss->s.depth<=E7 ss
 |x::r,s,m=>by
   rw[E7];rcases uk8.mp m with z|z
   .subst z;lia
   .have:=FM z;lia
variable{xs:List D}
theorem Hh{i:Int}(h0:0<=i)(h1:i<xs.length){p:D->Prop}(h:∀d∈xs,p d):∃d,atI xs i=some d/\p d:=by
 obtain⟨d,e,m,_⟩:=MX h0 h1;exact⟨d,e,h d m⟩
def N2(k c l:Nat)(S S':List Ob):Prop:=S'.length=S.length/\∀j:Nat,j≠k->j≠c->j≠l->S'[j]?=S[j]?
noncomputable def OY(deep:Int):Int:=if deep<2 then 0 else 2*deep+4
def bd(deep x:Int):Int:=if deep<2 then 1 else max x 1+OY deep-(if deep+1<=x then 1 else 0)
def tb(deep y i:Int):Int:=if deep=2 then i else if i=0 then 0 else y+OY (deep-1)+i-1-(if deep<=y then 1 else 0)
structure ShapeRes(k c l:Nat)(S:List Ob)(deep x:Int)(s:Sh)(S':List Ob):Prop where
 w:wf s=true
 dep:(s.depth:Int)<=max deep 1
 lft:S'[l]?=some (.lst [.int (x-cnt s)])
 one:x<=1->cnt s=1
 few:(cnt s:Int)<=max x 1+OY deep
 deck:DeckAt k c S'
 kp:N2 k c l S S'
 few2:(cnt s:Int)<=bd deep x
noncomputable def signs94:Str:=" !\"#$&'()*+,-./0123456789:;<=>?@ABCDEFGHIJKLMNOPQRSTUVWXYZ[\\]^_`abcdefghijklmnopqrstuvwxyz{|}~"
theorem Tp{i:Int}(h0:0<=i)(h1:i<94):∃n,atI signs94.cps.toList i=some n/\A3 n=true:=by
 have hl:signs94.cps.toList.length=94:=by decide +kernel
 have ha:signs94.cps.toList.all A3=true:=by decide +kernel
 obtain⟨n,e,m,_⟩:=MX (xs:=signs94.cps.toList) h0 (by rw[hl];exact h1);exact⟨n,e,uh7.mp ha n m⟩
structure Sep(ks:List (Nat×Nat)):Prop where
 sep:∀p∈ks,∀q∈ks,p=q\/(q.1≠p.1/\q.1≠p.2/\q.2≠p.1/\q.2≠p.2)
mutual
noncomputable def dpt:D->Nat
 |.lst ds=>RD ds+1
 |.tup ds=>RD ds+1
 |_=>1
noncomputable def RD:List D->Nat
 |[]=>0
 |d::r=>max (dpt d) (RD r)
end
mutual
noncomputable def smD:D->Bool
 |.str x=>decide (x.length<=300)
 |.int i=>decide (-1000000000000000000000000<i)&&decide (i<1000000000000000000000000)
 |.tup xs=>decide (xs.length<=300)&&sms xs
 |.lst xs=>decide (xs.length<=300)&&sms xs
 |.obj _=>false
 |.scr _=>false
 |.ty _=>false
 |.exc _ _=>false
 |_=>true
noncomputable def sms:List D->Bool
 |[]=>true
 |d::r=>smD d&&sms r
end
theorem EL{f:D->D->Option Bool}:∀{xs:List D},(∀d∈xs,f d d=some true)->C9 f xs xs=some true
 |[],_=>rfl
 |x::r,h=>by
   rw[C9,h x ue4,EL λd m=>h d (ud3 _ m)];rfl
variable{t:T}{P:D->T->Prop}
theorem D9{d:D}{g:Bool->Bool}(h0:JS d=false)(h:eqN EQD d d=some true)(p:P (.bl (g true)) t):W (eqS g d d) t P:=⟨_,_,by simp[eqS,h0,h],p⟩
theorem Mz:∀{ss:List Sh}{d:D},d∈shD ss->∃s∈ss,d=s.d
 |s::r,d,h=>by
   rw[shD] at h;rcases uk8.mp h with rfl|h
   .exact⟨s,ue4,rfl⟩
   .clear 5(Mz h)s' h1 h2;exact⟨s',ud3 _ h1,h2⟩
variable{f:M D}
theorem Uk{g:M (List D)}(h:W f t λo t1=>W g t1 λas t2=>∃z ds ys,o=.str z/\as=[.lst ds]/\FA ds=some ys/\(z.length<=8/\ys.length<=1048576)/\P (.str (Txt.join z ys)) t2):W (joinM f g) t P:=by
 refine CN (h.mono λo t1 h1=>CN (h1.mono λas t2 h2=>?_));clear 5 h2 z ds ys rfl rfl e hl p;refine⟨_,_,?_,p⟩;simp only[e];rw[gE hl]
theorem FB:∀ns:List Nat,FA (ns.map λn=>D.str ⟨#[n]⟩)=some (ns.map λn=>(⟨#[n]⟩:Str))
 |[]=>rfl
 |n::r=>by
   rw[uk9,FA,gE (ud0 rfl),FB r];rfl
theorem Jc:∀(ns:List Nat) (acc:Array Nat),((ns.map λn=>(⟨#[n]⟩:Str)).foldl (λacc p=>acc++(Str.ofString "").cps++p.cps) acc).toList=acc.toList++ns
 |[],acc=>by simp
 |n::r,acc=>by
   have e:(Str.ofString "").cps=#[]:=by decide +kernel
   rw[uk9,uj2,Jc r,e];simp
theorem Gs(ns:List Nat):(Txt.join (Str.ofString "") (ns.map λn=>(⟨#[n]⟩:Str))).cps.toList=ns:=by
 show(List.foldl (λ(acc:Array Nat) (p:Str)=>acc++(Str.ofString "").cps++p.cps) (((ns.map λn=>(⟨#[n]⟩:Str)).headD Str.empty).cps) ((ns.map λn=>(⟨#[n]⟩:Str)).drop 1)).toList=ns
 cases ns with
 |nil=>rfl
 |cons n r=>
   rw[uk9,List.drop_one,List.tail_cons,Jc];rfl
structure ValueRes(k c l:Nat)(S:List Ob)(s:Sh)(r:D)(S':List Ob):Prop where
 fit:AU s r=true
 lft:∃a b:Int,S'[l]?=some (.lst [.int a,.int b])
 deck:DeckAt k c S'
 kp:N2 k c l S S'
theorem Z7{i:Int}(h:P (.int (Builtin.Int.intBits i:Nat)) t):W (IG (.int i)) t P:=⟨_,_,rfl,h⟩
theorem cI{i j:Int}(h0:0<=j)(h:P (.int (i/2 ^ j.toNat)) t):W (MA (.int i) (.int j)) t P:=⟨_,_,by simp[MA,i2C,h0],h⟩
set_option tactic.hygienic true in
theorem Ev{f:M Bool}{b:M Out}{P:Out->T->Prop}(I:Nat->T->Prop)(turn:∀n t,I n t->W f t λk t1=>match k with
 |true=>∃m,n=m+1/\W b t1 λo t2=>match o with
   |.next=>I m t2
   |.cont=>I m t2
   |.brk=>P .next t2
   |.ret x=>P (.ret x) t2
 |false=>P .next t1):∀(fuel n:Nat) (t:T),n<fuel->I n t->W (CU f b fuel) t P
 |0,n,t,h,_=>absurd h (uj8 _)
 |fuel+1,n,t,h,i=>by
   clear 5(turn n t i)k t1 e1 p
   cases k with
   |false=>exact⟨_,_,by simp only[CU,e1],p⟩
   |true=>
     clear 5 p m rfl o t2 e2 p
     cases o with
     |next=>clear 5(Ev I turn fuel m t2 ∅ p)o t' e' p;exact⟨o,t',by simp only[CU,e1,e2];exact e',p⟩
     |cont=>clear 5(Ev I turn fuel m t2 ∅ p)o t' e' p;exact⟨o,t',by simp only[CU,e1,e2];exact e',p⟩
     |brk=>exact⟨_,_,by simp only[CU,e1,e2],p⟩
     |ret x=>exact⟨_,_,by simp only[CU,e1,e2],p⟩
noncomputable def wid(n:Nat):Nat:=if n=0 then 0 else n.log2/8+1
theorem Qg(h:2<=n):n.log2=(n/2).log2+1:=by rw[Nat.log2_def,gE h]
theorem Sn(h:n<2):n.log2=0:=by rw[Nat.log2_def,gG ∅]
theorem LV:∀(k:Nat){n:Nat},2 ^ k<=n->n.log2=(n/2 ^ k).log2+k
 |0,n,_=>by rw[Nat.pow_zero,Nat.div_one,gh]
 |k+1,n,h=>by
   have h2:2 ^ k*2<=n:=by rw[<-um7];exact h
   have h3:2<=n/2 ^ k:=(fA (Nat.pow_pos (by decide))).mpr (by rw[Nat.mul_comm];exact h2);rw[LV k (um0 (Nat.le_mul_of_pos_right _ (by decide)) h2),Qg h3,Nat.div_div_eq_div_mul,<-um7,ul5,ge 1 k]
theorem Sk(h:256<=n):n.log2=(n/256).log2+8:=LV 8 h
theorem Sm(h:n<256):n.log2<8:=by
 by_cases z:n=0
 .subst z;rw[Sn ∅];lia
 .exact(Nat.log2_lt z).mpr h
theorem FE(h:0<n):wid n=wid (n/256)+1:=by
 unfold wid;rw[gG ∅]
 by_cases z:n<256
 .have:=Sm z;rw[gE ∅];lia
 .rw[gG ∅,Sk ∅];lia
theorem Gb:∀(k n:Nat),n<256 ^ k->wid n<=k
 |0,n,h=>by
   have:n=0:=by simpa using h
   subst this;decide
 |k+1,n,h=>by
   by_cases z:n=0
   .subst z;exact un3 _
   .rw[FE ∅];have:=Gb k (n/256) (Nat.div_lt_of_lt_mul (by rw[um7] at h;lia));lia
theorem Rv(n:Nat):((Builtin.Int.intBits (n:Int):Nat)+7)/8=wid n:=by
 unfold Builtin.Int.intBits wid
 by_cases z:n=0
 .subst z;rfl
 .have:((n:Int)==0)=false:=by simp;exact z
  rw[this,gG (by simp),gG z,Int.natAbs_natCast];lia
noncomputable def nb:Nat->Nat->List D
 |0,_=>[]
 |w+1,n=>nb w (n/256)++[.int ((n%256:Nat):Int)]
theorem L4:∀w n,(nb w n).length=w
 |0,n=>rfl
 |w+1,n=>by rw[nb,ue8,L4];rfl
mutual
def AV:Sh->D->List D
 |.nothing,_=>[]
 |.number lo hi,d=>match d with
   |.int i=>nb (wid (hi-lo).toNat) (i-lo).toNat
   |_=>[]
 |.text _,d=>match d with
   |.str x=>.int (x.length:Nat)::x.cps.toList.map λn=>D.int (n:Nat)
   |_=>[]
 |.list s _,d=>match d with
   |.lst ds=>.int (ds.length:Nat)::(ds.map λd=>AV s d).flatten
   |_=>[]
 |.pair s r,d=>match d with
   |.tup [a,b]=>AV s a++AV r b
   |_=>[]
 |.choice ss,d=>match d with
   |.tup [_,.int k,x]=>.int k::IH ss k.toNat x
   |_=>[]
def IH:List Sh->Nat->D->List D
 |[],_,_=>[]
 |s::_,0,d=>AV s d
 |_::r,k+1,d=>IH r k d
end
theorem FH:∀(ss:List Sh) (k:Nat) (s:Sh) (d:D),ss[k]?=some s->IH ss k d=AV s d
 |[],k,s,d,h=>by simp at h
 |s::r,0,s',d,h=>by simp at h;subst h;simp[IH]
 |s::r,k+1,s',d,h=>by rw[IH];exact FH r k s' d (by simpa using h)
def DZ(f:Fn)(n:Nat):Prop:=∀(s:Sh),s.depth<=n->wf s=true->∀d,AU s d=true->(AV s d).length<=LIM->Pure1 f [s.d,d] (.lst (AV s d))
def IC(f:Fn):Prop:=∀(n j:Nat),j<=1000->Pure1 f [.int n,.int j] (.int ((n/2 ^ (8*j):Nat):Int))
theorem U9:IC (fnOf 2 2 Hb):=by
 intro n j hj S;refine Aw rfl ?_;unfold Hb;right;refine Dx (B9 (by decide) (by decide)) ?_;refine cI ∅ ?_;refine⟨?_,rfl⟩;have:(8*(j:Int)).toNat=8*j:=by lia
 rw[this];simp
def Ge(f:Fn):Prop:=∀n:Nat,n<256 ^ 9->Pure1 f [.int n] (.int (wid n:Nat))
theorem TD:Ge (fnOf 1 1 EX):=by
 intro n _ S;refine Aw rfl ?_;unfold EX;right;refine Z7 ?_;right;refine⟨?_,rfl⟩;rw[<-Rv];simp
theorem Nv:Ge (fnOf 1 2 Fk):=by
 intro n hb S;have hn:wid n<FG:=Nat.lt_of_le_of_lt (Gb 9 n hb) (by decide);refine Aw rfl ?_;unfold Fk;right;refine Ev (λk t=>∃m:Nat,k=wid m/\t=⟨[vw (.int m),vw (.int ((wid n-wid m:Nat):Int))],S⟩/\wid m<=wid n) ?_ FG (wid n) _ hn ⟨n,rfl,by rw[um8];rfl,un2 _⟩;rintro k t ⟨m,rfl,rfl,hm⟩;right
 by_cases z:0<m
 .rw[uk6 (by lia:(0:Int)<m)];refine⟨_,FE z,?_⟩;have:=FE z;right;refine⟨m/256,rfl,?_,by lia⟩;have e:((wid n-wid (m/256):Nat):Int)=((wid n-wid m:Nat):Int)+1:=by lia
  rw[e];rfl
 .have:m=0:=by lia
  subst this;rw[uk1 ∅];right;exact⟨by simp[wid],rfl⟩
variable{lo hi:Int}
theorem Kb(h:wf (.number lo hi)=true):(hi-lo).toNat<256 ^ 9:=by
 simp only[wf,uh3,ug6] at h;have:(256:Nat) ^ 9=4722366482869645213696:=by decide
 lia
theorem DM(a:Int)(n:Nat):(AQ a n).length=n:=by simp[AQ]
variable{j:Nat}
theorem E9{a:Int}{d:D}{r:List D}(e:d::r=(AQ a n).drop j):d=.int (a+j)/\r=(AQ a n).drop (j+1)/\j<n:=by
 have hj:j<(AQ a n).length:=by
  rcases Nat.lt_or_ge j (AQ a n).length with h|h
  .exact h
  .rw[List.drop_eq_nil_of_le h] at e;cases e
 rw[ub2 hj] at e;injection e with e1 e2
 rw[DM] at hj;refine⟨?_,e2,hj⟩;rw[e1];simp[AQ]
noncomputable def sgs:Str:=" !\"#$ &'()*+,-./0123456789:;<=>?@ABCDEFGHIJKLMNOPQRSTUVWXYZ[\\]^_`abcdefghijklmnopqrstuvwxyz{|}~"
theorem YJ{c:Nat}(h:A3 c=true):atI sgs.cps.toList ((c:Int)-32)=some c:=by
 have hl:sgs.cps.toList.length=95:=by decide +kernel
 have hall:(List.range 127).all (λc=>!A3 c||decide (sgs.cps.toList[c-32]?=some c))=true:=by decide +kernel
 have h':=h;simp only[A3,uh3,ug6] at h';have:=uh7.mp hall c (uk2.mpr ∅);rw[h,gb,ul4,ug6] at this;rw[show((c:Int)-32)=((c-32:Nat):Int) by lia];exact BV this
variable{h:D->M Out}{i:Nat}{g:M D}{n':Str}
section
variable{t:T}{P:D->T->Prop}{R:Out->T->Prop}
def Tv(h:D->M Out)(R:Out->T->Prop)(o:Out)(t1:T):Prop:=match o with
 |.ret (.exc n ds)=>n∈AY/\W (h (.exc n ds)) t1 R
 |o=>R o t1
theorem cL{b:M Out}(w:W b t (Tv h R)):W (Eo b h) t R:=by
 clear 5 w o t1 e q;have rest:∀d,Ba d=false->o=.ret d->W (Eo b h) t R:=λd hd ho=>by
  subst ho;refine⟨.ret d,t1,?_,?_⟩
  .unfold Eo;rw[e];cases d<;>first|rfl|cases hd
  .cases d<;>first|exact q|cases hd
 cases o with
 |next=>exact⟨.next,t1,by unfold Eo;rw[e],q⟩
 |brk=>exact⟨.brk,t1,by unfold Eo;rw[e],q⟩
 |cont=>exact⟨.cont,t1,by unfold Eo;rw[e],q⟩
 |ret d=>
   cases d with
   |exc n ds=>
     clear 5 q hn o2 t2 e2 q2;exact⟨o2,t2,by unfold Eo;rw[e];dsimp only;rw[gE hn,e2],q2⟩
   |_=>exact rest _ rfl rfl
set_option tactic.hygienic true in
theorem Q5{t1:T}(q:R .next t1):Tv h R .next t1:=q
theorem Wn{n:Str}{t1:T}(e:n∈AY)(q:W (h (.exc n ds)) t1 R):Tv h R (.ret (.exc n ds)) t1:=⟨e,q⟩
def xK(d:D)(A B:Prop):Prop:=if Ba d=true then A else B
theorem aJ{d:D}{A B:Prop}(e:Ba d=false)(b:B):xK d A B:=by unfold xK;rw[gG (by rw[e];decide)];exact b
theorem aI{d:D}{A B:Prop}(e:Ba d=true)(a:A):xK d A B:=by unfold xK;rw[gE e];exact a
set_option tactic.hygienic true
theorem aC(w:W f t λd t1=>xK d (R (.ret d) t1) (R .next ⟨t1.env.set i (vw d),t1.S⟩)):W (Dj i f) t R:=by
 refine CN (w.mono λd t1 q=>?_);unfold xK at q
 split at q
 .next h=>rw[gE h];exact⟨_,_,rfl,q⟩
 .next h=>rw[gG h];exact⟨_,_,rfl,q⟩
theorem YZ(w:W f t λd t1=>xK d (R (.ret d) t1) (R .next t1)):W (IS f) t R:=by
 refine CN (w.mono λd t1 q=>?_);unfold xK at q
 split at q
 .next h=>rw[gE h];exact⟨_,_,rfl,q⟩
 .next h=>rw[gG h];exact⟨_,_,rfl,q⟩
set_option tactic.hygienic false
theorem wNx(w:W f t λd t1=>Ba d=false/\P d t1):W (nxD f) t P:=by
 refine CN (w.mono λd t1 z9=>?_);clear 5 z9 h q;rw[gG (by rw[h];decide)];exact⟨_,_,rfl,q⟩
set_option tactic.hygienic true in
theorem Z8{h:D->M D}(w:W g t λy t1=>xK y (P y t1) (W (h y) t1 λd t2=>Ba d=false/\P d t2)):W (JD g h) t P:=by
 refine CN (w.mono λy t1 q=>?_);unfold xK at q
 split at q
 .next z=>rw[gE z];exact⟨_,_,rfl,q⟩
 .next z=>rw[gG z];exact wNx q
theorem Z6{h:D->D->M D}(w:W f t λx t1=>W (JD g (h x)) t1 P):W (Hw f g h) t P:=CN w
theorem Wy{n:Str}{f:M (List D)}(w:W f t λds t1=>ds.length<=1000/\R (.ret (.exc n [])) t1):W (Hk n f) t R:=
 CN (w.mono λds t1 ⟨e,q⟩=>by rw[gE e];exact⟨_,_,rfl,q⟩)
theorem Wz{n:Str}(w:W f t λ_ t1=>R (.ret (.exc n [])) t1):W (Hk n (Aa f Ad)) t R:=Wy (DP (w.mono λd t1 q=>IB ⟨by show 1<=1000;decide,q⟩))
theorem bT{n:Str}{s:M Out}{r:D->M Out}(e:Ck n n'=true)(w:W s {t with env:=t.env.set i (vw (.exc n ds))} λo t2=>R o (unE i t2)):W (hAs n' i s r (.exc n ds)) t R:=by
 clear 5 w o t2 e1 q;exact⟨o,unE i t2,by unfold hAs;dsimp only;rw[gE e,e1],q⟩
theorem bU{n:Str}{s:M Out}{r:D->M Out}(e:Ck n n'=true)(w:W s t R):W (hNo n' s r (.exc n ds)) t R:=by
 clear 5 w o t2 e1 q;exact⟨o,t2,by unfold hNo;dsimp only;rw[gE e,e1],q⟩
theorem ad{n:Str}{s:M Out}{r:D->M Out}(e:Ck n n'=false)(w:W (r (.exc n ds)) t R):W (hNo n' s r (.exc n ds)) t R:=by
 clear 5 w o t2 e1 q;exact⟨o,t2,by unfold hNo;dsimp only;rw[gG (by rw[e];decide),e1],q⟩
theorem ah{m n:Str}(e:m∈AY)(q:P (.bl (Ck m n)) t):W (FS n (.exc m ds)) t P:=⟨_,_,by unfold FS;dsimp only;rw[gE e];rfl,q⟩
theorem Z5{m n:Str}{d:D}(e:m∈AY)(l:((Ig m).zip ds).lookup n=some d)(q:P d t):W (Gg n (.exc m ds)) t P:=⟨_,_,by unfold Gg;dsimp only;rw[gE e,l];rfl,q⟩
end
theorem HU{n:Str}{R:Out->T->Prop}(w:W f t λa t1=>W g t1 λb t2=>R (.ret (.exc n [a,b])) t2):W (Cu n (Aa f (Aa g Ad))) t R:=
 CN (DP (w.mono λa t1 q=>DP (q.mono λb t2 q=>IB ⟨_,_,rfl,q⟩)))
local macro_rules | `(tactic| walk_at"x1")=>`(tactic| first
 |walk_at"w1" |clear 31 cL aC YZ wNx Z6 Z8 Q5|clear 33 Wn|clear 32 aJ|clear 32 aI|clear 31 Wz|clear 33 bT|clear 33 bU|clear 33 ad|clear 33 ah|((with_reducible refine' Z5 ?wv ?wu ?_);(case wv=>decide);(case wu=>exact rfl)))
local macro_rules | `(tactic| left)=>`(tactic| repeat (walk_at"x1"))
inductive Rd where
 |done (v:D)
 |need (ok:Nat->Bool) (nx:Nat->Rd)
inductive RR where
 |told (v:D) (a:Nat)
 |short
 |broken (a:Nat)
noncomputable def Rd.run:Rd->List Nat->Nat->RR
 |.done v,_,a=>.told v a
 |.need ok nx,w,a=>match w[a]? with
   |none=>.short
   |some b=>if ok b=true then(nx b).run w (a+1) else .broken a
noncomputable def Rd.bnd:Rd->(D->Rd)->Rd
 |.done v,k=>k v
 |.need ok nx,k=>.need ok λb=>(nx b).bnd k
def RR.thn(r:RR)(w:List Nat)(k:D->Rd):RR:=match r with
 |.told v a=>(k v).run w a
 |.short=>.short
 |.broken a=>.broken a
variable{w:List Nat}
theorem A1{ok:Nat->Bool}{nx:Nat->Rd}{a:Nat}(h:w[a]?=none):(Rd.need ok nx).run w a=.short:=by rw[Rd.run,h]
theorem AZ{ok:Nat->Bool}{nx:Nat->Rd}{a b:Nat}(h:w[a]?=some b):(Rd.need ok nx).run w a=if ok b=true then(nx b).run w (a+1) else .broken a:=by rw[Rd.run,h]
theorem Ca(k:D->Rd)(w:List Nat):∀(p:Rd) (a:Nat),(p.bnd k).run w a=(p.run w a).thn w k:=by
 intro p
 induction p with
 |done v=>intro a;rfl
 |need ok nx ih=>
   intro a;rw[Rd.bnd]
   cases h:w[a]? with
   |none=>rw[A1 h,A1 h];rfl
   |some b=>
     rw[AZ h,AZ h]
     by_cases q:ok b=true
     .rw[gE q,gE q];exact ih b (a+1)
     .rw[gG q,gG q];rfl
variable{v:D}
theorem HQ{b:Nat}:∀(p:Rd) (a:Nat),a<=w.length->p.run w a=.told v b->a<=b/\b<=w.length:=by
 intro p
 induction p with
 |done v'=>intro a ha h;cases h;exact⟨un2 _,ha⟩
 |need ok nx ih=>
   intro a ha h
   cases e:w[a]? with
   |none=>rw[A1 e] at h;cases h
   |some c=>
     rw[AZ e] at h;have hl:=(ub0.mp e).1
     by_cases q:ok c=true
     .rw[gE q] at h;have:=ih c (a+1) hl h;lia
     .rw[gG q] at h;cases h
noncomputable def DE(lo:Int)(M:Nat):Nat->Nat->Rd
 |0,x=>.done (.int (lo+x))
 |r+1,x=>.need (λb=>decide (x*256+b<=M/2 ^ (8*r))) λb=>DE lo M r (x*256+b)
def DF:Nat->List Nat->Rd
 |0,cs=>.done (.str ⟨cs.toArray⟩)
 |n+1,cs=>.need A3 λc=>DF n (cs++[c])
def EY(p:Rd):Nat->List D->Rd
 |0,ds=>.done (.lst ds)
 |n+1,ds=>p.bnd λv=>EY p n (ds++[v])
def pSh:Nat->Sh->Rd
 |0,_=>.done .non
 |_+1,.nothing=>.done .non
 |_+1,.number lo hi=>DE lo (hi-lo).toNat (wid (hi-lo).toNat) 0
 |_+1,.text q=>.need (λb=>decide ((b:Int)<=q)) λb=>DF b []
 |n+1,.list s q=>.need (λb=>decide ((b:Int)<=q)) λb=>EY (pSh n s) b []
 |n+1,.pair s r=>(pSh n s).bnd λv=>(pSh n r).bnd λu=>.done (.tup [v,u])
 |n+1,.choice ss=>.need (λb=>decide (b<ss.length)) λb=>(pSh n (ss.getD b .nothing)).bnd λv=>.done (.tup [.str "of",.int b,v])
mutual
noncomputable def plD:D->Bool
 |.lst xs=>pls xs
 |.tup xs=>pls xs
 |.obj _=>false
 |.scr _=>false
 |.ty _=>false
 |.exc _ _=>false
 |.dic=>false
 |_=>true
noncomputable def pls:List D->Bool
 |[]=>true
 |d::r=>plD d&&pls r
end
theorem RC{k:Int}(h0:0<=k)(h1:k<=xs.length):Cw xs none (some k)=xs.take k.toNat:=by
 have:HT.sIx xs.length xs.length (some k)=k.toNat:=by simp only[HT.sIx];rw[gG ∅];lia
 unfold Cw;rw[this];simp[HT.sIx]
noncomputable def pos(i:Int):Int:=if 0<i then i else 0
structure ValueRes2(k c l:Nat)(S:List Ob)(s:Sh)(a b:Int)(r:D)(S':List Ob):Prop where
 fit:AU s r=true
 lft:∃a' b':Int,S'[l]?=some (.lst [.int a',.int b'])/\((AV s r).length:Int)<=9*(a-a')+(pos b-pos b')/\pos b'<=pos b/\1<=a-a'/\a-a'<=cnt s+(14*(s.depth:Int))*pos a
 deck:DeckAt k c S'
 kp:N2 k c l S S'
mutual
noncomputable def szE:D->Nat
 |.lst xs=>1+Ts xs
 |.tup xs=>1+Ts xs
 |_=>1
noncomputable def Ts:List D->Nat
 |[]=>0
 |d::r=>szE d+Ts r
end
structure VOk(s:Sh)(v:D):Prop where
 fit:AU s v=true
 len:(AV s v).length<=14809
local macro_rules | `(tactic| walk_at"y1")=>`(tactic| first
 |walk_at"x1" |clear 31 HU)
local macro_rules | `(tactic| symm)=>`(tactic| repeat (walk_at"y1"))
local macro_rules
|`(tactic|rw[6,$f $a*])=>`(tactic|(refine $f $a* ?_;symm))
|`(tactic|rw[6,$f:ident])=>`(tactic|(refine $f ?_;symm))
|`(tactic|rw[7,$f $a*])=>`(tactic|(refine $f $a* ?_;right))
|`(tactic|rw[7,$f:ident])=>`(tactic|(refine $f ?_;right))
|`(tactic|rw[8,$f $a*])=>`(tactic|(refine $f $a* ?_;left))
|`(tactic|rw[8,$f:ident])=>`(tactic|(refine $f ?_;left))
|`(tactic|rw[6,$f:term])=>`(tactic|(refine $f ?_;symm))
|`(tactic|rw[7,$f:term])=>`(tactic|(refine $f ?_;right))
|`(tactic|rw[8,$f:term])=>`(tactic|(refine $f ?_;left))
|`(tactic|rw[9,$f:ident])=>`(tactic|(refine Aw rfl ?_;unfold $f:ident;symm))
noncomputable def wD(w:List Nat):List D:=w.map λ(n:Nat)=>D.int (n:Int)
theorem AF(w:List Nat):(wD w).length=w.length:=by unfold wD;rw[ui6]
theorem Es{a b:Nat}(h:w[a]?=some b):(wD w)[a]?=some (.int (b:Int)):=by unfold wD;rw[uf8,h];rfl
abbrev exS:D:=.exc "Short" []
abbrev exB(a:Nat):D:=.exc "Broken" [.int (a:Int),.non]
noncomputable def rrD:RR->D
 |.told v b=>.tup [v,.int (b:Int)]
 |.short=>exS
 |.broken a=>exB a
noncomputable def byX:Option Nat->D
 |none=>exS
 |some b=>.int (b:Int)
noncomputable def upX(m:Int)(a:Nat):Option Nat->D
 |none=>exS
 |some b=>if (b:Int)<=m then .int (b:Int) else exB a
def sgX(a:Nat):Option Nat->D
 |none=>exS
 |some c=>if A3 c=true then .str ⟨#[c]⟩ else exB a
def BX(f:Fn):Prop:=∀(w:List Nat) (a:Nat),Pure1 f [.lst (wD w),.int (a:Int)] (byX w[a]?)
theorem Za:BX (fnOf 2 2 Fj):=by
 intro w a S;refine Aw rfl ?_;unfold Fj;have hl:=AF w
 cases h:w[a]? with
 |none=>
   have:=ub3.mp h;symm;rw[6,Bj (uk6 ∅)];exact⟨rfl,rfl⟩
 |some b=>
   obtain⟨hj,_⟩:=ub0.mp h;symm;rw[6,Be (uk1 ∅)];refine AM (BV (Es h)) ?_;exact⟨rfl,rfl,rfl⟩
def UX(f:Fn):Prop:=∀(m:Int) (w:List Nat) (a:Nat),Pure1 f [.int m,.lst (wD w),.int (a:Int)] (upX m a w[a]?)
variable{c:Fn}
theorem ZZ(hc:BX c):UX (fnOf 3 4 (Ee c)):=by
 intro m w a S;refine Aw rfl ?_;unfold Ee;have hb:=hc w a
 cases h:w[a]? with
 |none=>
   rw[h,byX] at hb;symm;rw[6,hb.use];exact⟨rfl,rfl⟩
 |some b=>
   rw[h,byX] at hb;symm;rw[6,hb.use];rw[upX]
   by_cases q:(b:Int)<=m
   .rw[gE q];rw[6,Be (uk1 ∅)];exact⟨rfl,rfl,rfl⟩
   .rw[gG q];rw[6,Bj (uk6 ∅)];exact⟨rfl,rfl⟩
def SX(f:Fn):Prop:=∀(w:List Nat) (a:Nat),Pure1 f [.lst (wD w),.int (a:Int)] (sgX a w[a]?)
variable{cb:Fn}
theorem ZP{cs:Fn}(hs:Ld cs)(hb:BX cb):SX (fnOf 2 3 (Fl cs cb)):=by
 intro w a S;refine Aw rfl ?_;unfold Fl;have hb:=hb w a
 cases h:w[a]? with
 |none=>
   rw[h,byX] at hb;symm;rw[6,hb.use];exact⟨rfl,rfl⟩
 |some c=>
   rw[h,byX] at hb;symm;rw[6,hb.use];refine(hs c).use ?_;rw[sgX]
   by_cases q:A3 c=true
   .rw[gE q,q];symm;refine W_ix_str.mpr ⟨by decide +kernel,c,YJ q,?_⟩;exact⟨rfl,rfl,rfl⟩
   .have q':A3 c=false:=by simpa using q
    rw[gG q,q'];symm;exact⟨rfl,rfl⟩
variable{cl:Fn}
theorem ZK{cw:Fn}(hl:IC cl)(hb:BX cb)(hw:Ge cw){lo hi:Int}(hwf:wf (.number lo hi)=true)(w:List Nat)(a:Nat):Pure1 (fnOf 3 7 (CH cl cb cw)) [(Sh.number lo hi).d,.lst (wD w),.int (a:Int)] (rrD ((DE lo (hi-lo).toNat (wid (hi-lo).toNat) 0).run w a)):=by
 intro S;have hsp:=Kb hwf;have hwd:=Gb 9 _ hsp;refine Aw rfl ?_;unfold CH;rw[Sh.d];have em:hi-lo=(((hi-lo).toNat:Nat):Int):=by
  simp only[wf,uh3,ug6] at hwf;lia
 have hww:=λS P p=>(hw (hi-lo).toNat hsp).use (S:=S) (P:=P) p;rw[<-em] at hww;generalize (hi-lo).toNat=M at *;generalize hW:wid M=n at *;symm;refine hww _ _ ?_;rw[em];symm;refine Dm (Bx ∅ ∅) ?_;refine Dn (λr t=>XN3 λ(j x:Nat) (e6:Option Sl)=>AN4 (j<=n) (r=(AQ 0 ((n:Nat):Int).toNat).drop j) ((DE lo M n 0).run w a=(DE lo M (n-j) x).run w (a+j)) (t=⟨[vw (.tup [.str "number",.int lo,.int hi]),vw (.lst (wD w)),vw (.int a),vw (.int M),vw (.int n),vw (.int x),e6],S⟩)) _ _ ⟨0,0,none,un3 _,rfl,rfl,rfl⟩ ?_ ?_
 .rintro d r t ⟨j,x,e6,hj,hr,hrun,rfl⟩ _;clear 5(E9 hr)rfl hr' hjn;rw[uf9] at hjn;rw[um9];obtain⟨e,he⟩:∃e,n-j=e+1:=⟨n-j-1,by lia⟩;rw[he,DE] at hrun;have hby:=hb w (a+j);symm;rw[6,Dx (Vj (by decide) (by decide))];rw[show((a:Int)+(j:Int))=((a+j:Nat):Int) by lia]
  cases h:w[a+j]? with
  |none=>
    rw[h,byX] at hby;rw[A1 h] at hrun;rw[6,hby.use];exact⟨by rw[hrun];rfl,rfl⟩
  |some b=>
    rw[h,byX] at hby;rw[AZ h] at hrun;rw[6,hby.use];refine⟨rfl,?_⟩;symm;rw[show((n:Int)-1-(j:Int))=((e:Nat):Int) by lia,show((x:Int)*256+(b:Int))=((x*256+b:Nat):Int) by lia];rw[6,(hl M e ∅).use]
    by_cases q:x*256+b<=M/2 ^ (8*e)
    .rw[gE (uk6 q)] at hrun;rw[6,Be (uk1 ∅)];exact⟨j+1,x*256+b,_,hjn,hr',by rw[show n-(j+1)=e by lia,hrun,ul5],rfl⟩
    .rw[gG (by rw[ug6];exact q)] at hrun;rw[6,Bj (uk6 ∅)];exact⟨by rw[hrun];rfl,rfl⟩
 .rintro t ⟨j,x,e6,hj,hr,hrun,rfl⟩;have hj':j=n:=by
   have:=gu List.length hr;rw[uj5,uh2,DM,uf9] at this;lia
  subst hj';rw[um8,DE,Rd.run] at hrun;symm;exact⟨rfl,by rw[hrun];rfl,rfl⟩
variable{cu:Fn}
theorem Yz{ca:Fn}(ha:SX ca)(hu:UX cu){q:Int}(hwf:wf (.text q)=true)(n:Nat)(w:List Nat)(a:Nat):Pure1 (fnOf 3 7 (Dv ca cu)) [(Sh.text q).d,.lst (wD w),.int (a:Int)] (rrD ((pSh (n+1) (.text q)).run w a)):=by
 intro S;have hL:LIM=100000:=rfl;refine Aw rfl ?_;unfold Dv;rw[Sh.d,pSh];simp only[wf,uh3,ug6] at hwf;have hup:=hu q w a;symm
 cases h:w[a]? with
 |none=>
   rw[h,upX] at hup;rw[A1 h];rw[6,hup.use];exact⟨rfl,rfl⟩
 |some b=>
   rw[h,upX] at hup;rw[AZ h]
   by_cases hb:(b:Int)<=q
   .rw[gE hb] at hup;rw[gE (uk6 hb)];rw[6,hup.use];refine Dm (Bx ∅ ∅) ?_;refine Dn (λr t=>XN3 λ(j:Nat) (y:Str) (e6:Option Sl)=>AN5 (j<=b) (r=(AQ 0 ((b:Nat):Int).toNat).drop j) (y.cps.toList.length=j) ((DF b []).run w (a+1)=(DF (b-j) y.cps.toList).run w (a+1+j)) (t=⟨[vw (.tup [.str "text",.int q]),vw (.lst (wD w)),vw (.int a),vw (.int b),vw (.int ((a:Int)+1)),vw (.str y),e6],S⟩)) _ _ ⟨0,Str.ofString "",none,un3 _,rfl,by decide +kernel,by rw[Nat.sub_zero,gh,show(Str.ofString "").cps.toList=[] by decide +kernel],rfl⟩ ?_ ?_
    .rintro d r t ⟨j,y,e6,hj,hr,hyl,hrun,rfl⟩ _;clear 5(E9 hr)rfl hr' hjn;rw[uf9] at hjn;rw[um9];obtain⟨e,he⟩:∃e,b-j=e+1:=⟨b-j-1,by lia⟩;rw[he,DF] at hrun;have hsg:=ha w (a+1+j);symm;rw[show((a:Int)+1+(j:Int))=((a+1+j:Nat):Int) by lia]
     cases h2:w[a+1+j]? with
     |none=>
       rw[h2,sgX] at hsg;rw[A1 h2] at hrun;rw[6,hsg.use];exact⟨by rw[hrun];rfl,rfl⟩
     |some c=>
       rw[h2,sgX] at hsg;rw[AZ h2] at hrun
       by_cases hc:A3 c=true
       .rw[gE hc] at hsg hrun;rw[6,hsg.use];refine AO (by rw[G0 y,hyl,hL];show j+1<=_;lia) ?_;refine⟨rfl,?_⟩;symm;refine⟨j+1,_,_,hjn,hr',?_,?_,rfl⟩
        .rw[Kg,ue8,hyl];rfl
        .rw[hrun,Kg,show b-(j+1)=e by lia,ul5 (a+1)]
       .rw[gG hc] at hsg hrun;rw[6,hsg.use];exact⟨by rw[hrun];rfl,rfl⟩
    .rintro t ⟨j,y,e6,hj,hr,hyl,hrun,rfl⟩;have hj':j=b:=by
      have:=gu List.length hr;rw[uj5,uh2,DM,uf9] at this;lia
     subst hj';rw[um8,DF,Rd.run] at hrun;have ey:(⟨y.cps.toList.toArray⟩:Str)=y:=Wk (by simp);rw[ey] at hrun;symm;refine⟨rfl,?_,rfl⟩;rw[hrun,rrD,show((a:Int)+1+(j:Int))=((a+1+j:Nat):Int) by lia]
   .rw[gG hb] at hup;rw[gG (by rw[ug6];exact hb)];rw[6,hup.use];exact⟨rfl,rfl⟩
def RX(c:Fn)(s:Sh)(p:Rd):Prop:=∀(w:List Nat) (a:Nat),a<=w.length->Pure1 c [s.d,.lst (wD w),.int (a:Int)] (rrD (p.run w a))
variable{kvs:List (Key×D)}
theorem AE{d:D}(e:t.S[n]?=some (.dct kvs))(e2:Bf kvs (.inr x)=some d)(h:P d t):W (AG (.obj n) (.str x)) t P:=
 ⟨d,t,by simp only[AG,e,e2];rfl,h⟩
variable{U:Unit->T->Prop}
theorem Jw{d:D}(h:W f t λo t1=>W g t1 λi t2=>W (Ga o i d) t2 U):W (Cm f g d) t U:=CN (h.mono λo t1 h1=>CN h1)
theorem BG{d:D}(e:t.S[n]?=some (.dct kvs))(hl:kvs.length<LIM)(h:U () ⟨t.env,t.S.set n (.dct (kvPut kvs (.inr x) d))⟩):W (Ga (.obj n) (.str x) d) t U:=
 ⟨(),_,by simp only[Ga,e,gE hl],h⟩
theorem ML{xs0:List D}(e:t.env[i]?=some (some (.own xs0)))(h:W g t λj t1=>∃n xs d,j=.int n/\t1.env[i]?=some (some (.own xs))/\atI xs n=some d/\P d t1):W (EM i g) t P:=by
 clear 5 h j t1 e1 n xs d rfl e2 e3 p;refine⟨d,t1,?_,p⟩;unfold EM;simp only[e];show bnd g _ t=_;unfold bnd;simp only[e1,e2,e3];rfl
theorem Rc{d:D}{xs0:List D}(e:t.env[i]?=some (some (.own xs0)))(h:W g t λj t1=>∃n xs k,j=.int n/\t1.env[i]?=some (some (.own xs))/\ixN xs.length n=some k/\U () {t1 with env:=t1.env.set i (some (.own (xs.set k d)))}):W (GB i g d) t U:=by
 clear 5 h j t1 e1 n xs k rfl e2 e3 p;refine⟨(),_,?_,p⟩;unfold GB;simp only[e];show bnd g _ t=_;unfold bnd;simp only[e1,e2,e3];rfl
theorem O4{l:List (Str×M D)}(h:W (DJ l) ⟨t.env,t.S++[.dct []]⟩ λps t1=>t1.S[t.S.length]?=some (.dct [])/\ps.length<=15/\P (.obj t.S.length) ⟨t1.env,t1.S.set t.S.length (.dct (D3 ps))⟩):W (Dp l) t P:=by
 clear 5 h ps t1 e1 e2 e3 p;refine⟨_,_,?_,p⟩;unfold Dp bnd;simp only[e1];unfold E8;simp only[e2,gE e3]
theorem Hq{Q:List (Key×D)->T->Prop}(h:Q [] t):W (DJ []) t Q:=⟨_,_,rfl,h⟩
theorem Cg{k:Str}{r:List (Str×M D)}{Q:List (Key×D)->T->Prop}(h:W f t λd t1=>W (DJ r) t1 λps t2=>Q ((.inr k,d)::ps) t2):W (DJ ((k,f)::r)) t Q:=
 CN (h.mono λd t1 h1=>CN (h1.mono λps t2 h2=>⟨_,_,rfl,h2⟩))
structure St where
 rest:Int
 mixed:Bool
 turn:Int
noncomputable def St.ob(s:St):Ob:=.dct [(.inr (Str.ofString "rest"),.int s.rest),(.inr (Str.ofString "mixed"),.bl s.mixed),(.inr (Str.ofString "turn"),.int s.turn)]
noncomputable def take(s:St)(m:Int):Int×St:=
 if s.mixed=false then(s.rest%m,⟨s.rest/m,s.mixed,s.turn⟩)
 else
  let stir:=(s.rest%2147483579+70001*(s.turn+1))%2147483579
  let rest:=(stir*stir%2147483563*50021+7)%2147483579
  (rest/5%m,⟨rest,s.mixed,s.turn+1⟩)
theorem Iu(a:Int)(n:Nat):(AQ a n).length=n:=by simp[AQ]
inductive GS where
 |fin
 |st (side:Str) (ws:List (Str×Sh×Int))
def wdD(w:Str×Sh×Int):D:=.tup [.str w.1,w.2.1.d,.int w.2.2]
def GS.d:GS->D
 |.fin=>.tup [.str (Str.ofString "end")]
 |.st side ws=>.tup [.str side,.lst (ws.map wdD)]
noncomputable def GS.isFin:GS->Bool
 |.fin=>true
 |_=>false
structure WOk(n:Int)(w:Str×Sh×Int):Prop where
 ok:wf w.2.1=true
 dep:w.2.1.depth<=3
 lo:0<=w.2.2
 hi:w.2.2<n
 nm:w.1.length<=90000
inductive GSOk(n:Int):GS->Prop
 |fin:GSOk n .fin
 |st {side:Str}{ws:List (Str×Sh×Int)}:(side=Str.ofString "left"\/side=Str.ofString "right")->0<ws.length->ws.length<=9->(ws.map (·.1)).Nodup->(∀w∈ws,WOk n w)->GSOk n (.st side ws)
structure GOk(g:List GS):Prop where
 ne:0<g.length
 le:g.length<=30
 all:∀x∈g,GSOk g.length x
def Jy(f:Fn):Prop:=∀(n:Int) (x:GS),GSOk n x->Pure1 f [x.d] (.bl x.isFin)
theorem P3:Jy (fnOf 1 1 Ii):=by
 intro n x hx S;refine Aw rfl ?_;unfold Ii
 cases hx with
 |fin=>
   rw[GS.d];right;exact⟨by simp[GS.isFin],rfl⟩
 |st hs _ _ _ _=>
   rw[GS.d];right;refine⟨?_,rfl⟩;rcases hs with rfl|rfl<;>simp[GS.isFin]
def GS.words:GS->D
 |.fin=>.tup []
 |.st _ ws=>.lst (ws.map wdD)
noncomputable def GS.ws:GS->List (Str×Sh×Int)
 |.fin=>[]
 |.st _ ws=>ws
variable{α:Type}
theorem LG{p:α->Bool}{l:List α}(h:∀i (hi:i<l.length),i<j->p l[i]=false){x:α}(hx:l[j]?=some x)(hp:p x=true):l.findIdx? p=some j:=by
 clear 5(ub0.mp hx)hj e;rw[ua0];exact⟨hj,by rw[e];exact hp,λi hi=>by simpa using h i ∅ hi⟩
theorem Do:eqN n (.str x) (.str x)=some true:=by
 cases n<;>(show some (x==x)=some true;rw[ui3])
theorem Hu{x:Int}:eqN n (.int x) (.int x)=some true:=by
 cases n<;>(show some (x==x)=some true;rw[ui3])
theorem CV(h:∀x∈xs,eqN n x x=some true):eqN (n+1) (.tup xs) (.tup xs)=some true:=by
 rw[eqN,EL h];simp
theorem Ux(h:∀x∈xs,eqN n x x=some true):eqN (n+1) (.lst xs) (.lst xs)=some true:=by
 rw[eqN,gE rfl,EL h]
theorem GR:∀(n:Nat) (s:Sh),s.depth<=n->∀m,2*n<=m->eqN m s.d s.d=some true
 |0,s,h,_,_=>absurd s.depth_pos ∅
 |n+1,s,h,m,hm=>by
   obtain⟨m,rfl⟩:∃k,m=k+2:=fh ∅
   cases s with
   |nothing=>rw[Sh.d];exact CV (by simp[Do])
   |number lo hi=>rw[Sh.d];exact CV (by simp[Do,Hu])
   |text q=>rw[Sh.d];exact CV (by simp[Do,Hu])
   |list s q=>
     rw[Sh.depth] at h;have:=GR n s ∅ (m+1) ∅;rw[Sh.d];exact CV (by simp[Do,Hu,this])
   |pair s r=>
     rw[Sh.depth] at h;have h1:=GR n s ∅ (m+1) ∅;have h2:=GR n r ∅ (m+1) ∅;rw[Sh.d];exact CV (by simp[Do,h1,h2])
   |choice ss=>
     rw[Sh.depth] at h;have h1:eqN (m+1) (.tup (shD ss)) (.tup (shD ss))=some true:=CV λx hx=>by
      clear 5(Mz hx)s hs rfl;exact GR n s (um0 (FM hs) ∅) m ∅
     rw[Sh.d];exact CV (by simp[Do,h1])
theorem W5{n:Int}{x:GS}(h:GSOk n x){m:Nat}(hm:9<=m):eqN m x.d x.d=some true:=by
 obtain⟨m,rfl⟩:∃k,m=k+3:=fh ∅
 cases h with
 |fin=>rw[GS.d];exact CV (by simp[Do])
 |@st side ws h1 h2 h3 h4 h5=>
   have hw:eqN (m+2) (.lst (ws.map wdD)) (.lst (ws.map wdD))=some true:=Ux λx hx=>by
    clear 5(un0.mp hx)w hw rfl;unfold wdD;exact CV (by simp[Do,Hu,GR 3 w.2.1 (h5 w hw).dep m ∅])
   rw[GS.d];exact CV (by simp[Do,hw])
noncomputable def GS.side:GS->Str
 |.fin=>Str.ofString "end"
 |.st s _=>s
noncomputable def Bd(g:List GS)(q:Nat):GS:=g.getD q .fin
def B7(g:List GS)(q p:Nat):Str×Sh×Int:=(Bd g q).ws.getD p (Str.ofString "",.nothing,0)
def C6(g:List GS)(q p:Nat):Nat:=(B7 g q p).2.2.toNat
def bt(g:List GS)(q p:Nat)(v:D):D:=.tup [.str (Bd g q).side,.str (B7 g q p).1,v]
abbrev Mv:=Nat×D
def Jf(g:List GS):Nat->List Mv->Nat
 |q,[]=>q
 |q,(p,_)::r=>Jf g (C6 g q p) r
def T1(g:List GS):Nat->List Mv->List D
 |_,[]=>[]
 |q,(p,v)::r=>bt g q p v::T1 g (C6 g q p) r
structure MvOk(g:List GS)(q:Nat)(p:Nat)(v:D):Prop where
 lt:q<g.length
 pl:p<(Bd g q).ws.length
 fit:AU (B7 g q p).2.1 v=true
def okQ(g:List GS):Nat->List Mv->Prop
 |_,[]=>True
 |q,(p,v)::r=>MvOk g q p v/\okQ g (C6 g q p) r
theorem JR{g:List GS}(h:GOk g){q:Nat}(hq:q<g.length):GSOk g.length (Bd g q):=by
 unfold Bd;rw[ua9,ub4 hq];exact h.all _ (ui0 hq)
theorem Ih{g:List GS}{q:Nat}(hq:q<g.length):atI (g.map GS.d) q=some (Bd g q).d:=by
 unfold atI;rw[Cq ∅ (by rw[ui6];lia)];show(g.map GS.d)[(q:Int).toNat]?=_;unfold Bd;rw[uf9,uf8,ua9,ub4 hq];rfl
variable{p:Nat}
theorem OZ{g:List GS}{q:Nat}(hp:p<(Bd g q).ws.length):∃side ws,Bd g q=.st side ws/\p<ws.length/\ws[p]?=some (B7 g q p):=by
 unfold B7
 cases e:Bd g q with
 |fin=>rw[e] at hp;simp[GS.ws] at hp
 |st side ws=>
   rw[e] at hp;have hp:p<ws.length:=hp;refine⟨side,ws,rfl,hp,?_⟩;show ws[p]?=some (ws.getD p _);rw[ua9,ub4 hp];rfl
theorem Hr{ws:List (Str×Sh×Int)}{w:Str×Sh×Int}(e:ws[p]?=some w):atI (ws.map wdD) p=some (wdD w):=by
 obtain⟨hp,_⟩:=ub0.mp e;unfold atI;rw[Cq ∅ (by rw[ui6];lia)];show(ws.map wdD)[(p:Int).toNat]?=_;rw[uf9,uf8,e];rfl
theorem Pb{g:List GS}(h:GOk g){q p:Nat}(hq:q<g.length)(hp:p<(Bd g q).ws.length):WOk g.length (B7 g q p):=by
 clear 5(OZ hp)side ws e hp' e2;have:=JR h hq;rw[e] at this
 cases this with
 |st _ _ _ _ h5=>exact h5 _ (ud6 e2)
theorem Ol{ws:List (Str×Sh×Int)}(nd:(ws.map (·.1)).Nodup){p:Nat}{w:Str×Sh×Int}(e:ws[p]?=some w):(ws.findIdx? λx=>x.1==w.1)=some p:=by
 clear 5(ub0.mp e)hp ep;refine LG (λi hi hip=>?_) e (by simp);rw[<-ep];have hne:¬ws[i].1=ws[p].1:=λz=>by
  have h1:i<(ws.map (·.1)).length:=by rw[ui6];exact hi
  have h2:p<(ws.map (·.1)).length:=by rw[ui6];exact hp
  have:(ws.map (·.1))[i]=(ws.map (·.1))[p]:=by rw[List.getElem_map,List.getElem_map];exact z
  have:=(ug8 nd).mp this;lia
 simpa using hne
abbrev kR:Key:=.inr (Str.ofString "rest")
abbrev kM:Key:=.inr (Str.ofString "mixed")
abbrev kC:Key:=.inr (Str.ofString "count")
abbrev ZF(a b c:D):List (Key×D):=[(kR,a),(kM,b),(kC,c)]
def Room(k r:Nat)(S:List Ob):Prop:=∃(a c:Int) (b:Bool),S[k]?=some (.dct (ZF (.int a) (.bl b) (.int c)))/\0<=c/\c+r<=1000000000000000000000000000000
theorem O7{i j:Int}(h1:i.natAbs<2 ^ 512)(h2:j.natAbs<2 ^ 512)(h:P (.int (i*j)) t):W (Ik (.int i) (.int j)) t P:=
 ⟨_,_,by simp only[Ik,i2C,LY,uk6 h1,uk6 h2];rfl,h⟩
theorem Uh{i j:Int}(h1:0<j)(h2:j<18446744073709551616)(h:P (.int (i/j)) t):W (Hz (.int i) (.int j)) t P:=
 ⟨_,_,by simp only[Hz,i2C,LA,uk6 h1,uk6 h2];rfl,h⟩
theorem Jg{i:Int}(h0:0<=i)(h:i<10000000000000000000000000000000000000000000000000000000000000000000000000000000):i.natAbs<2 ^ 512:=by
 have:(10000000000000000000000000000000000000000000000000000000000000000000000000000000:Nat)<=2 ^ 512:=by decide
 lia
theorem AK{k:Nat}{o':Ob}(h:S[k]?=some o):(S.set k o')[k]?=some o':=Nh h
theorem AS{x:Ob}:(S++[x])[S.length]?=some x:=by simp
noncomputable def cs:Nat->Nat
 |0=>10
 |d+1=>10+3*cs d
theorem Zc(d:Nat):10<=cs d:=by cases d<;>simp[cs]
variable{m:Nat}
theorem Fy(h:n<=m)(hm:autoParam (m<=1000) q1T):Bw (n:Int)=true:=Bx ∅ ∅
theorem LS{l:List α}{x:α}(h:l.length+(m+1)=n):(l++[x]).length+m=n:=by rw[ue8,<-h];simp only[ug9,uj5];lia
theorem Ve{l:List α}{x:α}{p:α->Prop}(h:∀y∈l,p y)(hx:p x):∀y∈l++[x],p y:=λy hy=>by
 rcases ui4.mp hy with h'|h'
 .exact h y h'
 .rw[uf0] at h';subst h';exact hx
theorem Qb{a:Nat}(h:a<=n)(hn:autoParam (n<=100000) q1T):a<=LIM:=um0 h hn
variable{ss:List Sh}
theorem aZ(h:∀x∈ss,x.depth<=n):(Sh.choice ss).depth<=n+1:=by
 rw[Sh.depth];refine Nat.succ_le_succ ?_
 induction ss with
 |nil=>rw[E7];exact un3 _
 |cons x r ih=>rw[E7];exact Nat.max_le.mpr ⟨h x ue4,ih λy m=>h y (ud3 _ m)⟩
structure Drawn(k r:Nat)(dp:Nat)(v:D)(S':List Ob):Prop where
 ex:∃s:Sh,v=s.d/\s.depth<=dp/\wf s=true
 pool:Room k r S'
variable{s:Sh}{q:Int}
theorem ba(h:(Sh.list s q).depth<=m+1):s.depth<=m:=by rw[Sh.depth] at h;exact fq h
theorem W3{a b:Sh}(h:(Sh.pair a b).depth<=m+1):a.depth<=m/\b.depth<=m:=by rw[Sh.depth] at h;lia
theorem a9(h:(Sh.choice ss).depth<=m+1):∀x∈ss,x.depth<=m:=λx hx=>by rw[Sh.depth] at h;exact um0 (FM hx) (fq h)
theorem ZM{k:Nat}(h:k<ss.length):atI (shD ss) (k:Int)=some (ss[k]).d:=by
 unfold atI;rw[Cq ∅ (by rw[EG];lia)];show(shD ss)[(k:Int).toNat]?=_;rw[uf9,Fb,ub4 h];rfl
theorem UM{A v b l c:Nat}(h:A+b*(l+1)<=c)(hv:v<=b):A+v+b*l<=c:=by rw[Nat.mul_succ] at h;lia
theorem XY(h:wf (.number lo hi)=true):lo<=hi/\0<hi-lo+1/\hi-lo+1<4611686018427387904/\wid (hi-lo).toNat<=8:=by
 simp only[wf,uh3,ug6] at h;refine⟨by lia,by lia,by lia,Gb 8 _ ?_⟩;have:(256:Nat) ^ 8=18446744073709551616:=by decide
 lia
theorem Vo{g:Int}(z0:0<=g)(z1:g<hi-lo+1):lo<=lo+g/\lo+g<=hi:=by lia
theorem T0{g:Int}(c:Nat)(g0:0<=g)(q0:0<=q)(g1:g<(c:Int)+1):∃m:Nat,(if g<q then g else q)=m/\m<=c/\(m:Int)<=q:=⟨(if g<q then g else q).toNat,by split<;>lia⟩
structure Val(k r:Nat)(s:Sh)(c:Nat)(v:D)(S':List Ob):Prop where
 fit:AU s v=true
 len:(AV s v).length<=c
 pool:Room k r S'
def okB(g:List GS):Nat->List Mv->Prop
 |_,[]=>True
 |q,(p,v)::r=>(AV (B7 g q p).2.1 v).length<=400/\okB g (C6 g q p) r
structure TOk(g:List GS)(mv:List Mv):Prop where
 ok:okQ g 0 mv
 bd:okB g 0 mv
 len:mv.length<=60
theorem O8{k:Nat}{h:List D->List D->Option (List D)}{g:M (List D)}(w:W f t λo t1=>o=.obj k/\∃xs0,t1.S[k]?=some (.lst xs0)/\W g t1 λds t2=>∃xs ys,t2.S[k]?=some (.lst xs)/\h xs ds=some ys/\P .non ⟨t2.env,t2.S.set k (.lst ys)⟩):W (objM h f g) t P:=by
 unfold objM;refine W_bnd.mpr (w.mono λo t1 z9=>?_);clear 5 z9 e xs0 e1 w;subst e;clear 5 w ds t2 e2 xs ys e3 e4 p;refine⟨_,_,?_,p⟩;simp only[e1,bnd,e2,e3,e4];rfl
def GD(g:List GS)(sd:Str):Nat->List Mv->List D
 |_,[]=>[]
 |q,(p,v)::r=>(if (Bd g q).side=sd then .int p::AV (B7 g q p).2.1 v else [])++GD g sd (C6 g q p) r
abbrev kL:Key:=.inr (Str.ofString "left")
abbrev kRt:Key:=.inr (Str.ofString "right")
theorem kLR:¬kL=kRt:=by intro h;injection h with h;rw[He] at h;exact absurd h (by decide)
theorem kRL:¬kRt=kL:=λh=>kLR h.symm
theorem sLR:¬Str.ofString "left" = Str.ofString "right":=λh=>kLR (gu Sum.inr h)
variable{a b:D}
theorem Nt:Bf [(kL,a),(kRt,b)] kL=some a:=by simp[Bf,uj4]
theorem Nu:Bf [(kL,a),(kRt,b)] kRt=some b:=by
 unfold Bf;rw[uj4,show decide (kL=kRt)=false from uk1 kLR];simp[uj4]
theorem So:D3 [(kL,a),(kRt,b)]=[(kL,a),(kRt,b)]:=by
 unfold D3;simp only[uj2,List.foldl_nil];have e1:kvPut [] kL a=[(kL,a)]:=by simp[kvPut]
 rw[e1];unfold kvPut;rw[gG (by simp only[ul2,List.any_nil,ul0,ug6];exact kLR)];rfl
theorem Vb{d:D}:kvPut [(kL,a),(kRt,b)] kL d=[(kL,d),(kRt,b)]:=by
 unfold kvPut;rw[gE (by simp)];simp only[uk9,um4,gC,gG kRL]
theorem Vc{d:D}:kvPut [(kL,a),(kRt,b)] kRt d=[(kL,a),(kRt,d)]:=by
 unfold kvPut;rw[gE (by simp)];simp only[uk9,um4,gC,gG kLR]
abbrev sL:Str:=Str.ofString "left"
abbrev sR:Str:=Str.ofString "right"
structure Wr(K A B:Nat)(S:List Ob)(xs ys:List D):Prop where
 k:S[K]?=some (.dct [(kL,.obj A),(kRt,.obj B)])
 a:S[A]?=some (.lst xs)
 b:S[B]?=some (.lst ys)
 ab:A≠B
 ka:K≠A
 kb:K≠B
def FrO(F:List (Nat×Ob))(k:Nat)(S:List Ob):Prop:=∀p∈F,p.1≠k/\S[p.1]?=some p.2
def Y9(F:List (Nat×Ob))(k r:Nat)(S:List Ob):Prop:=Room k r S/\FrO F k S
structure ValF(F:List (Nat×Ob))(k r:Nat)(s:Sh)(c:Nat)(v:D)(S':List Ob):Prop where
 fit:AU s v=true
 len:(AV s v).length<=c
 pool:Y9 F k r S'
noncomputable def GS.sd:GS->Str
 |.fin=>Str.ofString "end"
 |.st s _=>s
inductive Odd(x:GS):D->Prop
 |non:Odd x .non
 |lst {ds:List D}:Odd x (.lst ds)
 |two {a b:D}:Odd x (.tup [a,b])
 |four {a b c d:D}:Odd x (.tup [a,b,c,d])
 |sideN {b c:D}:Odd x (.tup [.non,b,c])
 |side {s:Str}{b c:D}:¬s=x.sd->Odd x (.tup [.str s,b,c])
 |nmN {s:Str}{c:D}:Odd x (.tup [.str s,.non,c])
 |nmI {s:Str}{i:Int}{c:D}:Odd x (.tup [.str s,.int i,c])
 |nm {s nm:Str}{c:D}:(x.ws.findIdx? λw=>w.1==nm)=none->Odd x (.tup [.str s,.str nm,c])
 |val {s nm:Str}{c:D}{p:Nat}{w:Str×Sh×Int}:(x.ws.findIdx? λw=>w.1==nm)=some p->x.ws[p]?=some w->okD c=true->AU w.2.1 c=false->Odd x (.tup [.str s,.str nm,c])
def Rq(n:Nat)(d:D):Prop:=∀m,n<=m->eqN m d d=some true
theorem Jr{i:Int}:Rq n (.int i):=λm _=>by cases m<;>(show some (i==i)=some true;rw[ui3])
theorem OS{i:Bool}:Rq n (.bl i):=λm _=>by cases m<;>(show some (i==i)=some true;rw[ui3])
theorem QO{i:Str}:Rq n (.str i):=λm _=>by cases m<;>(show some (i==i)=some true;rw[ui3])
theorem QN:Rq n .non:=λm _=>by cases m<;>rfl
theorem Yy(h:∀x∈xs,Rq n x):Rq (n+1) (.tup xs):=λm hm=>by
 obtain⟨k,rfl⟩:∃k,m=k+1:=fh ∅;have e:C9 (eqN k) xs xs=some true:=EL λx hx=>h x hx k ∅;rw[eqN,e];simp
theorem Fv(h:∀x∈xs,Rq n x):Rq (n+1) (.lst xs):=λm hm=>by
 obtain⟨k,rfl⟩:∃k,m=k+1:=fh ∅;rw[eqN,gE rfl];exact EL λx hx=>h x hx k ∅
structure Mis(n:Nat)(s:Sh)(v:D):Prop where
 ok:okD v=true
 no:AU s v=false
 rq:Rq n v
structure Fit(n:Nat)(s:Sh)(v:D):Prop where
 ok:okD v=true
 fit:AU s v=true
 rq:Rq n v
def Gr(S S':List Ob):Prop:=S.length<=S'.length/\∀i,i<S.length->S'[i]?=S[i]?
theorem Gr.refl:Gr S S:=⟨un2 _,λ_ _=>rfl⟩
theorem Gr.trans{S S1 S2:List Ob}(a:Gr S S1)(b:Gr S1 S2):Gr S S2:=⟨um0 a.1 b.1,λi h=>(b.2 i (ue3 h a.1)).trans (a.2 i h)⟩
theorem Gr.app{ex:List Ob}:Gr S (S++ex):=⟨by rw[ue8];lia,λi h=>ub1 h⟩
theorem Gr.set{S S':List Ob}{k:Nat}{o:Ob}(a:Gr S S')(h:S.length<=k):Gr S (S'.set k o):=⟨by rw[uj1];exact a.1,λi hi=>by rw[ud5 ∅];exact a.2 i hi⟩
theorem Gr.get{S S':List Ob}{k:Nat}{o:Ob}(a:Gr S S')(h:S[k]?=some o):S'[k]?=some o:=by rw[a.2 k (ub0.mp h).1];exact h
abbrev lr(a b:D):List (Key×D):=[(kL,a),(kRt,b)]
abbrev dW(l r:List Nat):List (Key×D):=lr (.lst (wD l)) (.lst (wD r))
abbrev dP(a b:Nat):List (Key×D):=lr (.int a) (.int b)
noncomputable def onS{α:Type}(s:Str)(a b:α):α:=if s=sL then a else b
theorem XL{s:Str}(h:s=sL\/s=sR):Bf (lr a b) (.inr s)=some (onS s a b):=by
 unfold onS;rcases h with rfl|rfl
 .rw[gE rfl];exact Nt
 .rw[gG (Ne.symm sLR)];exact Nu
theorem Qh{s:Str}{d:D}(h:s=sL\/s=sR):kvPut (lr a b) (.inr s) d=lr (onS s d a) (onS s b d):=by
 unfold onS;rcases h with rfl|rfl
 .rw[gE rfl,gE rfl];exact Vb
 .rw[gG (Ne.symm sLR),gG (Ne.symm sLR)];exact Vc
set_option tactic.hygienic true in
inductive Sr where
 |stop
 |brk (k:Nat) (s:Str)
 |next (m:D) (h a b:Nat)
def Cs(side:Str)(ws:List (Str×Sh×Int))(w:List Nat)(p:Nat):RR×Nat:=match w[p]? with
 |none=>(.short,0)
 |some c=>match ws[c]? with
   |none=>(.broken p,0)
   |some wd=>((pSh 3 wd.2.1).run w (p+1),c)
structure Pl(g:List GS)(wl wr:List Nat)(h a b:Nat):Prop where
 h:h<g.length
 a:a<=wl.length
 b:b<=wr.length
def Wir(S:List Ob)(d:D)(w:List Nat):Prop:=d=.lst (wD w)\/∃k,d=.obj k/\S[k]?=some (.lst (wD w))
def PureS(S:List Ob)(f:Fn)(ds:List D)(r:D):Prop:=Wf f ds S λr' S'=>r'=r/\S'=S
theorem PureS.use{f:Fn}(h:PureS S f ds r){P:D->List Ob->Prop}(p:P r S):Wf f ds S P:=h.mono λ_ _ ⟨e1,e2⟩=>by subst e1 e2;exact p
theorem O6{d:D}{a b:Nat}(h:Wir t.S d w)(e:w[a]?=some b)(p:P (.int (b:Int)) t):W (ixD d (.int (a:Int))) t P:=by
 rcases h with rfl|⟨k,rfl,e'⟩
 .exact AM (BV (Es e)) p
 .exact W_ix_obj.mpr ⟨_,e',_,BV (Es e),p⟩
abbrev TJ(xs:List D):Prop:=∀x∈xs,∃i:Int,x=.int i
theorem KC:∀{xs:List D},TJ xs->Fs xs=true
 |[],_=>rfl
 |x::r,h=>by
   clear 5(h x ue4)i rfl;rw[Fs,KC λy m=>h y (ud3 _ m)];rfl
theorem ac{g:Bool}(e1:t.S[m]?=some (.dct kvs))(e2:t.S[n]?=some (.dct kvs))(h:kvs.all (λkv=>match Bf kvs kv.1 with|some e=>alike1 t.S kv.2 e|none=>false)=true)(q:P (.bl g) t):W (JN g (.obj m) (.obj n)) t P:=
 ⟨_,_,by unfold JN;dsimp only;rw[e1,e2];dsimp only;rw[gE ⟨rfl,h⟩],q⟩
theorem Li(w:List Nat):alike1 S (.lst (wD w)) (.lst (wD w))=true:=by
 have hi:TJ (wD w):=λx hx=>by
  unfold wD at hx;obtain⟨n,_,rfl⟩:=un0.mp hx;exact⟨_,rfl⟩
 unfold alike1;have hp:Bg (Em S (.lst (wD w)))=true:=by
  show Bg (.lst (wD w))=true;simp only[Bg,KC hi]
 have he:eqN EQD (Em S (.lst (wD w))) (Em S (.lst (wD w)))=some true:=by
  show eqN EQD (.lst (wD w)) (.lst (wD w))=some true;refine Fv (n:=0) (λx hx=>?_) 40 (by decide);clear 5(hi x hx)i rfl;exact Jr
 rw[hp,he];rfl
theorem Rr(l r:List Nat):(dW l r).all (λkv=>match Bf (dW l r) kv.1 with|some e=>alike1 S kv.2 e|none=>false)=true:=by
 rw[ul1,ul1,List.all_nil,Bool.and_true,uh3];dsimp only;rw[Nt,Nu];exact⟨Li l,Li r⟩
def isB(l:List D):Prop:=∀d∈l,∃x:Nat,d=.int (x:Int)/\x<256
theorem P2:∀{l:List D},isB l->∃w:List Nat,l=wD w/\∀x∈w,x<256
 |[],_=>⟨[],rfl,λx z=>nomatch z⟩
 |d::r,h=>by
   clear 5(h d ue4)x rfl hx;obtain⟨w,rfl,hw⟩:=P2 λd m=>h d (ud3 _ m);refine⟨x::w,rfl,λy hy=>?_⟩;rcases uk8.mp hy with rfl|hy
   .exact hx
   .exact hw y hy
theorem Ni{a b:List D}(ha:isB a)(hb:isB b):isB (a++b):=λd h=>(ui4.mp h).elim (ha d) (hb d)
theorem Go{x:Nat}{b:List D}(hx:x<256)(hb:isB b):isB (.int (x:Int)::b):=λd h=>by
 rcases uk8.mp h with rfl|h
 .exact⟨x,rfl,hx⟩
 .exact hb d h
theorem Qn:∀(w n:Nat),isB (nb w n)
 |0,n=>λd h=>nomatch h
 |w+1,n=>Ni (Qn w _) (Go (gq _ (by decide)) λd h=>nomatch h)
set_option tactic.hygienic true in
theorem Fd:∀(n:Nat) (s:Sh),s.depth<=n->wf s=true->∀v,AU s v=true->isB (AV s v)
 |0,s,h,_,_,_=>absurd s.depth_pos ∅
 |n+1,s,hs,hw,v,hf=>by
   cases s with
   |nothing=>rw[AV];exact λd h=>nomatch h
   |number lo hi=>
     cases v<;>simp[AU] at hf
     rw[AV];exact Qn _ _
   |text q=>
     simp only[wf,uh3,ug6] at hw
     cases v<;>simp only[AU,ue9] at hf
     rename_i x;simp only[uh3,ug6,uh7] at hf;rw[AV];refine Go ∅ λd h=>?_;clear 5(un0.mp h)c hc rfl;have:=hf.2 c hc;simp only[A3,uh3,ug6] at this;exact⟨c,rfl,by lia⟩
   |list s q=>
     simp only[wf,uh3,ug6] at hw;rw[Sh.depth] at hs
     cases v<;>simp only[AU,ue9] at hf
     rename_i ds;simp only[uh3,ug6,uh7] at hf;rw[AV];refine Go ∅ λd h=>?_;clear 5(List.mem_flatten.mp h)l hl hd;clear 5(un0.mp hl)e he rfl;exact Fd n s ∅ hw.2 e (hf.2 e he) d hd
   |pair s r=>
     simp only[wf,uh3] at hw;rw[Sh.depth] at hs;unfold AU at hf
     split at hf
     .rw[uh3] at hf;rw[AV];exact Ni (Fd n s ∅ hw.1 _ hf.1) (Fd n r ∅ hw.2 _ hf.2)
     .cases hf
   |choice ss=>
     simp only[wf,uh3,ug6] at hw;rw[Sh.depth] at hs;unfold AU at hf
     split at hf
     .next o k x=>
      simp only[uh3,ug6] at hf;clear 5(ub8 hf.1.2.1)j rfl;have hj:j<ss.length:=by have:=hf.1.2.2;lia
      have e1:ss[j]?=some ss[j]:=ub4 hj;have h2:=hf.2;rw[uf9,FK ss _ _ _ e1] at h2;rw[AV,uf9,FH ss _ _ _ e1];exact Go ∅ (Fd n _ (um0 (D6 ss _ _ e1) ∅) (Ea hw.2 _ (ui0 hj)) x h2)
     .cases hf
theorem bV{g:M (List D)}(h:W f t λo t1=>W g t1 λas t2=>∃ds y j,o=.lst ds/\as=[y]/\(Ds y=true/\ds.all Ds=true)/\LO (toV y) (ds.map toV)=some j/\P (.int (j:Nat)) t2):W (idxM f g) t P:=by
 clear 5 h o t1 e1 as t2 e2 ds y j rfl rfl hf hj p;refine⟨_,_,?_,p⟩;simp only[idxM,bnd,e1,e2,gE hf,hj]
theorem PZ{ws:List (Str×Sh×Int)}(nd:(ws.map (·.1)).Nodup){p:Nat}{w:Str×Sh×Int}(e:ws[p]?=some w):LO (toV (.str w.1)) ((ws.map λw=>D.str w.1).map toV)=some p:=by
 unfold LO;rw[un1,List.findIdx?_map];rw[<-Ol nd e]
 congr 1
theorem Om{ws:List (Str×Sh×Int)}:(ws.map λw=>D.str w.1).all Ds=true:=by
 rw[um5,uh7];intro w _;rfl
theorem N5{l:List α}{ι f:α->D}{fr:List (Option Sl)}{z:Option Sl}(h:∀a∈l,W elt ⟨vw (ι a)::fr,S⟩ λx t'=>x=f a/\t'=⟨vw (ι a)::fr,S⟩) :
 W (Bl (As 0) Bk elt (l.map ι)) ⟨z::fr,S⟩ λxs t'=>xs=l.map f/\t'.S=S:=by
 induction l generalizing z with
 |nil=>exact W_compL_nil.mpr ⟨rfl,rfl⟩
 |cons a r ih=>
   rw[uk9,A6];refine B6 (Et ?_);rw[gE rfl];refine(h a ue4).mono λx t' z9=>?_;clear 5 z9 e1 e2;subst e1 e2;refine(ih (z:=vw (ι a)) λb hb=>h b (ud3 _ hb)).mono λxs t' z9=>?_;clear 5 z9 e1 e2;subst e1;exact⟨rfl,e2⟩
def B256(w:List Nat):Prop:=∀x∈w,x<256
theorem B256.app{a b:List Nat}(h:B256 a)(h2:B256 b):B256 (a++b):=λx hx=>(ui4.mp hx).elim (h x) (h2 x)
structure Mvs(g:List GS)(wl wr:List Nat)(mv:List Mv)(h a b:Nat)(t:List D):Prop where
 t:t=T1 g 0 mv
 ok:okQ g 0 mv
 h:Jf g 0 mv=h
 a:GD g sL 0 mv=wD (wl.take a)
 b:GD g sR 0 mv=wD (wr.take b)
inductive NR where
 |stop
 |brk (k:Nat)
 |msg (k:Nat) (m:D) (th e:Nat)
def nxR(gs:List (List GS))(w:List Nat)(side:Str)(p:Nat)(st:List Nat):NR:=match w[p]? with
 |none=>.stop
 |some k=>match gs[k]? with
   |none=>.brk p
   |some g=>match Bd g (st.getD k 0) with
     |.fin=>.brk p
     | .st s ws=>if s=side then match Cs side ws w (p + 1) with
        |(.short,_)=>.stop
        |(.broken j,_)=>.brk j
        |(.told v e,c)=>.msg k (.tup [.str side,.str (ws.getD c (Str.ofString "",.nothing,0)).1,v]) (ws.getD c (Str.ofString "",.nothing,0)).2.2.toNat e
       else .stop
variable{gs:List (List GS)}{th e:Nat}
theorem EN{side:Str}{st:List Nat}{k:Nat}{m:D}(h:nxR gs w side p st=.msg k m th e):∃g ws v c,w[p]?=some k/\gs[k]?=some g/\Bd g (st.getD k 0)=.st side ws/\Cs side ws w (p+1)=(.told v e,c)/\m=.tup [.str side,.str (ws.getD c (Str.ofString "",.nothing,0)).1,v]/\th=(ws.getD c (Str.ofString "",.nothing,0)).2.2.toNat:=by
 unfold nxR at h
 cases e1:w[p]? with
 |none=>rw[e1] at h;cases h
 |some k'=>
   rw[e1] at h;dsimp only at h
   cases e2:gs[k']? with
   |none=>rw[e2] at h;cases h
   |some g=>
     rw[e2] at h;dsimp only at h
     cases e3:Bd g (st.getD k' 0) with
     |fin=>rw[e3] at h;cases h
     |st s ws=>
       rw[e3] at h;dsimp only at h
       by_cases q:s=side
       .rw[gE q] at h;subst q
        cases e4:Cs s ws w (p+1) with
        |mk r c=>
          rw[e4] at h
          cases r with
          |short=>cases h
          |broken j=>cases h
          |told v b=>cases h;exact⟨g,ws,v,c,rfl,e2,e3,e4,rfl,rfl⟩
       .rw[gG q] at h;cases h
theorem Vg{side:Str}{ws:List (Str×Sh×Int)}{x:Nat}(h:Cs side ws w p=(.told v e,x)):p+1<=e/\e<=w.length:=by
 unfold Cs at h
 cases hb:w[p]? with
 |none=>rw[hb] at h;cases h
 |some y=>
   rw[hb] at h;dsimp only at h;obtain⟨hpl,_⟩:=ub0.mp hb
   cases hws:ws[y]? with
   |none=>rw[hws] at h;cases h
   |some wd=>
     rw[hws] at h;injection h with h1 h2
     exact HQ _ _ hpl h1
theorem Di{side:Str}{st:List Nat}{k:Nat}{m:D}(h:nxR gs w side p st=.msg k m th e):p+2<=e/\e<=w.length:=by
 obtain⟨g,ws,v,c,_,_,_,h4,_,_⟩:=EN h;have:=Vg h4;lia
noncomputable def sd(s:Bool):Str:=if s=true then sL else sR
theorem QT:∀{s t:Bool},sd s=sd t->s=t:=by
 intro s t h
 cases s<;>cases t<;>first|rfl|(exact absurd h (by decide))
structure Ls where
 p:Bool->Nat
 st:List Nat
 hd:List (List D)
def Ls.nx(σ:Ls)(gs:List (List GS))(w:Bool->List Nat)(s:Bool):NR:=nxR gs (w s) (sd s) (σ.p s) σ.st
noncomputable def Ls.go(σ:Ls)(s:Bool)(k:Nat)(m:D)(th e:Nat):Ls:=⟨λx=>if x=s then e else σ.p x,σ.st.set k th,σ.hd.set k (σ.hd.getD k []++[m])⟩
def Stp(gs:List (List GS))(w:Bool->List Nat)(σ:Ls)(s:Bool)(τ:Ls):Prop:=∃k m th e,σ.nx gs w s=.msg k m th e/\τ=σ.go s k m th e
inductive Run(gs:List (List GS))(w:Bool->List Nat):Ls->Ls->Prop
 |refl (σ:Ls):Run gs w σ σ
 |step {σ τ ρ:Ls}{s:Bool}:Stp gs w σ s τ->Run gs w τ ρ->Run gs w σ ρ
variable{σ τ ρ:Ls}
section
variable{gs:List (List GS)}{w:Bool->List Nat}
theorem Run.trans(a:Run gs w σ τ)(b:Run gs w τ ρ):Run gs w σ ρ:=by
 induction a with
 |refl=>exact b
 |step s _ ih=>exact .step s (ih b)
theorem Run.one{s:Bool}(h:Stp gs w σ s τ):Run gs w σ τ:=.step h (.refl _)
theorem Cj{l:List α}{a d:α}(h:i≠j):(l.set i a).getD j d=l.getD j d:=by
 rw[ua9,ud5 h,ua9]
theorem Mc{s t:Bool}{k:Nat}{m:D}(h:σ.nx gs w s=.msg k m th e)(ht:t≠s)(hn:σ.nx gs w t≠.stop):(σ.go s k m th e).nx gs w t=σ.nx gs w t:=by
 obtain⟨g,ws,v,c,h1,h2,h3,_⟩:=EN h;unfold Ls.nx at hn⊢;have hp:(σ.go s k m th e).p t=σ.p t:=gG ht;rw[hp];unfold nxR at hn⊢
 cases e1:(w t)[σ.p t]? with
 |none=>rfl
 |some k'=>
   rw[e1] at hn;dsimp only at hn⊢
   cases e2:gs[k']? with
   |none=>rfl
   |some g'=>
     rw[e2] at hn;dsimp only at hn⊢
     by_cases q:k'=k
     .subst q;rw[h2] at e2
      cases e2
      rw[h3] at hn;dsimp only at hn;rw[gG λz=>ht (QT z).symm] at hn;exact absurd rfl hn
     .rw[show(σ.go s k m th e).st.getD k' 0=σ.st.getD k' 0 from Cj λz=>q z.symm]
theorem Uv{s t:Bool}(a:Stp gs w σ s τ)(b:Stp gs w σ t ρ)(hst:s≠t):∃υ,Stp gs w τ t υ/\Stp gs w ρ s υ:=by
 clear 5 a k m th e h1 rfl;clear 5 b k' m' th' e' h2 rfl;have n1:=Mc h1 (Ne.symm hst) (by rw[h2];exact λz=>by cases z);have n2:=Mc h2 hst (by rw[h1];exact λz=>by cases z);have hk:k≠k':=by
  intro z;subst z;obtain⟨g,ws,_,_,_,g2,g3,_⟩:=EN h1;obtain⟨g',ws',_,_,_,g2',g3',_⟩:=EN h2;rw[g2] at g2'
  cases g2'
  rw[g3] at g3';injection g3' with q _
  exact hst (QT q)
 refine⟨_,⟨k',m',th',e',n1.trans h2,rfl⟩,k,m,th,e,n2.trans h1,?_⟩;unfold Ls.go;dsimp only;rw[List.set_comm _ _ hk,Cj hk,Cj (Ne.symm hk),List.set_comm _ _ hk]
 congr 1
 funext x
 by_cases q:x=s
 .subst q;rw[gG hst,gE rfl,gE rfl]
 .rw[gG q,gG q]
def NF(gs:List (List GS))(w:Bool->List Nat)(σ:Ls):Prop:=∀s k m th e,σ.nx gs w s≠.msg k m th e
theorem ZO{s:Bool}(a:Stp gs w σ s τ)(r:Run gs w σ ρ)(n:NF gs w ρ):Run gs w τ ρ:=by
 induction r generalizing τ s with
 |refl=>obtain⟨k,m,th,e,h1,_⟩:=a;exact absurd h1 (n _ _ _ _ _)
 |@step σ υ ρ t h r ih=>
   by_cases q:s=t
   .subst q;clear 5 a k m th e h1 rfl;clear 5 h k' m' th' e' h2 rfl;rw[h1] at h2
    cases h2
    exact r
   .clear 5(Uv a h q)x h1 h2;exact .step h1 (ih h2 n)
theorem bK(a:Run gs w σ τ)(r:Run gs w σ ρ)(n:NF gs w ρ):Run gs w τ ρ:=by
 induction a with
 |refl=>exact r
 |step h _ ih=>exact ih (ZO h r n)
theorem Run.nf(r:Run gs w σ τ)(n:NF gs w σ):σ=τ:=by
 cases r with
 |refl=>rfl
 |step h _=>obtain⟨k,m,th,e,h1,_⟩:=h;exact absurd h1 (n _ _ _ _ _)
theorem Zv(a:Run gs w σ τ)(r:Run gs w σ ρ)(m:NF gs w τ)(n:NF gs w ρ):τ=ρ:=(bK a r n).nf m
def Pre(l l':List (List D)):Prop:=l.length=l'.length/\∀k,∃x,l'.getD k []=l.getD k []++x
theorem Pre.refl{l:List (List D)}:Pre l l:=⟨rfl,λk=>⟨[],(ui8 _).symm⟩⟩
theorem Run.grow(r:Run gs w σ τ):(∀s,σ.p s<=τ.p s)/\Pre σ.hd τ.hd/\σ.st.length=τ.st.length:=by
 induction r with
 |refl=>exact⟨λ_=>un2 _,.refl,rfl⟩
 |@step σ τ ρ s h _ ih=>
   clear 5 h k m th e h1 rfl;have hle:=Di h1;refine⟨λt=>?_,⟨?_,λj=>?_⟩,?_⟩
   .have:=ih.1 t
    by_cases q:t=s
    .subst q;have h2:(σ.go t k m th e).p t=e:=gE rfl;lia
    .have h2:(σ.go s k m th e).p t=σ.p t:=gG q;lia
   .rw[<-ih.2.1.1];exact(uj1 ..).symm
   .clear 5(ih.2.1.2 j)x hx;rw[hx]
    by_cases q:k=j
    .subst q
     by_cases hk:k < σ.hd.length
     .refine⟨[m]++x,?_⟩;show(σ.hd.set k (σ.hd.getD k []++[m])).getD k []++x=_;rw[ua9,uc0 hk,ui1,ug1]
     .refine⟨x,?_⟩;show(σ.hd.set k (σ.hd.getD k []++[m])).getD k []++x=_;rw[List.set_eq_of_length_le ∅]
    .refine⟨x,?_⟩;show(σ.hd.set k (σ.hd.getD k []++[m])).getD j []++x=_;rw[Cj q]
   .rw[<-ih.2.2];exact(uj1 ..).symm
theorem Run.inn(r:Run gs w σ τ)(h:∀s,σ.p s<=(w s).length):∀s,τ.p s<=(w s).length:=by
 induction r with
 |refl=>exact h
 |@step σ τ ρ s h' r ih=>
   clear 5 h' k m th e h1 rfl;refine ih λt=>?_
   by_cases q:t=s
   .subst q;have h2:(σ.go t k m th e).p t=e:=gE rfl;have:=Di h1;lia
   .have h2:(σ.go s k m th e).p t=σ.p t:=gG q;rw[h2];exact h t
end
theorem OV(s:Bool):sd s=sL\/sd s=sR:=by cases s<;>first|exact .inl rfl|exact .inr rfl
section
variable{gs:List (List GS)}{w:Bool->List Nat}
end
noncomputable def ls0(gs:List (List GS)):Ls:=⟨λ_=>0,gs.map λ_=>0,gs.map λ_=>[]⟩
def End(gs:List (List GS))(w:Bool->List Nat)(σ:Ls):Prop:=Run gs w (ls0 gs) σ/\NF gs w σ
noncomputable def WR:NR->Option Nat
 |.brk j=>some j
 |_=>none
def Dr(gs:List (List GS))(w:Bool->List Nat)(σ:Ls):Option (Bool×Nat):=match WR (σ.nx gs w true) with
 |some j=>some (true,j)
 |none=>(WR (σ.nx gs w false)).map λj=>(false,j)
section
variable{gs:List (List GS)}{w:Bool->List Nat}
theorem End.inn{σ:Ls}(h:End gs w σ)(s:Bool):σ.p s<=(w s).length:=h.1.inn (λ_=>un3 _) s
theorem End.eq(h:End gs w σ)(k:End gs w τ):σ=τ:=Zv h.1 k.1 h.2 k.2
end
section
variable{f:Str}{t:T}{P:D->T->Prop}{O:Out->T->Prop}{k:Nat}{n:Str}{fs:List (Str×D)}{v:D}
def R6(f:Str)(d:D):M D:=Fi d λ_ _ fs t=>(fs.lookup f).map λv=>(v,t)
def J2(f:Str)(v d:D):M Out:=Fi d λk n fs t=>if fs.length<1000 then some (.next,{t with S:=t.S.set k (.ins n (Ft f v fs))}) else none
theorem Y1{a:M D}(h:W a t λd t1=>W (R6 f d) t1 P):W (CZ f a) t P:=CN h
theorem Cn(e:t.S[k]?=some (.ins n fs))(l:fs.lookup f=some v)(h:P v t):W (R6 f (.obj k)) t P:=⟨_,_,by simp only[R6,Fi,e,l];rfl,h⟩
theorem N0{gv ga:M D}(h:W gv t λv t1=>W ga t1 λd t2=>W (J2 f v d) t2 O):W (EO f gv ga) t O:=CN (h.mono λ_ _ z=>CN z)
theorem FC(e:t.S[k]?=some (.ins n fs))(l:fs.length<1000)(h:O .next ⟨t.env,t.S.set k (.ins n (Ft f v fs))⟩):W (J2 f v (.obj k)) t O:=⟨_,_,by simp only[J2,Fi,e,gE l],h⟩
theorem ap{g:Fn}{fl:M (List D)}(h:W fl t λds t1=>Wf g (.obj t1.S.length::ds) (t1.S++[.ins n []]) λr S'=>r=.non/\P (.obj t1.S.length) ⟨t1.env,S'⟩):W (KW n g fl) t P:=
 CN (h.mono λds t1 ⟨r,S',e,e2,p⟩=>by subst e2;exact⟨_,_,by simp only[e],p⟩)
theorem aq{g:Fn}{o:M D}{fl:M (List D)}(h:W o t λd t1=>∃k fs,d=.obj k/\t1.S[k]?=some (.ins n fs)/\W fl t1 λds t2=>Wf g (d::ds) t2.S λr S'=>P r ⟨t2.env,S'⟩):W (Dq n g o fl) t P:=by
 refine CN (h.mono λd t1 z=>?_);clear 5 z k fs e1 e2 w;subst e1;clear 5 w ds t2 w1 r S' w2 p;refine⟨r,_,?_,p⟩;simp only[Fi,e2,gE,bnd,w1,w2]
theorem Q8(h:P (.obj t.S.length) ⟨t.env,t.S++[.dct []]⟩):W (Fh []) t P:=by
 refine⟨_,_,?_,h⟩;simp[Fh,Hy,bnd,L2.ret,E8,D3]
end
local macro_rules | `(tactic| walk_at"y1")=>`(tactic| first
 |walk_at"x1" |clear 31 HU Y1 N0 Q8 Jw)
abbrev rdF(g:List GS)(h W P:Nat):List (Str×D):=[("grammar",.lst (g.map GS.d)),("standing",.int (h:Nat)),("wires",.obj W),("places",.obj P)]
structure Rdr(n0:Nat)(S:List Ob)(k:Nat)(g:List GS)(vl vr:List Nat)(h a b W P l r:Nat):Prop where
 k0:n0<=k
 l0:n0<=l
 r0:n0<=r
 ne:l≠r
 k:S[k]?=some (.ins "Reader" (rdF g h W P))
 w:S[W]?=some (.dct (lr (.obj l) (.obj r)))
 p:S[P]?=some (.dct (dP a b))
 l:S[l]?=some (.lst (wD vl))
 r:S[r]?=some (.lst (wD vr))
def Low(n0:Nat)(S S':List Ob):Prop:=n0<=S'.length/\∀i,i<n0->S'[i]?=S[i]?
variable{n0:Nat}
theorem Low.refl(h:n0<=S.length):Low n0 S S:=⟨h,λ_ _=>rfl⟩
theorem Low.trans{n0:Nat}{S S1 S2:List Ob}(a:Low n0 S S1)(b:Low n0 S1 S2):Low n0 S S2:=⟨b.1,λi h=>(b.2 i h).trans (a.2 i h)⟩
theorem Low.set{n0 k:Nat}{S S1:List Ob}{o:Ob}(a:Low n0 S S1)(h:n0<=k):Low n0 S (S1.set k o):=⟨by rw[uj1];exact a.1,λi hi=>by rw[ud5 ∅];exact a.2 i hi⟩
theorem Low.gr{S1 S2:List Ob}(a:Low n0 S S1)(b:Gr S1 S2):Low n0 S S2:=⟨um0 a.1 b.1,λi h=>(b.2 i (ue3 h a.1)).trans (a.2 i h)⟩
variable{u:Ob}
theorem Ak(h:S[i]?=some u)(n:j≠i):(S.set j o)[i]?=some u:=by rw[ud5 n];exact h
theorem A8(h:S[i]?=some o)(h':S[j]?=some u)(n:o≠u):i≠j:=λe=>by subst e;rw[h] at h';exact n (ui5 h')
def Kp(k:Nat)(S S':List Ob):Prop:=S.length<=S'.length/\∀i,i<S.length->i≠k->S'[i]?=S[i]?
theorem Kp.refl{k:Nat}:Kp k S S:=⟨un2 _,λ_ _ _=>rfl⟩
variable{S':List Ob}
theorem Kp.setk{k:Nat}(a:Kp k S S'):Kp k S (S'.set k o):=⟨by rw[uj1];exact a.1,λi h n=>by rw[ud5 (Ne.symm n)];exact a.2 i h n⟩
theorem Kp.set{k j:Nat}{S S':List Ob}{o:Ob}(a:Kp k S S')(h:S.length<=j):Kp k S (S'.set j o):=⟨by rw[uj1];exact a.1,λi hi n=>by rw[ud5 ∅];exact a.2 i hi n⟩
theorem Kp.app{k:Nat}(a:Kp k S S'):Kp k S (S'++[o]):=⟨by rw[ue8];exact um0 a.1 (uh6 _ _),λi hi n=>by rw[ub1 (ue3 hi a.1)];exact a.2 i hi n⟩
theorem AT(h:S[i]?=some u):(S++[o])[i]?=some u:=by rw[ub1 (ub0.mp h).1];exact h
theorem Br(h:S[i]?=some u):i<S.length:=(ub0.mp h).1
local macro_rules | `(tactic| walk_at"y1")=>`(tactic| first
 |walk_at"x1" |clear 31 HU Y1 N0 Q8 Jw aq ap)
def gsD(gs:List (List GS)):D:=.lst (gs.map λg=>.lst (g.map GS.d))
abbrev liF(gs:List (List GS))(W P N H:Nat):List (Str×D):=[("grammars",gsD gs),("wires",.obj W),("places",.obj P),("standings",.obj N),("heard",.obj H)]
def nD(l:List Nat):List D:=l.map λn=>.int (n:Nat)
def aW(n0:Nat)(S:List Ob)(d:D)(w:List Nat):Prop:=d=.lst (wD w)\/∃k,d=.obj k/\k<n0/\S[k]?=some (.lst (wD w))
structure Lis(n0:Nat)(S:List Ob)(gs:List (List GS))(w:Bool->List Nat)(σ:Ls)(k W P N H:Nat)(hs:List Nat):Prop where
 ik:S[k]?=some (.ins "Listener" (liF gs W P N H))
 iw:∃x:Bool->D,S[W]?=some (.dct (lr (x true) (x false)))/\∀s,aW n0 S (x s) (w s)
 ip:S[P]?=some (.dct (dP (σ.p true) (σ.p false)))
 it:S[N]?=some (.lst (nD σ.st))
 ih:S[H]?=some (.lst (hs.map .obj))
 hl:hs.length=gs.length
 hh:∀(i h:Nat),hs[i]?=some h->S[h]?=some (.lst (σ.hd.getD i []))
 nd:hs.Nodup
 nN:N∉hs
 nH:H∉hs
 ne:N≠H
 lP:n0<=P
 lN:n0<=N
 lh:∀h∈hs,n0<=h
 ls:σ.st.length=gs.length
 lo:∀(i:Nat) (g:List GS),gs[i]?=some g->σ.st.getD i 0<g.length
 ld:σ.hd.length=gs.length
 fw:∀i,2*(σ.hd.getD i []).length<=σ.p true+σ.p false
theorem lrF(F:Bool->D)(s:Bool):Bf (lr (F true) (F false)) (.inr (sd s))=some (F s):=by
 rw[XL (OV s)]
 cases s<;>rfl
theorem Mb{st:List Nat}(h:w[p]?=none):nxR gs w x p st=.stop:=by unfold nxR;rw[h]
theorem NB{k:Nat}{st:List Nat}(h:w[p]?=some k)(h2:gs[k]?=none):nxR gs w x p st=.brk p:=by unfold nxR;rw[h];dsimp only;rw[h2]
theorem Nz{k:Nat}{st:List Nat}{g:List GS}(h:w[p]?=some k)(h2:gs[k]?=some g)(h3:Bd g (st.getD k 0)=.fin):nxR gs w x p st=.brk p:=by unfold nxR;rw[h];dsimp only;rw[h2];dsimp only;rw[h3]
theorem NA{ws:List (Str×Sh×Int)}{k:Nat}{st:List Nat}{g:List GS}(h:w[p]?=some k)(h2:gs[k]?=some g)(h3:Bd g (st.getD k 0)=.st y ws)(n:y≠x):nxR gs w x p st=.stop:=by unfold nxR;rw[h];dsimp only;rw[h2];dsimp only;rw[h3];dsimp only;rw[gG n]
theorem Nx{side:Str}{ws:List (Str×Sh×Int)}{x:Nat}(h:Cs side ws w p=(.told v e,x)):x<ws.length:=by
 unfold Cs at h
 cases hb:w[p]? with
 |none=>rw[hb] at h;cases h
 |some y=>
   rw[hb] at h;dsimp only at h
   cases hws:ws[y]? with
   |none=>rw[hws] at h;cases h
   |some wd=>
     rw[hws] at h;injection h with h1 h2
     subst h2;exact(ub0.mp hws).1
theorem NV{n:Int}{side:Str}{ws:List (Str×Sh×Int)}(h:GSOk n (.st side ws)){c:Nat}(hc:c<ws.length):0<=(ws.getD c (Str.ofString "",.nothing,0)).2.2/\(ws.getD c (Str.ofString "",.nothing,0)).2.2<n:=by
 cases h with
 |@st _ _ hs1 hs2 hs3 hs4 hs5=>
   have:=hs5 _ (ui0 hc);rw[ua9,ub4 hc,ui1];exact⟨this.lo,this.hi⟩
def Ok2(gs:List (List GS))(w:Bool->List Nat):Prop:=(∀g∈gs,GOk g)/\gs.length<=9/\∀s,(w s).length<=25000
theorem DQ{d:D}(h:ds[i]?=some d):atI ds (i:Int)=some d:=by
 unfold atI;rw[Cq ∅ (by have:=(ub0.mp h).1;lia)];show ds[(i:Int).toNat]?=_;rw[uf9];exact h
theorem LZ{l:List Nat}(h:i<l.length):(nD l)[i]?=some (.int ((l.getD i 0:Nat):Int)):=by
 unfold nD;rw[uf8,ub4 h,ua9,ub4 h];rfl
theorem Kf{k:Nat}{d:D}(e:t.S[k]?=some (.lst ds))(h:ds[i]?=some d)(p:P d t):L2.W (ixD (.obj k) (.int (i:Int))) t P:=W_ix_obj.mpr ⟨ds,e,d,DQ h,p⟩
theorem Rb{k:Nat}{d:D}(e:t.S[k]?=some (.lst xs))(hn:n<xs.length)(h:U () ⟨t.env,t.S.set k (.lst (xs.set n d))⟩):L2.W (FV (.obj k) (.int (n:Int)) d) t U:=W_stOb.mpr ⟨xs,e,n,by rw[Cq ∅ ∅,uf9],h⟩
theorem EU{l:List α}{a d:α}(h:i<l.length):(l.set i a).getD i d=a:=by
 rw[ua9,uc0 h,ui1]
section
variable{n0:Nat}{S:List Ob}{gs:List (List GS)}{w:Bool->List Nat}{σ:Ls}{k W P N H:Nat}{hs:List Nat}
theorem Pv(p:Bool->Nat)(s:Bool)(e:Nat):kvPut (dP (p true) (p false)) (.inr (sd s)) (.int (e:Nat))=dP (if true=s then e else p true) (if false=s then e else p false):=by
 rw[Qh (OV s)]
 cases s<;>rfl
end
theorem Gj{α:Type}(ι:α->D):∀(xs:List α) (S:List Ob) (z:Option Sl),L2.W (Bl (As 0) Bk (Dz (AD Ad)) (xs.map ι)) ⟨[z],S⟩ λr t'=>r=((List.range' S.length xs.length).map D.obj)/\t'.S=S++List.replicate xs.length (.lst [])
 |[],S,z=>W_compL_nil.mpr ⟨rfl,(ui8 _).symm⟩
 |a::r,S,z=>by
   rw[uk9,A6];refine B6 (Et ?_);rw[gE rfl];symm;refine(Gj ι r _ _).mono λxs t' z9=>?_;clear 5 z9 e1 e2;subst e1;refine⟨?_,?_⟩
   .rw[ue8,ug9 (as:=r),List.range'_succ,uk9];rfl
   .rw[e2,ug1,ug9,ue1];rfl
theorem Kr{α:Type}(ι:α->D):∀(xs:List α) (S:List Ob) (z:Option Sl),L2.W (Bl (As 0) Bk (dr 0) (xs.map ι)) ⟨[z],S⟩ λr t'=>r=nD (xs.map λ_=>0)/\t'.S=S
 |[],S,z=>W_compL_nil.mpr ⟨rfl,rfl⟩
 |a::r,S,z=>by
   rw[uk9,A6];refine B6 (Et ?_);rw[gE rfl];symm;refine(Kr ι r _ _).mono λxs t' z9=>?_;clear 5 z9 e1 e2;subst e1;exact⟨rfl,e2⟩
theorem EH(h:L2.W f ⟨t.env,t.S++[.dct []]⟩ λa t1=>L2.W g t1 λb t2=>t2.S[t.S.length]?=some (.dct [])/\P (.obj t.S.length) ⟨t2.env,t2.S.set t.S.length (.dct (lr a b))⟩):L2.W (Dp [("left",f),("right",g)]) t P:=by
 refine O4 (Cg (h.mono λa t1 h1=>Cg (h1.mono λb t2 h2=>Hq ⟨h2.1,by show 2<=15;decide,?_⟩)));rw[show D3 [(Sum.inr (Str.ofString "left"),a),(Sum.inr (Str.ofString "right"),b)]=lr a b from So];exact h2.2
theorem Fc{x:List Ob}(h:S[i]?=some u):(S++x)[i]?=some u:=by rw[ub1 (Br h)];exact h
theorem Kp.appL{k:Nat}{x:List Ob}(a:Kp k S S'):Kp k S (S'++x):=⟨by rw[ue8];exact um0 a.1 (uh6 _ _),λi hi n=>by rw[ub1 (ue3 hi a.1)];exact a.2 i hi n⟩
structure HrdAt(S:List Ob)(H:Nat)(hs:List Nat)(hd:List (List D)):Prop where
 ih:S[H]?=some (.lst (hs.map .obj))
 hl:hs.length=hd.length
 hh:∀(i h:Nat),hs[i]?=some h->S[h]?=some (.lst (hd.getD i []))
def At(w:List Nat)(a:Nat)(xs:List D):Prop:=∃p q,wD w=p++(xs++q)/\p.length=a
theorem Rf:∀(k n:Nat),wid n<=k->n<256 ^ k
 |0,n,h=>by
   by_cases z:n=0
   .subst z;decide
   .rw[FE ∅] at h;lia
 |k+1,n,h=>by
   by_cases z:n=0
   .subst z;exact Nat.pow_pos (by decide)
   .rw[FE ∅] at h;have:=Rf k (n/256) ∅;rw[Nat.div_lt_iff_lt_mul (by decide)] at this;rw[um7];exact this
theorem af{m:Str}{ns:List Str}(e:m∈AY)(q:P (.bl (ns.any λn=>Ck m n)) t):W (HC ns (.exc m ds)) t P:=⟨_,_,by unfold HC;dsimp only;rw[gE e];rfl,q⟩
def Gw(S S':List Ob):Prop:=S.length<=S'.length/\∀i,i<S.length->S'[i]?=S[i]?
theorem Gw.refl:Gw S S:=⟨un2 _,λ_ _=>rfl⟩
theorem Gw.trans{S S1 S2:List Ob}(a:Gw S S1)(b:Gw S1 S2):Gw S S2:=⟨um0 a.1 b.1,λi h=>(b.2 i (ue3 h a.1)).trans (a.2 i h)⟩
theorem Gw.app{ex:List Ob}:Gw S (S++ex):=⟨by rw[ue8];lia,λi h=>ub1 h⟩
theorem Gw.set{S S':List Ob}{k:Nat}{o:Ob}(a:Gw S S')(h:S.length<=k):Gw S (S'.set k o):=⟨by rw[uj1];exact a.1,λi hi=>by rw[ud5 ∅];exact a.2 i hi⟩
theorem Gw.get{S S':List Ob}{k:Nat}{o:Ob}(a:Gw S S')(h:S[k]?=some o):S'[k]?=some o:=by rw[a.2 k (ub0.mp h).1];exact h
theorem WP{x:Ob}:(S++[x])[S.length]?=some x:=by simp
theorem aw{k:Nat}{h:List D->List D->Option (List D)}{g:M (List D)}(w:W f t λo t1=>o=.obj k/\∃xs0,t1.S[k]?=some (.lst xs0)/\W g t1 λds t2=>∃xs ys,t2.S[k]?=some (.lst xs)/\h xs ds=some ys/\P .non ⟨t2.env,t2.S.set k (.lst ys)⟩):W (objM h f g) t P:=by
 unfold objM;refine W_bnd.mpr (w.mono λo t1 z9=>?_);clear 5 z9 e xs0 e1 w;subst e;clear 5 w ds t2 e2 xs ys e3 e4 p;refine⟨_,_,?_,p⟩;simp only[e1,bnd,e2,e3,e4];rfl
mutual
inductive Ow(S:List Ob):D->D->List Nat->Prop
 |non:Ow S .non .non []
 |int (i:Int):Ow S (.int i) (.int i) []
 |str (x:Str):Ow S (.str x) (.str x) []
 |tup {ds vs:List D}{fp:List Nat}:Ows S ds vs fp->Ow S (.tup ds) (.tup vs) fp
 |obj {k:Nat}{ds vs:List D}{fp:List Nat}:S[k]?=some (.lst ds)->Ows S ds vs fp->k∉fp->Ow S (.obj k) (.lst vs) (k::fp)
inductive Ows(S:List Ob):List D->List D->List Nat->Prop
 |nil:Ows S [] [] []
 |cons {d v:D}{fp fp':List Nat}{ds vs:List D}:Ow S d v fp->Ows S ds vs fp'->(∀k∈fp,k∉fp')->Ows S (d::ds) (v::vs) (fp++fp')
end
mutual
theorem Ow.mono{S S':List Ob}{d v:D}{fp:List Nat}(h:∀k∈fp,S'[k]?=S[k]?)(r:Ow S d v fp):Ow S' d v fp:=by
 cases r with
 |non=>exact .non
 |int i=>exact .int i
 |str x=>exact .str x
 |tup o=>exact .tup (Ows.mono h o)
 |obj e o n=>exact .obj ((h _ ue4).trans e) (Ows.mono (λk hk=>h k (ud3 _ hk)) o) n
theorem Ows.mono{S S':List Ob}{ds vs:List D}{fp:List Nat}(h:∀k∈fp,S'[k]?=S[k]?)(r:Ows S ds vs fp):Ows S' ds vs fp:=by
 cases r with
 |nil=>exact .nil
 |cons a b n=>exact .cons (Ow.mono (λk hk=>h k (ud4 _ hk)) a) (Ows.mono (λk hk=>h k (uc6 _ hk)) b) n
end
mutual
theorem Ow.lt{S:List Ob}{d v:D}{fp:List Nat}(r:Ow S d v fp):∀k∈fp,k<S.length:=by
 cases r with
 |tup o=>exact Ows.lt o
 |obj e o n=>exact λk h=>(uk8.mp h).elim (λz=>by rw[z];exact(ub0.mp e).1) (Ows.lt o k)
 |_=>exact λk h=>nomatch h
theorem Ows.lt{S:List Ob}{ds vs:List D}{fp:List Nat}(r:Ows S ds vs fp):∀k∈fp,k<S.length:=by
 cases r with
 |nil=>exact λk h=>nomatch h
 |cons a b n=>exact λk h=>(ui4.mp h).elim (Ow.lt a k) (Ows.lt b k)
end
theorem Ows.length{S:List Ob}{ds vs:List D}{fp:List Nat}(r:Ows S ds vs fp):ds.length=vs.length:=by
 cases r with
 |nil=>rfl
 |cons _ b _=>rw[ug9,ug9,Ows.length b]
theorem Ows.snoc{S:List Ob}{d v:D}{fp1:List Nat}(o:Ow S d v fp1){ds vs:List D}{fp:List Nat}(r:Ows S ds vs fp)(h:∀k∈fp,k∉fp1):Ows S (ds++[d]) (vs++[v]) (fp++fp1):=by
 cases r with
 |nil=>
   have:=Ows.cons o .nil (λ_ _ z=>nomatch z);rw[ui8] at this;exact this
 |cons a b n=>
   have:=Ows.cons a (Ows.snoc o b λk hk=>h k (uc6 _ hk)) (λk hk z=>(ui4.mp z).elim (n k hk) (h k (ud4 _ hk)));rw[<-ug1] at this;exact this
variable{fp:List Nat}
theorem Ow.gr{d:D}(o:Ow S d v fp)(g:Gw S S'):Ow S' d v fp:=o.mono λk hk=>g.2 k (o.lt k hk)
variable{vs:List D}
theorem Ows.gr(o:Ows S ds vs fp)(g:Gw S S'):Ows S' ds vs fp:=o.mono λk hk=>g.2 k (o.lt k hk)
def roO(S S':List Ob)(r:D):RR->Prop
 |.told v b=>∃d fp,r=.tup [d,.int (b:Int)]/\Ow S' d v fp/\∀k∈fp,S.length<=k
 |.short=>r=exS
 |.broken a=>r=exB a
def RXO(c:Fn)(s:Sh)(p:Rd):Prop:=∀(w:List Nat) (a:Nat) (S:List Ob),a<=w.length->Wf c [s.d,.lst (wD w),.int (a:Int)] S λr S'=>Gw S S'/\roO S S' r (p.run w a)
theorem JW{lo:Int}{M:Nat}{w:List Nat}{v:D}{b:Nat}:∀(r x a:Nat),(DE lo M r x).run w a=.told v b->∃i,v=.int i
 |0,x,a,h=>by rw[DE,Rd.run] at h;cases h;exact⟨_,rfl⟩
 |r+1,x,a,h=>by
   rw[DE] at h
   cases e:w[a]? with
   |none=>rw[A1 e] at h;cases h
   |some c=>
     rw[AZ e] at h
     split at h
     .exact JW r _ _ h
     .cases h
theorem Ka{w:List Nat}{v:D}{b:Nat}:∀(r:Nat) (cs:List Nat) (a:Nat),(DF r cs).run w a=.told v b->∃x,v=.str x
 |0,cs,a,h=>by rw[DF,Rd.run] at h;cases h;exact⟨_,rfl⟩
 |r+1,cs,a,h=>by
   rw[DF] at h
   cases e:w[a]? with
   |none=>rw[A1 e] at h;cases h
   |some c=>
     rw[AZ e] at h
     split at h
     .exact Ka r _ _ h
     .cases h
theorem Sz{M r x a b:Nat}(e:(DE lo M r x).run w a=.told v b):Ow S v v []:=by
 clear 5(JW _ _ _ e)i rfl;exact .int i
theorem Q4{a b:Nat}(e:(pSh (n+1) (.text q)).run w a=.told v b):Ow S v v []:=by
 rw[pSh] at e
 cases e0:w[a]? with
 |none=>rw[A1 e0] at e;cases e
 |some c=>
   rw[AZ e0] at e
   split at e
   .clear 5(Ka _ _ _ e)x rfl;exact .str x
   .cases e
theorem QI{p:Rd}(h:RX c s p)(hl:∀w a v b,p.run w a=.told v b->∀S,Ow S v v []):RXO c s p:=by
 intro w a S ha;refine(h w a ha S).mono λr S' z9=>?_;clear 5 z9 e1 e2;subst e1 e2;refine⟨.refl,?_⟩
 cases e:p.run w a with
 |told v b=>exact⟨v,[],rfl,hl w a v b e _,λ_ z=>nomatch z⟩
 |short=>rfl
 |broken k=>rfl
theorem Yw{p:Rd}(hu:UX cu)(hq2:q<=250)(hc:RXO c s p)(w:List Nat)(a:Nat)(S:List Ob):Wf (fnOf 3 8 (Dt c cu)) [(Sh.list s q).d,.lst (wD w),.int (a:Int)] S λr S'=>Gw S S'/\roO S S' r ((Rd.need (λb=>decide ((b:Int)<=q)) λb=>EY p b []).run w a):=by
 have hL:LIM=100000:=rfl;refine Aw rfl ?_;unfold Dt;rw[Sh.d];have hup:=hu q w a;symm
 cases h:w[a]? with
 |none=>
   rw[h,upX] at hup;rw[A1 h];rw[6,hup.use];exact⟨.refl,rfl⟩
 |some b=>
   have hal:=(ub0.mp h).1;rw[h,upX] at hup;rw[AZ h]
   by_cases hb:(b:Int)<=q
   .rw[gE hb] at hup;rw[gE (uk6 hb)];rw[6,hup.use];refine Dm (Bx ∅ ∅) ?_;refine Dn (λr t=>XN8 λ(j a':Nat) (ds vs:List D) (fp:List Nat) (S':List Ob) (e6 e7:Option Sl)=>AN10 (j<=b) (r=(AQ 0 ((b:Nat):Int).toNat).drop j) (vs.length=j) (a'<=w.length) ((EY p b []).run w (a+1)=(EY p (b-j) vs).run w a') (Gw S S') (S'[S.length]?=some (.lst ds)) (Ows S' ds vs fp) ((∀k∈fp,S.length<k)) (t=⟨[vw (.tup [.str "list",s.d,.int q]),vw (.lst (wD w)),vw (.int a),vw (.int b),vw (.int (a':Int)),vw (.obj S.length),e6,e7],S'⟩)) _ _ ⟨0,a+1,[],[],[],S++[.lst []],none,none,un3 _,rfl,rfl,hal,rfl,.app,WP,.nil,(λ_ z=>nomatch z),rfl⟩ ?_ ?_
    .rintro d r t ⟨j,a',ds,vs,fp,S',e6,e7,hj,hr,hdl,ha',hrun,hG,hK,ho,hfp,rfl⟩ _;clear 5(E9 hr)rfl hr' hjn;rw[uf9] at hjn;obtain⟨e,he⟩:∃e,b-j=e+1:=⟨b-j-1,by lia⟩;rw[he,EY,Ca] at hrun;have hKl:=(ub0.mp hK).1;symm;refine(hc w a' S' ha').mono λr1 S1 z9=>?_;obtain⟨hG1,h1⟩:=z9
     cases h2:p.run w a' with
     |short=>
       rw[h2] at hrun h1;have h1:r1=exS:=h1;subst h1;symm;exact⟨hG.trans hG1,by rw[hrun];rfl⟩
     |broken k=>
       rw[h2] at hrun h1;have h1:r1=exB k:=h1;subst h1;symm;exact⟨hG.trans hG1,by rw[hrun];rfl⟩
     |told v a2=>
       have hle:=HQ p a' ha' h2;rw[h2] at hrun h1;clear 5 h1 d1 fp1 e1 ho1 hf1;subst e1;have hK1:=hG1.get hK;symm;rw[6,aw (k:=S.length)];refine⟨rfl,_,hK1,?_⟩;symm;refine⟨_,_,hK1,gE (by rw[ho.length,hdl,hL];lia),?_⟩;symm;refine⟨j+1,a2,ds++[d1],vs++[v],fp++fp1,_,_,_,hjn,hr',by rw[ue8,hdl];rfl,hle.2,by rw[hrun,show b-(j+1)=e by lia];rfl,(hG.trans hG1).set (un2 _),Nh hK1,?_,λk hk=>?_,rfl⟩
       .refine Ows.snoc (ho1.mono λk hk=>?_) ((ho.gr hG1).mono λk hk=>?_) λk hk z=>?_
        .exact ud5 (by have:=hf1 k hk;lia)
        .exact ud5 (by have:=hfp k hk;lia)
        .have:=hf1 k z;have:=ho.lt k hk;lia
       .rcases ui4.mp hk with z|z
        .exact hfp k z
        .have:=hf1 k z;lia
    .rintro t ⟨j,a',ds,vs,fp,S',e6,e7,hj,hr,hdl,ha',hrun,hG,hK,ho,hfp,rfl⟩;have hj':j=b:=by
      have:=gu List.length hr;rw[uj5,uh2,DM,uf9] at this;lia
     subst hj';rw[um8,EY,Rd.run] at hrun;symm;refine⟨rfl,hG,?_⟩;rw[hrun];exact⟨_,_,rfl,.obj hK ho (λz=>uk7 _ (hfp _ z)),λk hk=>(uk8.mp hk).elim (λz=>by rw[z];exact un2 _) λz=>um1 (hfp k z)⟩
   .rw[gG hb] at hup;rw[gG (by rw[ug6];exact hb)];rw[6,hup.use];exact⟨.refl,rfl⟩
theorem Yx{r:Sh}{p p':Rd}(hs:RXO c s p)(hr:RXO c r p')(w:List Nat)(a:Nat)(S:List Ob)(ha:a<=w.length):Wf (fnOf 3 5 (Du c)) [(Sh.pair s r).d,.lst (wD w),.int (a:Int)] S λx S'=>Gw S S'/\roO S S' x ((p.bnd λv=>p'.bnd λu=>.done (.tup [v,u])).run w a):=by
 refine Aw rfl ?_;unfold Du;rw[Sh.d,Ca];symm;refine(hs w a S ha).mono λr1 S1 z9=>?_;clear 5 z9 hG1 h1
 cases e1:p.run w a with
 |short=>
   rw[e1] at h1;have h1:r1=exS:=h1;subst h1;symm;exact⟨hG1,rfl⟩
 |broken k=>
   rw[e1] at h1;have h1:r1=exB k:=h1;subst h1;symm;exact⟨hG1,rfl⟩
 |told v a'=>
   have hle:=HQ p a ha e1;rw[e1] at h1;clear 5 h1 d1 fp1 e ho1 hf1;subst e;rw[RR.thn,Ca];symm;refine(hr w a' S1 hle.2).mono λr2 S2 z9=>?_;clear 5 z9 hG2 h2
   cases e2:p'.run w a' with
   |short=>
     rw[e2] at h2;have h2:r2=exS:=h2;subst h2;symm;exact⟨hG1.trans hG2,rfl⟩
   |broken k=>
     rw[e2] at h2;have h2:r2=exB k:=h2;subst h2;symm;exact⟨hG1.trans hG2,rfl⟩
   |told u a2=>
     rw[e2] at h2;clear 5 h2 d2 fp2 e ho2 hf2;subst e;symm;refine⟨rfl,hG1.trans hG2,_,_,rfl,.tup (.cons (ho1.gr hG2) (.cons ho2 .nil (λ_ _ z=>nomatch z)) λk hk z=>?_),λk hk=>?_⟩
     .rw[ui8] at z;have:=ho1.lt k hk;have:=hf2 k z;lia
     .rw[ui8] at hk;rcases ui4.mp hk with z|z
      .exact hf1 k z
      .exact um0 hG1.1 (hf2 k z)
theorem SZ{p:Nat->Rd}(hu:UX cu)(hc:∀(k:Nat) (h:k<ss.length),RXO c ss[k] (p k))(w:List Nat)(a:Nat)(S:List Ob):Wf (fnOf 3 5 (CG c cu)) [(Sh.choice ss).d,.lst (wD w),.int (a:Int)] S λx S'=>Gw S S'/\roO S S' x ((Rd.need (λb=>decide (b<ss.length)) λb=>(p b).bnd λv=>.done (.tup [.str "of",.int b,v])).run w a):=by
 refine Aw rfl ?_;unfold CG;rw[Sh.d];have hup:=hu ((ss.length:Int)-1) w a;symm;rw[EG];refine hup.use ?_
 cases h:w[a]? with
 |none=>
   rw[A1 h,upX];symm;exact⟨.refl,rfl⟩
 |some b=>
   have hal:=(ub0.mp h).1;rw[AZ h,upX]
   by_cases hb:b<ss.length
   .rw[gE (show(b:Int)<=(ss.length:Int)-1 by lia),gE (uk6 hb),Ca];have e0:ss[b]?=some ss[b]:=ub4 hb;have hsd:atI (shD ss) (b:Int)=some ss[b].d:=BV (by rw[Fb,e0];rfl);symm;rw[6,Iz hsd];rw[show((a:Int)+1)=((a+1:Nat):Int) by lia];refine(hc b hb w (a+1) S hal).mono λr1 S1 z9=>?_;obtain⟨hG1,h1⟩:=z9
    cases e2:(p b).run w (a+1) with
    |short=>
      rw[e2] at h1;have h1:r1=exS:=h1;subst h1;symm;exact⟨hG1,rfl⟩
    |broken k=>
      rw[e2] at h1;have h1:r1=exB k:=h1;subst h1;symm;exact⟨hG1,rfl⟩
    |told u a2=>
      rw[e2] at h1;clear 5 h1 d1 fp1 e ho1 hf1;subst e;symm;refine⟨rfl,hG1,_,_,rfl,.tup (.cons (.str _) (.cons (.int _) (.cons ho1 .nil (λ_ _ z=>nomatch z)) (λ_ z=>nomatch z)) (λ_ z=>nomatch z)),λk hk=>?_⟩;rw[uj3,uj3,ui8] at hk;exact hf1 k hk
   .rw[gG (show ¬(b:Int)<=(ss.length:Int)-1 by lia),gG (by rw[ug6];exact hb)];symm;exact⟨.refl,rfl⟩
def KP(f:Fn)(n:Nat):Prop:=∀s:Sh,s.depth<=n->wf s=true->RXO f s (pSh n s)
variable{cn ct:Fn}
theorem QK{ca cl' cw cc cp:Fn}(e1:cc=fnOf 3 5 (CG c cu))(e2:cp=fnOf 3 5 (Du c))(e3:cl=fnOf 3 8 (Dt c cu))(e4:ct=fnOf 3 7 (Dv ca cu))(e5:cn=fnOf 3 7 (CH cl' cb cw))
 (hu:UX cu) (ha:SX ca) (hl':IC cl') (hb:BX cb) (hw:Ge cw) (hc:KP c n):KP (fnOf 3 4 (Ek cc cp cl ct cn)) (n+1):=by
 subst e1 e2 e3 e4 e5;intro s hs hwf w a S ha';refine Aw rfl ?_;unfold Ek
 cases s with
 |nothing=>
   rw[Sh.d,pSh,Rd.run];symm;exact⟨rfl,.refl,_,_,rfl,.non,λ_ z=>nomatch z⟩
 |number lo hi=>
   have h:=QI (λw a _=>ZK hl' hb hw hwf w a) (λw a v b e S=>Sz e) w a S ha';rw[Sh.d] at h⊢;rw[pSh];symm;exact h.mono λr S' z=>z
 |text q=>
   have h:=QI (p:=pSh (n+1) (.text q)) (λw a _=>Yz ha hu hwf n w a) (λw a v b e S=>Q4 e) w a S ha';rw[Sh.d] at h⊢;symm;exact h.mono λr S' z=>z
 |list s q=>
   simp only[wf,uh3,ug6] at hwf;rw[Sh.depth] at hs;have h:=Yw hu hwf.1.2 (hc s ∅ hwf.2) w a S;rw[Sh.d] at h⊢;rw[pSh];symm;exact h.mono λr S' z=>z
 |pair s r=>
   simp only[wf,uh3] at hwf;rw[Sh.depth] at hs;have h:=Yx (hc s ∅ hwf.1) (hc r ∅ hwf.2) w a S ha';rw[Sh.d] at h⊢;rw[pSh];symm;exact h.mono λr S' z=>z
 |choice ss=>
   simp only[wf,uh3,ug6] at hwf;rw[Sh.depth] at hs;have hcs:∀(k:Nat) (hk:k<ss.length),RXO c ss[k] (pSh n (ss.getD k .nothing)):=by
    intro k hk;rw[ua9,ub4 hk,ui1];exact hc _ (um0 (D6 ss _ _ (ub4 hk)) ∅) (Ea hwf.2 _ (ui0 hk))
   have h:=SZ hu (p:=λb=>pSh n (ss.getD b .nothing)) hcs w a S;rw[Sh.d] at h⊢;rw[pSh];symm;exact h.mono λr S' z=>z
theorem K6{d:D}{m:String}(e:JS d=false)(h:W (Gq [d,.ty m]) t P):W (FR [d,.ty m]) t P:=by
 cases d<;>first|exact h|cases e
theorem Ra{k:Nat}{m:String}{b:Bool}(e:t.S[k]?=some (.lst ds))(h:C1 "list" m=some b)(q:P (.bl b) t):W (FR [.obj k,.ty m]) t P:=⟨_,_,by simp only[FR,e,h];rfl,q⟩
variable{tst:M Bool}
theorem MM{g:Gd}{st:D->M Unit}{P:List D->T->Prop}(h:Gon g t.S)(q:P [] t):W (compG g st tst elt []) t P:=by
 unfold compG;exact W_bnd.mpr ⟨_,_,IN h,W_ret.mpr q⟩
set_option tactic.hygienic true in
theorem Lf{g:Gd}{st:D->M Unit}{d:D}{r:List D}{P:List D->T->Prop}(h:Gon g t.S)(q:W (st d) t λ_ t1=>W tst t1 λk t2=>
 if k=true then W elt t2 λx t3=>W (compG g st tst elt r) t3 λxs t4=>P (x::xs) t4 else W (compG g st tst elt r) t2 P):W (compG g st tst elt (d::r)) t P:=by
 rw[compG];refine W_bnd.mpr ⟨_,_,IN h,W_bnd.mpr (q.mono λ_ t1 q=>W_bnd.mpr (q.mono λk t2 q=>?_))⟩
 split
 .next hk=>
  rw[gE hk] at q;exact W_bnd.mpr (q.mono λx t3 q=>W_bnd.mpr (q.mono λxs t4 q=>W_ret.mpr q))
 .next hk=>
  rw[gG hk] at q;exact q
theorem YX{fr:List Nat}{f:M (Gd×List D)}{st:D->M Unit}{P:List D->T->Prop}(h:W f t λp t1=>W (compG p.1 st tst elt p.2) ⟨cenv n fr t1.env,t1.S⟩ λxs t2=>Gu xs.length (P xs {t1 with S:=t2.S})):W (GV n fr f st tst elt) t P:=by
 refine W_bnd.mpr (h.mono λp t1 h=>?_);clear 5 h xs t2 e l q;refine⟨xs,_,?_,q⟩;simp only[e,gE l]
def msO(S S':List Ob)(r:D)(side:Str)(ws:List (Str×Sh×Int)):RR×Nat->Prop
 |(.short,_)=>r=.non
 |(.broken k,_)=>r=.exc "Broken" [.int k,.str side]
 |(.told v e,c)=>∃d fp,r=.tup [.tup [.str side,.str (ws.getD c (Str.ofString "",.nothing,0)).1,d],.int (ws.getD c (Str.ofString "",.nothing,0)).2.2,.int e]/\Ow S' d v fp/\∀k∈fp,S.length<=k
def Ri(f:Fn):Prop:=∀(n:Int) (side:Str) (ws:List (Str×Sh×Int)) (w:List Nat) (p:Nat) (S:List Ob),GSOk n (.st side ws)->p<=w.length->w.length<=50000->Wf f [(GS.st side ws).d,.lst (wD w),.int p] S λr S'=>Gr S S'/\msO S S' r side ws (Cs side ws w p)
theorem Vf(hc:KP c 3):Ri (fnOf 3 6 (EC c)):=by
 intro n side ws w p S hgs hp hwl;have hlw:=AF w
 cases hgs with
 |@st _ _ hs1 hs2 hs3 hs4 hs5=>
 refine Aw rfl ?_;unfold EC;rw[GS.d]
 cases hb:w[p]? with
 |none=>
   have hpl:¬p<w.length:=by rw[ub3] at hb;lia
   rw[show Cs side ws w p=(.short,0) by unfold Cs;rw[hb]];symm;rw[hlw];refine Bj (by simp;lia) ?_;symm;refine⟨rfl,?_⟩;symm;exact⟨.refl,rfl⟩
 |some cc=>
   obtain⟨hpl,_⟩:=ub0.mp hb;have hix:atI (wD w) (p:Int)=some (.int (cc:Int)):=by
    unfold atI;rw[Cq ∅ (by rw[hlw];lia)];show(wD w)[(p:Int).toNat]?=_;rw[uf9];exact Es hb
   symm;rw[hlw];refine Be (by simp;lia) ?_;symm;rw[6,AM hix];rw[ui6]
   cases hw:ws[cc]? with
   |none=>
     have hcl:¬cc<ws.length:=by rw[ub3] at hw;lia
     rw[show Cs side ws w p=(.broken p,0) by unfold Cs;simp only[hb,hw]];refine Bj (by simp;lia) ?_;symm;exact⟨.refl,rfl⟩
   |some wd=>
     obtain⟨hcl,_⟩:=ub0.mp hw;have hwo:=hs5 wd (ud6 hw);have hgd:ws.getD cc (Str.ofString "",.nothing,0)=wd:=by rw[ua9,hw];rfl
     have hrd:=hc wd.2.1 hwo.dep hwo.ok w (p+1) S hpl;rw[show Cs side ws w p=((pSh 3 wd.2.1).run w (p+1),cc) by unfold Cs;simp only[hb,hw]];refine Be (by simp;lia) ?_;symm;rw[6,AM hix];refine AM (Hr hw) ?_;unfold wdD;dsimp only;symm;refine hrd.mono λr1 S1 z9=>?_;clear 5 z9 hG1 h1
     cases e:(pSh 3 wd.2.1).run w (p+1) with
     |told v b=>
       rw[e] at h1;clear 5 h1 d1 fp1 e1 ho1 hf1;subst e1;symm;exact⟨rfl,hG1,d1,fp1,by rw[hgd],ho1,hf1⟩
     |short=>
       rw[e] at h1;have h1:r1=exS:=h1;subst h1;symm;refine⟨rfl,?_⟩;symm;exact⟨hG1,rfl⟩
     |broken k=>
       rw[e] at h1;have h1:r1=exB k:=h1;subst h1;symm;exact⟨hG1,rfl⟩
def lrT:RR->D
 |.told v e=>.tup [.str (Str.ofString "whole"),v,.int (e:Nat)]
 |.short=>.tup [.str (Str.ofString "short")]
 |.broken k=>.tup [.str (Str.ofString "broken"),.int (k:Nat)]
def sg1:Str:=" !\"#$"
def sg2:Str:="&'()*+,-./0123456789:;<=>?@ABCDEFGHIJKLMNOPQRSTUVWXYZ[\\]^_`abcdefghijklmnopqrstuvwxyz{|}~"
theorem YH{c:Nat}(h:A3 c=true)(hc:c<37):atI sg1.cps.toList ((c:Int)-32)=some c:=by
 have hall:(List.range 37).all (λc=>!A3 c||decide (sg1.cps.toList[c-32]?=some c))=true:=by decide +kernel
 have h':=h;simp only[A3,uh3,ug6] at h';have:=uh7.mp hall c (uk2.mpr ∅);rw[h,gb,ul4,ug6] at this;rw[show((c:Int)-32)=((c-32:Nat):Int) by lia];exact BV this
theorem YI{c:Nat}(h:A3 c=true)(hc:¬c<37):atI sg2.cps.toList ((c:Int)-38)=some c:=by
 have hall:(List.range 127).all (λc=>!A3 c||decide (c<37)||decide (sg2.cps.toList[c-38]?=some c))=true:=by decide +kernel
 have h':=h;simp only[A3,uh3,ug6] at h';have hn:c≠37:=by
  intro z;subst z;exact absurd h (by decide)
 have:=uh7.mp hall c (uk2.mpr ∅);rw[h,gb,ul4,uk1 hc,ul4,ug6] at this;rw[show((c:Int)-38)=((c-38:Nat):Int) by lia];exact BV this
def LSg(f:Fn):Prop:=∀c:Nat,A3 c=true->Pure1 f [.int (c:Nat)] (.str ⟨#[c]⟩)
theorem XS:LSg (fnOf 1 2 Ei):=by
 intro c h S;refine Aw rfl ?_;unfold Ei;left
 by_cases q:c<37
 .rw[8,Bj (uk6 ∅)];refine W_ix_str.mpr ⟨by decide +kernel,c,YH h q,?_⟩;exact⟨rfl,rfl⟩
 .rw[8,Be (uk1 ∅)];refine W_ix_str.mpr ⟨by decide +kernel,c,YI h q,?_⟩;exact⟨rfl,rfl⟩
def LRN(f:Fn):Prop:=∀(lo hi:Int) (w:List Nat) (a:Nat),wf (.number lo hi)=true->B256 w->w.length<=25000->a<=w.length->Pure1 f [(Sh.number lo hi).d,.lst (wD w),.int (a:Nat)] (lrT ((DE lo (hi-lo).toNat (wid (hi-lo).toNat) 0).run w a))
theorem XQ(hc:Ge c):LRN (fnOf 3 8 (C3 c)):=by
 intro lo hi w a hwf hb hl ha S;have hsp:=Kb hwf;have hwd:=Gb 9 _ hsp;refine Aw rfl ?_;unfold C3;rw[Sh.d];have em:hi-lo=(((hi-lo).toNat:Nat):Int):=by
  simp only[wf,uh3,ug6] at hwf;lia
 have hww:=λS P p=>(hc (hi-lo).toNat hsp).use (S:=S) (P:=P) p;rw[<-em] at hww;generalize (hi-lo).toNat=M at *;have hge:M<256 ^ wid M:=Rf _ _ (un2 _);generalize hW:wid M=n at *;left;rw[8,hww _ _];refine Dm (Bx ∅ ∅) ?_;refine Dn (λr t=>XN5 λ(j x:Nat) (e5 e6 e7:Option Sl)=>AN6 (j<=n) (r=(AQ 0 ((n:Nat):Int).toNat).drop j) (a+j<=w.length) (x<256 ^ j) ((DE lo M n 0).run w a=(DE lo M (n-j) x).run w (a+j)) (t=⟨[vw (.tup [.str "number",.int lo,.int hi]),vw (.lst (wD w)),vw (.int a),vw (.int n),vw (.int x),e5,e6,e7],S⟩)) _ _ ⟨0,0,none,none,none,un3 _,rfl,ha,Nat.one_pos,rfl,rfl⟩ ?_ ?_
 .rintro d r t ⟨j,x,e5,e6,e7,hj,hr,hal,hx,hrun,rfl⟩ _;clear 5(E9 hr)rfl hr' hjn;rw[uf9] at hjn;rw[um9];obtain⟨e,he⟩:∃e,n-j=e+1:=⟨n-j-1,by lia⟩;rw[he,DE] at hrun;left;rw[AF]
  cases h:w[a+j]? with
  |none=>
    have:=ub3.mp h;rw[A1 h] at hrun;rw[8,Bj (uk6 ∅)];exact⟨by rw[hrun];rfl,rfl⟩
  |some b=>
    have hlt:=(ub0.mp h).1;have hb8:b<256:=hb b (ud6 h);rw[AZ h] at hrun;have hix:atI (wD w) ((a:Int)+(j:Int))=some (.int (b:Nat)):=by rw[show((a:Int)+(j:Int))=((a+j:Nat):Int) by lia];exact BV (Es h)
    rw[8,Be (uk1 ∅)];rw[8,Dx (B9 (by decide) (by decide))];rw[8,AM hix];rw[show(256*(x:Int)+(b:Int))=((x*256+b:Nat):Int) by lia,show((n:Int)-1-(j:Int))=((e:Nat):Int) by lia];refine Dm (Bx ∅ ∅) ?_;refine Dn (λr t=>∃(i:Nat) (e7:Option Sl),i<=e/\r=(AQ 0 ((e:Nat):Int).toNat).drop i/\t=⟨[vw (.tup [.str "number",.int lo,.int hi]),vw (.lst (wD w)),vw (.int a),vw (.int n),vw (.int ((x*256+b:Nat):Int)),vw (.int (j:Nat)),vw (.int (((x*256+b)*256 ^ i:Nat):Int)),e7],S⟩) _ _ ⟨0,e7,un3 _,rfl,by rw[Nat.pow_zero,Nat.mul_one];rfl⟩ ?_ ?_
    .rintro d r t ⟨i,e7,hi',hr2,rfl⟩ _;clear 5(E9 hr2)rfl hr3 hjn2;rw[uf9] at hjn2;left;rw[8,Dx (B9 (by decide) (by decide))];exact⟨i+1,_,hjn2,hr3,by rw[show(256*(((x*256+b)*256 ^ i:Nat):Int))=(((x*256+b)*256 ^ (i+1):Nat):Int) by rw[um7,<-Nat.mul_assoc,Int.natCast_mul _ 256,Int.mul_comm];rfl];rfl⟩
    .rintro t ⟨i,e7,hi',hr2,rfl⟩;have hi2:i=e:=by
      have:=gu List.length hr2;rw[uj5,uh2,DM,uf9] at this;lia
     subst hi2;left;have hcmp:x*256+b<=M/2 ^ (8*i)↔¬hi-lo<(((x*256+b)*256 ^ i:Nat):Int):=by
      rw[Nat.pow_mul,show(2:Nat) ^ 8=256 from rfl,fA (Nat.pow_pos (by decide)),em];lia
     by_cases q:x*256+b<=M/2 ^ (8*i)
     .rw[gE (uk6 q)] at hrun;rw[8,Be (uk1 (hcmp.mp q))];refine⟨j+1,x*256+b,_,_,_,hjn,hr',by lia,?_,by rw[show n-(j+1)=i by lia,hrun,ul5],rfl⟩;rw[um7];lia
     .rw[gG (by rw[ug6];exact q)] at hrun;rw[8,Bj (uk6 (Classical.not_not.mp λz=>q (hcmp.mpr z)))];exact⟨by rw[hrun];rfl,rfl⟩
 .rintro t ⟨j,x,e5,e6,e7,hj,hr,hal,hx,hrun,rfl⟩;have hj':j=n:=by
   have:=gu List.length hr;rw[uj5,uh2,DM,uf9] at this;lia
  subst hj';rw[um8,DE,Rd.run] at hrun;left;exact⟨by rw[hrun];rfl,rfl⟩
def DH(w:List Nat):List Rd->List D->Nat->RR
 |[],ds,a=>.told (.lst ds) a
 |p::r,ds,a=>match p.run w a with
   |.told v e=>DH w r (ds++[v]) e
   |.short=>.short
   |.broken k=>.broken k
theorem Mt(p:Rd)(w:List Nat):∀(n:Nat) (ds:List D) (a:Nat),DH w (List.replicate n p) ds a=(EY p n ds).run w a
 |0,ds,a=>rfl
 |n+1,ds,a=>by
   rw[EY,Ca,ue1,DH]
   cases p.run w a with
   |told v e=>exact Mt p w n _ e
   |short=>rfl
   |broken k=>rfl
def YS:RR->RR
 |.told (.lst l) e=>.told (.tup l) e
 |x=>x
theorem QP(p q:Rd)(w:List Nat)(a:Nat):(p.bnd λv=>q.bnd λu=>.done (.tup [v,u])).run w a=YS (DH w [p,q] [] a):=by
 rw[Ca,DH]
 cases p.run w a with
 |told v e=>
   rw[RR.thn,Ca];show _=YS (DH w [q] [v] e);rw[DH]
   cases q.run w e<;>rfl
 |short=>rfl
 |broken k=>rfl
theorem KD{w:List Nat}:∀(ps:List Rd) (ds:List D) (a e:Nat) (v:D),DH w ps ds a=.told v e->∃l,v=.lst l
 |[],ds,a,e,v,h=>by cases h;exact⟨_,rfl⟩
 |p::r,ds,a,e,v,h=>by
   rw[DH] at h
   cases q:p.run w a with
   |told v' e'=>rw[q] at h;exact KD r _ _ _ _ h
   |short=>rw[q] at h;cases h
   |broken k=>rw[q] at h;cases h
theorem Nr{c:Fn}{w:List Nat}{S:List Ob}{q:Sh->Rd}{pd:D}{K:Out->T->Prop}:∀(ps:List Sh) (ds:List D) (a:Nat) (e4 e5:Option Sl),a<=w.length->ds.length+ps.length<=1000->(∀s∈ps,∀a:Nat,a<=w.length->Pure1 c [s.d,.lst (wD w),.int (a:Nat)] (lrT ((q s).run w a)))->
 (∀l e,DH w (ps.map q) ds a=.told (.lst l) e->∀e4 e5,K .next ⟨[vw pd,vw (.lst (wD w)),vw (.int (e:Nat)),some (.own l),e4,e5],S⟩)->(∀x,DH w (ps.map q) ds a=x->(∀v e,x≠.told v e)->∀t,t.S=S->K (.ret (lrT x)) t)->L2.W (BS (As 4) (lmB c) (ps.map Sh.d)) ⟨[vw pd,vw (.lst (wD w)),vw (.int a),some (.own ds),e4,e5],S⟩ K
 |[],ds,a,e4,e5,_,_,_,h1,_=>W_forL_nil.mpr (h1 _ _ rfl e4 e5)
 |s::r,ds,a,e4,e5,ha,hn,hc,h1,h2=>by
   have hL:LIM=100000:=rfl;rw[ug9] at hn;rw[uk9,Bm];rw[uk9,DH] at h1 h2;unfold lmB;left;refine(hc s ue4 a ha).use ?_
   cases hq:(q s).run w a with
   |told v e=>
     rw[hq] at h1 h2;have hle:=HQ _ _ ha hq;rw[lrT];left;refine AO (by rw[hL];lia) ?_;left;exact Nr r _ e _ _ hle.2 (by rw[ue8,uc9];lia) (λs' hs'=>hc s' (ud3 _ hs')) h1 h2
   |short=>
     rw[hq] at h2;rw[lrT];left;exact h2 _ rfl (λ_ _ z=>nomatch z) _ rfl
   |broken k=>
     rw[hq] at h2;rw[lrT];left;exact h2 _ rfl (λ_ _ z=>nomatch z) _ rfl
theorem XO{q:Sh->Rd}{ps:List Sh}(hp:ps.length<=1000)(hc:∀s∈ps,∀a:Nat,a<=w.length->Pure1 c [s.d,.lst (wD w),.int (a:Nat)] (lrT ((q s).run w a))){a:Nat}(ha:a<=w.length):Pure1 (fnOf 3 6 (BR c)) [.lst (ps.map Sh.d),.lst (wD w),.int (a:Nat)] (lrT (DH w (ps.map q) [] a)):=by
 intro S;refine Aw rfl ?_;unfold BR;left;refine Nr ps [] a _ _ ha (by rw[uj5];lia) hc ?_ ?_
 .intro l e he e4 e5;left;exact⟨by rw[he];rfl,rfl⟩
 .intro x hx hn t ht;exact⟨by rw[hx],ht⟩
def LRD(f:Fn)(n:Nat):Prop:=∀s:Sh,s.depth<=n->wf s=true->∀(w:List Nat) (a:Nat),B256 w->w.length<=25000->a<=w.length->Pure1 f [s.d,.lst (wD w),.int (a:Nat)] (lrT ((pSh n s).run w a))
theorem Ss{f:Fn}:LRD f 0:=λs h=>absurd s.depth_pos ∅
theorem M6{x:D}:(List.replicate n [x]).flatten=List.replicate n x:=by
 induction n with
 |zero=>rfl
 |succ n ih=>rw[ue1,ug0,ih];rfl
theorem MB{w:List Nat}:∀(n:Nat) (cs:List Nat) (a:Nat),(∀j,j<n->∃c,w[a+j]?=some c/\A3 c=true)->(DF n cs).run w a=.told (.str ⟨(cs++(w.drop a).take n).toArray⟩) (a+n)
 |0,cs,a,_=>by rw[DF,Rd.run,List.take_zero,ui8];rfl
 |n+1,cs,a,h=>by
   clear 5(h 0 ∅)c h1 h2;rw[gh] at h1;clear 5(ub0.mp h1)hl hv;rw[DF,AZ h1,gE h2,MB n _ _ (λj hj=>by
    have:=h (j+1) ∅;rw[show a+(j+1)=a+1+j by lia] at this;exact this),ub2 hl,List.take_succ_cons,hv,ug1,show a+1+n=a+(n+1) by lia]
   rfl
theorem Kq{cs:Fn}(hs:LSg cs){S:List Ob}:∀(l:List Nat) (z:Option Sl),(∀c∈l,A3 c=true)->L2.W (Bl (As 0) Bk (Ah cs (Aa (Ab 0) Ad)) (wD l)) ⟨[z],S⟩ λr t'=>r=(l.map λn=>D.str ⟨#[n]⟩)/\t'.S=S
 |[],z,_=>W_compL_nil.mpr ⟨rfl,rfl⟩
 |c::r,z,h=>by
   show L2.W (Bl _ _ _ (D.int (c:Nat)::wD r)) _ _;rw[A6];refine B6 (Et ?_);rw[gE rfl];left;refine(hs c (h c ue4)).use ?_;refine(Kq hs r _ λc hc=>h c (ud3 _ hc)).mono λxs t' z9=>?_;clear 5 z9 e1 e2;subst e1;exact⟨rfl,e2⟩
theorem Ut(w:List Nat){a b:Nat}(h1:a<=b)(h2:b<=w.length):Cw (wD w) (some (a:Int)) (some (b:Int))=wD ((w.drop a).take (b-a)):=by
 have e1:HT.sIx (wD w).length 0 (some (a:Int))=a:=by simp only[HT.sIx];rw[gG ∅,AF];lia
 have e2:HT.sIx (wD w).length (wD w).length (some (b:Int))=b:=by simp only[HT.sIx];rw[gG ∅,AF];lia
 unfold Cw;rw[e1,e2];unfold wD;rw[ul3,fY]
theorem QZ{l:List Nat}(h:x.cps.toList=l):x=⟨l.toArray⟩:=by subst h;rfl
theorem Sq{cs:Fn}(hs:LSg cs){q:Int}{n:Nat}(hq:0<=q/\q<=250){w:List Nat}{a b:Nat}(hl:w.length<=25000)(h:w[a]?=some b)(hb:(b:Int)<=q){S:List Ob}{sd k:D}{e4:Option Sl}{K:Out->T->Prop}(hK:∀t,t.S=S->K (.ret (lrT ((DF b []).run w (a+1)))) t) :
 L2.W (Ir [.int (b:Nat)]) ⟨[vw sd,vw (.lst (wD w)),vw (.int (a:Nat)),vw k,e4,vw (.int (b:Nat)),none],S⟩ λds t1=>L2.W (BS (As 6) txB ds) t1 (FU
 (Ao (AC (Aa (fC (.str "whole")) (Aa (joinM (fC (.str "")) (Aa (Av (AN 1 [] (BZ (fSl (Ab 1) (Cy (Ac (Ab 2) (dr 1) Ar)) (Cy (Ac (Ac (Ab 2) (dr 1) Ar) (Ab 5) Ar)) En)) (As 0) Bk (Ah cs (Aa (Ab 0) Ad)))) Ad)) (Aa (Ac (Ac (Ab 2) (dr 1) Ar) (Ab 5) Ar) Ad))))) K):=by
 have hL:LIM=100000:=rfl;unfold txB;have hal:=(ub0.mp h).1;refine Dm (Bx ∅ ∅) ?_;refine Dn (λr t=>XN3 λ(j:Nat) (cs:List Nat) (e6:Option Sl)=>AN6 (j<=b) (r=(AQ 0 ((b:Nat):Int).toNat).drop j) (a+1+j<=w.length) ((∀i,i<j->∃c,w[a+1+i]?=some c/\A3 c=true)) ((DF b []).run w (a+1)=(DF (b-j) cs).run w (a+1+j)) (t=⟨[vw sd,vw (.lst (wD w)),vw (.int (a:Nat)),vw k,e4,vw (.int (b:Nat)),e6],S⟩)) _ _ ⟨0,[],none,un3 _,rfl,hal,(λ_ z=>absurd z (uj8 _)),rfl,rfl⟩ ?_ ?_
 .rintro d r t ⟨j,cs,e6,hj,hr,hjl,hg,hrun,rfl⟩ _;clear 5(E9 hr)rfl hr' hjn;rw[uf9] at hjn;rw[um9];obtain⟨e,he⟩:∃e,b-j=e+1:=⟨b-j-1,by lia⟩;rw[he,DF] at hrun;left;rw[AF]
  cases h2:w[a+1+j]? with
  |none=>
    have:=ub3.mp h2;rw[A1 h2] at hrun;rw[8,Bj (uk6 ∅)];have:=hK ⟨[vw sd,vw (.lst (wD w)),vw (.int (a:Nat)),vw k,e4,vw (.int (b:Nat)),vw (.int (j:Nat))],S⟩ rfl;rw[hrun] at this;exact this
  |some c=>
    have hlt:=(ub0.mp h2).1;rw[AZ h2] at hrun;have hix:atI (wD w) ((a:Int)+1+(j:Int))=some (.int (c:Nat)):=by rw[show((a:Int)+1+(j:Int))=((a+1+j:Nat):Int) by lia];exact BV (Es h2)
    have sg:A3 c=true↔32<=c/\c<=126/\c≠37:=by simp[A3,and_assoc]
    have brk:A3 c≠true->∀t:T,t.S=S->K (.ret (.tup [.str (Str.ofString "broken"),.int ((a:Int)+1+(j:Int))])) t:=λz t ht=>by
     have:=hK t ht;rw[hrun,gG z,lrT] at this;rw[show((a:Int)+1+(j:Int))=((a+1+j:Nat):Int) by lia];exact this
    rw[8,Be (uk1 ∅)];rw[8,AM hix]
    by_cases c1:32<=c
    .rw[8,Bj (uk6 ∅)]
     by_cases c2:c<=126
     .refine Be (by rw[uk6 ∅];rfl) ?_;left;rw[8,AM hix]
      by_cases c3:c=37
      .rw[8,Bj (by simp[c3])];exact brk (by rw[Ne,sg];lia) _ rfl
      .refine Be (by simp;lia) ?_;left;have hsg:=sg.mpr ⟨c1,c2,c3⟩;rw[gE hsg] at hrun;refine⟨j+1,_,_,hjn,hr',by lia,λi hi=>?_,by rw[show b-(j+1)=e by lia,hrun,ul5 (a+1)],rfl⟩
       by_cases z:i=j
       .subst z;exact⟨c,h2,hsg⟩
       .exact hg i ∅
     .refine Bj (by rw[uk1 ∅];rfl) ?_;left;exact brk (by rw[Ne,sg];lia) _ rfl
    .rw[8,Be (uk1 ∅)];exact brk (by rw[Ne,sg];lia) _ rfl
 .rintro t ⟨j,cs',e6,hj,hr,hjl,hg,hrun,rfl⟩;have hj':j=b:=by
   have:=gu List.length hr;rw[uj5,uh2,DM,uf9] at this;lia
  subst hj';have hst:=MB j [] (a+1) hg;rw[uj3] at hst;left;rw[8,Uk];rw[show((a:Int)+1)=((a+1:Nat):Int) by lia,show(((a+1:Nat):Int)+(j:Int))=((a+1+j:Nat):Int) by lia,Ut w ∅ hjl,ub9];have hlen:((w.drop (a+1)).take j).length=j:=by rw[uh1,uh2];lia
  have hall:∀c∈(w.drop (a+1)).take j,A3 c=true:=λc hc=>by
   clear 5(List.getElem_of_mem hc)i hi hv;clear 5(hg i (by rw[hlen] at hi;exact hi))c' e1 e2;rw[List.getElem_take,List.getElem_drop] at hv;rw[<-hv];obtain⟨_,e3⟩:=ub0.mp e1;rw[e3];exact e2
  refine(Kq hs ((w.drop (a+1)).take j) _ hall).mono ?_;rintro xs t' ⟨rfl,hS⟩;refine AO (by rw[ui6,hlen,hL];lia) ?_;left;refine⟨_,_,_,rfl,rfl,FB _,⟨by decide +kernel,by rw[ui6,hlen];lia⟩,?_⟩;left;have:=hK;rw[hst,lrT,<-QZ (Gs ((w.drop (a+1)).take j))] at this;exact this _ hS
variable{cm:Fn}
theorem XN{cs c2:Fn}(hs:LSg cs)(hc:LRD c n)(hc2:LRD c2 n)(hn:LRN cn)(em:cm=fnOf 3 6 (BR c2)):LRD (fnOf 3 7 (Eg cs cm c cn)) (n+1):=by
 subst em;intro s hd hw w a hb hl ha S;have hL:LIM=100000:=rfl;have many:∀(ps:List Sh) (a:Nat),ps.length<=1000->a<=w.length->(∀s∈ps,s.depth<=n/\wf s=true)->Pure1 (fnOf 3 6 (BR c2)) [.lst (ps.map Sh.d),.lst (wD w),.int (a:Nat)] (lrT (DH w (ps.map (pSh n)) [] a)):=λps a h1 h2 h3=>XO h1 (λs hs a ha=>hc2 s (h3 s hs).1 (h3 s hs).2 w a hb hl ha) h2;refine Aw rfl ?_;unfold Eg;have hg:∀{b:Nat},w[a]?=some b->atI (wD w) (a:Int)=some (.int (b:Nat)):=λh=>BV (Es h)
 cases s with
 |nothing=>
   rw[Sh.d];left;exact⟨rfl,rfl⟩
 |number lo hi=>
   have h:=hn lo hi w a hw hb hl ha S;rw[Sh.d] at h⊢;left;exact h
 |text q=>
   simp only[wf,uh3,ug6] at hw;rw[Sh.d,pSh];left;rw[AF]
   cases h:w[a]? with
   |none=>
     have:=ub3.mp h;rw[8,Bj (uk6 ∅)];rw[A1 h];exact⟨rfl,rfl⟩
   |some b=>
     have hlt:=(ub0.mp h).1;rw[8,Be (uk1 ∅)];rw[8,AM (hg h)];rw[AZ h]
     by_cases z:(b:Int)<=q
     .rw[8,Be (uk1 ∅)];rw[gE (uk6 z)];exact Sq (n:=0) hs ⟨hw.1,hw.2⟩ hl h z λt ht=>⟨rfl,ht⟩
     .rw[8,Bj (uk6 ∅)];rw[gG (by rw[ug6];exact z)];exact⟨rfl,rfl⟩
 |list s q=>
   simp only[wf,uh3,ug6] at hw;rw[Sh.depth] at hd;rw[Sh.d,pSh];left;rw[AF]
   cases h:w[a]? with
   |none=>
     have:=ub3.mp h;rw[8,Bj (uk6 ∅)];rw[A1 h];exact⟨rfl,rfl⟩
   |some b=>
     have hlt:=(ub0.mp h).1;rw[8,Be (uk1 ∅)];rw[8,AM (hg h)];rw[AZ h]
     by_cases z:(b:Int)<=q
     .rw[8,Be (uk1 ∅)];refine ar ⟨Bx ∅ ∅,by show 1*_<=_;lia⟩ ?_;left;rw[gE (uk6 z)];have er:(List.replicate ((b:Nat):Int).toNat [s.d]).flatten=(List.replicate b s).map Sh.d:=by rw[uf9,List.map_replicate];exact M6
      rw[er,show((a:Int)+1)=((a+1:Nat):Int) by lia];refine(many (List.replicate b s) (a+1) (by rw[uc7];lia) hlt (λs' h'=>by rw[(List.mem_replicate.mp h').2];exact⟨by lia,hw.2⟩)).use ?_;rw[List.map_replicate,Mt];exact⟨rfl,rfl⟩
     .rw[8,Bj (uk6 ∅)];rw[gG (by rw[ug6];exact z)];exact⟨rfl,rfl⟩
 |pair s r=>
   simp only[wf,uh3] at hw;rw[Sh.depth] at hd;rw[Sh.d,pSh,QP];left;refine(many [s,r] a (by show 2<=1000;decide) ha (λs' h'=>by
    rcases uk8.mp h' with e|h'
    .rw[e];exact⟨by lia,hw.1⟩
    .rw[uf0.mp h'];exact⟨by lia,hw.2⟩)).use ?_
   show L2.W _ ⟨[_,_,_,_,vw (lrT (DH w [pSh n s,pSh n r] [] a)),_,_],S⟩ _
   cases hR:DH w [pSh n s,pSh n r] [] a with
   |told v e=>
     clear 5(KD _ _ _ _ _ hR)l rfl;rw[lrT];left;exact⟨rfl,rfl⟩
   |short=>
     rw[lrT];left;exact⟨rfl,rfl⟩
   |broken k=>
     rw[lrT];left;exact⟨rfl,rfl⟩
 |choice ss=>
   simp only[wf,uh3,ug6] at hw;rw[Sh.depth] at hd;rw[Sh.d,pSh];left;rw[AF]
   cases h:w[a]? with
   |none=>
     have:=ub3.mp h;rw[8,Bj (uk6 ∅)];rw[A1 h];exact⟨rfl,rfl⟩
   |some b=>
     have hlt:=(ub0.mp h).1;rw[8,Be (uk1 ∅)];rw[8,AM (hg h)];rw[EG];rw[AZ h]
     by_cases z:b<ss.length
     .rw[8,Be (uk1 ∅)];rw[gE (uk6 z)];have hss:atI (shD ss) (b:Int)=some (ss[b]).d:=BV (by rw[Fb,ub4 z];rfl);rw[8,Iz hss];rw[ua9,ub4 z,ui1,show((a:Int)+1)=((a+1:Nat):Int) by lia];refine(hc ss[b] (by have:=FM (ui0 z);lia) (Ea hw.2 _ (ui0 z)) w (a+1) hb hl hlt).use ?_;rw[Ca]
      cases hR:(pSh n ss[b]).run w (a+1) with
      |told v e=>
        rw[lrT,RR.thn,Rd.run];left;exact⟨rfl,rfl⟩
      |short=>
        rw[lrT,RR.thn];left;exact⟨rfl,rfl⟩
      |broken k=>
        rw[lrT,RR.thn];left;exact⟨rfl,rfl⟩
     .rw[8,Bj (uk6 ∅)];rw[gG (by rw[ug6];exact z)];exact⟨rfl,rfl⟩
def nrO(S S':List Ob)(s:Bool)(r:D):NR->Prop
 |.stop=>r=.non
 |.brk j=>r=.exc "Broken" [.int (j:Nat),.str (sd s)]
 |.msg _ m th e=>∃d fp,r=.tup [d,.int (th:Nat),.int (e:Nat)]/\Ow S' d m fp/\∀k∈fp,S.length<=k
def nwO(S S':List Ob)(r:D):NR->Prop
 |.msg _ m th e=>∃d fp,r=.tup [d,.int (th:Nat),.int (e:Nat)]/\Ow S' d m fp/\∀k∈fp,S.length<=k
 |_=>r=.non
theorem X9{a b:Str}{d:D}(h:Ow S d v fp):Ow S (.tup [.str a,.str b,d]) (.tup [.str a,.str b,v]) fp:=by
 have q:=Ow.tup (.cons (.str a) (.cons (.str b) (.cons h .nil (λ_ _ z=>nomatch z)) (λ_ z=>nomatch z)) (λ_ z=>nomatch z));rw[uj3,uj3,ui8] at q;exact q
theorem SA{s:Bool}{ws:List (Str×Sh×Int)}{k:Nat}{st:List Nat}{g:List GS}(h:w[p]?=some k)(h2:gs[k]?=some g)(h3:Bd g (st.getD k 0)=.st (sd s) ws)(hn:∀c v e,Cs (sd s) ws w (p+1)=(.told v e,c)->0<=(ws.getD c (Str.ofString "",.nothing,0)).2.2)(q:msO S S' r (sd s) ws (Cs (sd s) ws w (p+1))):nrO S S' s r (nxR gs w (sd s) p st):=by
 unfold nxR;rw[h];dsimp only;rw[h2];dsimp only;rw[h3];dsimp only;rw[gE rfl]
 cases e4:Cs (sd s) ws w (p+1) with
 |mk x c=>
   rw[e4] at q
   cases x with
   |short=>exact q
   |broken j=>exact q
   |told v b=>
     clear 5 q d fp rfl q2 q3;exact⟨_,fp,by rw[Int.toNat_of_nonneg (hn c v b e4)],X9 q2,q3⟩
structure Cor(n0:Nat)(S:List Ob)(gs:List (List GS))(σ:Ls)(P N H:Nat)(hs:List Nat):Prop where
 ip:S[P]?=some (.dct (dP (σ.p true) (σ.p false)))
 it:S[N]?=some (.lst (nD σ.st))
 ih:S[H]?=some (.lst (hs.map .obj))
 hl:hs.length=gs.length
 hh:∀(i h:Nat),hs[i]?=some h->S[h]?=some (.lst (σ.hd.getD i []))
 nd:hs.Nodup
 nN:N∉hs
 nH:H∉hs
 ne:N≠H
 lP:n0<=P
 lN:n0<=N
 lH:n0<=H
 lh:∀h∈hs,n0<=h
 ls:σ.st.length=gs.length
 lo:∀(i:Nat) (g:List GS),gs[i]?=some g->σ.st.getD i 0<g.length
 ld:σ.hd.length=gs.length
 fw:∀i,2*(σ.hd.getD i []).length<=σ.p true+σ.p false
section
variable{n0:Nat}{S S':List Ob}{gs:List (List GS)}{w:Bool->List Nat}{σ:Ls}{P N H:Nat}{hs:List Nat}
theorem Cor.gr(R:Cor n0 S gs σ P N H hs)(G:∀{i:Nat}{o:Ob},S[i]?=some o->(∀l:List (Key×D),o=.dct l->i=P)->S'[i]?=some o):Cor n0 S' gs σ P N H hs:=
 ⟨G R.ip λ_ _=>rfl,G R.it nofun,G R.ih nofun,R.hl,λi h hi=>G (R.hh i h hi) nofun,R.nd,R.nN,R.nH,R.ne,R.lP,R.lN,R.lH,R.lh,R.ls,R.lo,R.ld,R.fw⟩
theorem Cor.off(R:Cor n0 S gs σ P N H hs){kk h i:Nat}{o z:Ob}{x y:List D}(hk:hs[kk]?=some h)(ho:S[i]?=some o)(h1:∀l,Ob.lst l≠o)(h2:P≠i):(((S.set h (.lst x)).set N (.lst y)).set P z)[i]?=some o:=
 Ak (Ak (Ak ho (A8 (R.hh kk h hk) ho (h1 _))) (A8 R.it ho (h1 _))) h2
theorem Cor.go(R:Cor n0 S gs σ P N H hs)(hg:∀g∈gs,GOk g){s:Bool}{kk th e h:Nat}{m d:D}(q:σ.nx gs w s=.msg kk m th e)(hk:hs[kk]?=some h) :
 Cor n0 (((S.set h (.lst (σ.hd.getD kk []++[d]))).set N (.lst ((nD σ.st).set kk (.int (th:Nat))))).set P (.dct (dP (if true=s then e else σ.p true) (if false=s then e else σ.p false)))) gs (σ.go s kk d th e) P N H hs:=by
 obtain⟨g,ws,v,c,_,h2,h3,h4,_,rfl⟩:=EN q;have hle:=Di q;have hS:=R.hh kk h hk;have hm:h∈hs:=ud6 hk;have hkl:kk<gs.length:=(ub0.mp h2).1;have nP:h≠P:=A8 hS R.ip (by simp);have nN:h≠N:=λz=>R.nN (by rw[<-z];exact hm);have nH:h≠H:=λz=>R.nH (by rw[<-z];exact hm);have NP:N≠P:=A8 R.it R.ip (by simp);have PH:P≠H:=A8 R.ip R.ih (by simp);refine⟨AK (Ak (Ak R.ip nP) NP),?_,Ak (Ak (Ak R.ih nH) R.ne) PH,R.hl,λi h' hi=>?_,R.nd,R.nN,R.nH,R.ne,R.lP,R.lN,R.lH,R.lh,?_,λi g' hg'=>?_,?_,λi=>?_⟩
 .have e1:(nD σ.st).set kk (.int ((((ws.getD c (Str.ofString "",.nothing,0)).2.2.toNat:Nat)):Int))=nD (σ.go s kk d ((ws.getD c (Str.ofString "",.nothing,0)).2.2.toNat) e).st:=by
   unfold nD Ls.go;rw[List.map_set]
  rw[e1];exact Ak (AK (Ak R.it nN)) (Ne.symm NP)
 .have hp':P≠h':=A8 R.ip (R.hh i h' hi) (by simp);have hn':N≠h':=λz=>R.nN (by rw[z];exact ud6 hi);refine Ak (Ak ?_ hn') hp'
  by_cases z:i=kk
  .subst z;rw[hk] at hi
   cases hi
   show _=some (Ob.lst ((σ.hd.set i (σ.hd.getD i []++[d])).getD i []));rw[EU (by rw[R.ld];exact hkl)];exact AK hS
  .have hne:h≠h':=λy=>z (by
    subst y;exact(List.getElem?_inj (ub0.mp hi).1 R.nd).mp (by rw[hi,hk]))
   show _=some (Ob.lst ((σ.hd.set kk (σ.hd.getD kk []++[d])).getD i []));rw[Cj λy=>z y.symm];exact Ak (R.hh i h' hi) hne
 .show(σ.st.set kk _).length=_;rw[uj1];exact R.ls
 .show(σ.st.set kk _).getD i 0<_
  by_cases z:kk=i
  .subst z;rw[h2] at hg'
   cases hg'
   have hso:=(hg g (ud6 h2)).all (.st (sd s) ws) (by
    have hlo:=R.lo kk g h2;rw[<-h3];unfold Bd;rw[ua9 (l:=g),ub4 hlo];exact ui0 hlo)
   have:=NV hso (Nx h4);rw[EU (by rw[R.ls];exact hkl)];lia
  .rw[Cj z];exact R.lo i g' hg'
 .show(σ.hd.set kk _).length=_;rw[uj1];exact R.ld
 .show 2*((σ.hd.set kk (σ.hd.getD kk []++[d])).getD i []).length<=(if true=s then e else σ.p true)+(if false=s then e else σ.p false);have hsum:σ.p true+σ.p false+2<=(if true=s then e else σ.p true)+(if false=s then e else σ.p false):=by
   cases s with
   |true=>rw[gE rfl,gG (by decide)];have:σ.p true+2<=e:=hle.1;lia
   |false=>rw[gG (by decide),gE rfl];have:σ.p false+2<=e:=hle.1;lia
  have:=R.fw i
  by_cases z:kk=i
  .subst z;rw[EU (by rw[R.ld];exact hkl),ue8];show 2*(_+1)<=_;lia
  .rw[Cj z];lia
end
variable{H:Nat}
theorem WZ{P N a:Nat}(hg:∀g∈gs,GOk g)(ip:S[P]?=some (.dct (dP 0 0)))(it:S[N]?=some (.lst (nD (gs.map λ_=>0))))(ih:S[H]?=some (.lst ((List.range' a gs.length).map .obj)))(hh:∀i,i<gs.length->S[a+i]?=some (.lst []))(h1:n0<=N)(h2:N<a)(h3:a+gs.length<=H)(h4:n0<=P):Cor n0 S gs (ls0 gs) P N H (List.range' a gs.length):=by
 have hin:∀h,h∈List.range' a gs.length->a<=h/\h<a+gs.length:=λh z=>by rw[List.mem_range'_1] at z;exact z
 have z1:∀i,(ls0 gs).hd.getD i []=[]:=λi=>by
  show(gs.map λ_=>[]).getD i []=[];rw[ua9,uf8]
  cases gs[i]?<;>rfl
 have z2:∀i,(ls0 gs).st.getD i 0=0:=λi=>by
  show(gs.map λ_=>0).getD i 0=0;rw[ua9,uf8]
  cases gs[i]?<;>rfl
 refine⟨ip,it,ih,uf2,λi h hi=>?_,List.nodup_range',λz=>by have:=hin _ z;lia,λz=>by have:=hin _ z;lia,by lia,h4,h1,by lia,λh z=>by have:=hin h z;lia,ui6 ..,λi g z=>by rw[z2];exact(hg g (ud6 z)).ne,ui6 ..,λi=>by rw[z1];exact un3 _⟩;clear 5(ub0.mp hi)hl hv;rw[uf2] at hl;rw[List.getElem_range'] at hv;rw[z1,<-hh i hl]
 congr 1
 lia
def Hs(f:Fn):Prop:=∀(n0:Nat) (S:List Ob) (gs:List (List GS)) (w:Bool->List Nat) (σ:Ls) (k W P N H:Nat) (hs:List Nat) (s:Bool),Ok2 gs w->(∀s,σ.p s<=(w s).length)->Cor n0 S gs σ P N H hs->S[k]?=some (.ins "Listener" (liF gs W P N H))->S[W]?=some (.dct (dW (w true) (w false)))->Wf f [.obj k,.str (sd s)] S λr S'=>Gr S S'/\nrO S S' s r (σ.nx gs w s)
theorem MT{ce:Fn}(hm:Ri cm)(he:Jy ce):Hs (fnOf 2 5 (De cm ce)):=by
 intro n0 S gs w σ k W P N H hs s ⟨hg,hgl,hw⟩ hp R ik iw;have hws:=hw s;have hps:=hp s;rw[9,De];rw[6,Cn ik rfl];have hx:Wir S (.lst (wD (w s))) (w s):=.inl rfl;rw[6,AE iw (lrF (λs=>.lst (wD (w s))) s)];rw[6,Cn ik rfl];rw[6,AE R.ip (lrF (λs=>.int (σ.p s:Nat)) s)];rw[AF];unfold Ls.nx
 cases hb:(w s)[σ.p s]? with
 |none=>
   have hpl:¬σ.p s<(w s).length:=by rw[ub3] at hb;lia
   rw[Mb hb];refine Bj (by simp;lia) ?_;symm;refine⟨rfl,?_⟩;symm;exact⟨.refl,rfl⟩
 |some j=>
   obtain⟨hpl,_⟩:=ub0.mp hb;refine Be (by simp;lia) ?_;symm;rw[6,O6 hx hb];refine Cn ik rfl ?_;unfold gsD;symm;rw[ui6]
   cases h2:gs[j]? with
   |none=>
     have hcl:¬j<gs.length:=by rw[ub3] at h2;lia
     rw[NB hb h2];refine Bj (by simp;lia) ?_;symm;exact⟨.refl,rfl⟩
   |some g=>
     obtain⟨hjl,_⟩:=ub0.mp h2;have hgo:=hg g (ud6 h2);have hlo:=R.lo j g h2;have hgx:g[σ.st.getD j 0]?=some (Bd g (σ.st.getD j 0)):=by unfold Bd;rw[ua9 (l:=g),ub4 hlo];rfl
     have hso:=hgo.all _ (ud6 hgx);refine Be (by simp;lia) ?_;symm;refine Cn ik rfl ?_;unfold gsD;symm;rw[6,O6 hx hb];refine AM (DQ (d:=.lst (g.map GS.d)) (by rw[uf8,h2];rfl)) ?_;symm;rw[6,Cn ik rfl];rw[6,O6 hx hb];refine Kf R.it (LZ (by rw[R.ls];exact hjl)) ?_;symm;refine AM (DQ (d:=(Bd g (σ.st.getD j 0)).d) (by rw[uf8,hgx];rfl)) ?_;symm;rw[6,(he _ _ hso).use]
     cases h3:Bd g (σ.st.getD j 0) with
     |fin=>
       rw[Nz hb h2 h3];rw[6,Bj rfl];exact⟨.refl,rfl⟩
     |st y ws=>
       rw[h3] at hso;refine Be rfl ?_;rw[GS.d];symm
       by_cases q:y=sd s
       .subst q;have hm':=hm _ _ ws (w s) (σ.p s+1) S hso hpl ∅;rw[6,Be (by simp)];exact hm'.mono λr S' ⟨g1,g2⟩=>⟨g1,SA hb h2 h3 (λc v e z=>(NV hso (Nx z)).1) g2⟩
       .rw[NA hb h2 h3 q];rw[6,Bj (by simp[q])];refine⟨rfl,?_⟩;symm;exact⟨.refl,rfl⟩
def Lc(f:Fn):Prop:=∀(n0:Nat) (S:List Ob) (gs:List (List GS)) (w:Bool->List Nat) (σ:Ls) (k W P N H:Nat) (hs:List Nat) (s:Bool),Ok2 gs w->(∀s,σ.p s<=(w s).length)->Cor n0 S gs σ P N H hs->S[k]?=some (.ins "Listener" (liF gs W P N H))->S[W]?=some (.dct (dW (w true) (w false)))->Wf f [.obj k,.str (sd s)] S λr S'=>Gr S S'/\nwO S S' r (σ.nx gs w s)
theorem OF(hc:Hs c):Lc (fnOf 2 2 (B1 c)):=by
 intro n0 S gs w σ k W P N H hs s hok hp R ik iw;rw[9,B1];refine⟨k,_,rfl,ik,?_⟩;symm;refine(hc n0 S gs w σ k W P N H hs s hok hp R ik iw).mono λr1 S1 z9=>?_;clear 5 z9 hG h
 cases e:σ.nx gs w s with
 |stop=>
   rw[e] at h;have h:r1=.non:=h;subst h;symm;exact⟨hG,rfl⟩
 |brk j=>
   rw[e] at h;have h:r1=.exc "Broken" [.int (j:Nat),.str (sd s)]:=h;subst h;symm;exact⟨hG,rfl⟩
 |msg a b c d=>
   rw[e] at h;clear 5 h d1 fp rfl h2 h3;symm;exact⟨hG,d1,fp,rfl,h2,h3⟩
def La(f:Fn):Prop:=∀(S:List Ob) (k:Nat) (gs:List (List GS)) (w:Bool->List Nat),Ok2 gs w->S[k]?=some (.ins "Listener" [])->Wf f [.obj k,gsD gs,.lst (wD (w true)),.lst (wD (w false))] S λq S'=>q=.non/\Kp k S S'/\XN5 λW P N H hs=>AN4 (Cor k S' gs (ls0 gs) P N H hs) (S'[k]?=some (.ins "Listener" (liF gs W P N H))) (S'[W]?=some (.dct (dW (w true) (w false)))) (P≠W)
theorem Qc:La (fnOf 4 4 DA):=by
 intro S k gs w ⟨hg,hgl,hw⟩ hk;have hL:LIM=100000:=rfl;have hkl:=Br hk;rw[9,DA];refine FC hk (by show 0<1000;decide) ?_;have k1:Kp k S (S.set k (.ins "Listener" [("grammars",gsD gs)])):=Kp.refl.setk;have g1:(S.set k (.ins "Listener" [("grammars",gsD gs)]))[k]?=some (.ins "Listener" [("grammars",gsD gs)]):=AK hk;show FU _ _ Out.next ⟨_,S.set k (.ins "Listener" [("grammars",gsD gs)])⟩;generalize S.set k (.ins "Listener" [("grammars",gsD gs)])=S1 at k1 g1⊢;have n1:=Br g1;symm;rw[6,EH];refine⟨AS,?_⟩;symm;have a1:((S1++[Ob.dct []]).set S1.length (.dct (dW (w true) (w false))))[k]?=some (.ins "Listener" [("grammars",gsD gs)]):=Ak (AT g1) ∅;refine FC a1 (by show 1<1000;decide) ?_;obtain⟨W,hW⟩:∃W,W=S1.length:=⟨_,rfl⟩;rw[<-hW] at a1⊢;have w2:(((S1++[Ob.dct []]).set W (.dct (dW (w true) (w false)))).set k (.ins "Listener" [("grammars",gsD gs),("wires",.obj W)]))[W]?=some (.dct (dW (w true) (w false))):=Ak (by rw[hW];exact AK AS) ∅;have g2:(((S1++[Ob.dct []]).set W (.dct (dW (w true) (w false)))).set k (.ins "Listener" [("grammars",gsD gs),("wires",.obj W)]))[k]?=some (.ins "Listener" [("grammars",gsD gs),("wires",.obj W)]):=AK a1;have k2:Kp k S (((S1++[Ob.dct []]).set W (.dct (dW (w true) (w false)))).set k (.ins "Listener" [("grammars",gsD gs),("wires",.obj W)])):=(k1.app.set (by have:=k1.1;lia)).setk;show FU _ _ Out.next ⟨_,((S1++[Ob.dct []]).set W (.dct (dW (w true) (w false)))).set k (.ins "Listener" [("grammars",gsD gs),("wires",.obj W)])⟩;generalize ((S1++[Ob.dct []]).set W (.dct (dW (w true) (w false)))).set k (.ins "Listener" [("grammars",gsD gs),("wires",.obj W)])=S2 at w2 g2 k2⊢;have n2:=Br w2;clear a1;symm;rw[6,EH];refine⟨AS,?_⟩;symm;have n2k:=Br g2;have a2:((S2++[Ob.dct []]).set S2.length (.dct (dP 0 0)))[k]?=some (.ins "Listener" [("grammars",gsD gs),("wires",.obj W)]):=Ak (AT g2) ∅;refine FC a2 (by show 2<1000;decide) ?_;obtain⟨P,hP⟩:∃P,P=S2.length:=⟨_,rfl⟩;rw[<-hP] at a2⊢;have p3:(((S2++[Ob.dct []]).set P (.dct (dP 0 0))).set k (.ins "Listener" [("grammars",gsD gs),("wires",.obj W),("places",.obj P)]))[P]?=some (.dct (dP 0 0)):=Ak (by rw[hP];exact AK AS) ∅;have w3:(((S2++[Ob.dct []]).set P (.dct (dP 0 0))).set k (.ins "Listener" [("grammars",gsD gs),("wires",.obj W),("places",.obj P)]))[W]?=some (.dct (dW (w true) (w false))):=Ak (Ak (AT w2) ∅) ∅;have g3:(((S2++[Ob.dct []]).set P (.dct (dP 0 0))).set k (.ins "Listener" [("grammars",gsD gs),("wires",.obj W),("places",.obj P)]))[k]?=some (.ins "Listener" [("grammars",gsD gs),("wires",.obj W),("places",.obj P)]):=AK a2;have k3:Kp k S (((S2++[Ob.dct []]).set P (.dct (dP 0 0))).set k (.ins "Listener" [("grammars",gsD gs),("wires",.obj W),("places",.obj P)])):=(k2.app.set (by have:=k2.1;lia)).setk;show FU _ _ Out.next ⟨_,((S2++[Ob.dct []]).set P (.dct (dP 0 0))).set k (.ins "Listener" [("grammars",gsD gs),("wires",.obj W),("places",.obj P)])⟩;generalize ((S2++[Ob.dct []]).set P (.dct (dP 0 0))).set k (.ins "Listener" [("grammars",gsD gs),("wires",.obj W),("places",.obj P)])=S3 at p3 w3 g3 k3⊢;have n3:=Br p3;clear a2;unfold gsD;symm;refine(Kr (λg:List GS=>D.lst (g.map GS.d)) gs S3 _).mono λr t' z9=>?_;clear 5 z9 e1 e2;subst e1;clear 5 t' ev S3';have e2:S3'=S3:=e2;subst e2;have n3k:=Br g3;symm;refine AO (by unfold nD;rw[ui6,ui6,hL];lia) ?_;symm;obtain⟨Z,hZ⟩:∃Z,Z=nD (gs.map λ_=>0):=⟨_,rfl⟩;rw[<-hZ];have a3:(S3'++[Ob.lst Z])[k]?=some (.ins "Listener" [("grammars",gsD gs),("wires",.obj W),("places",.obj P)]):=AT g3;refine FC a3 (by show 3<1000;decide) ?_;obtain⟨N,hN⟩:∃N,N=S3'.length:=⟨_,rfl⟩;have t4:((S3'++[Ob.lst Z]).set k (.ins "Listener" [("grammars",gsD gs),("wires",.obj W),("places",.obj P),("standings",.obj N)]))[N]?=some (.lst Z):=Ak (by rw[hN];exact AS) ∅;have p4:((S3'++[Ob.lst Z]).set k (.ins "Listener" [("grammars",gsD gs),("wires",.obj W),("places",.obj P),("standings",.obj N)]))[P]?=some (.dct (dP 0 0)):=Ak (AT p3) ∅;have w4:((S3'++[Ob.lst Z]).set k (.ins "Listener" [("grammars",gsD gs),("wires",.obj W),("places",.obj P),("standings",.obj N)]))[W]?=some (.dct (dW (w true) (w false))):=Ak (AT w3) ∅;have g4:((S3'++[Ob.lst Z]).set k (.ins "Listener" [("grammars",gsD gs),("wires",.obj W),("places",.obj P),("standings",.obj N)]))[k]?=some (.ins "Listener" [("grammars",gsD gs),("wires",.obj W),("places",.obj P),("standings",.obj N)]):=AK a3;have k4:Kp k S ((S3'++[Ob.lst Z]).set k (.ins "Listener" [("grammars",gsD gs),("wires",.obj W),("places",.obj P),("standings",.obj N)])):=k3.app.setk;show FU _ _ Out.next ⟨[vw (.obj k),vw (gsD gs),vw (.lst (wD (w true))),vw (.lst (wD (w false)))],(S3'++[Ob.lst Z]).set k (.ins "Listener" [("grammars",gsD gs),("wires",.obj W),("places",.obj P),("standings",.obj S3'.length)])⟩;rw[<-hN];generalize (S3'++[Ob.lst Z]).set k (.ins "Listener" [("grammars",gsD gs),("wires",.obj W),("places",.obj P),("standings",.obj N)])=S4 at t4 p4 w4 g4 k4⊢;have n4:=Br t4;have n4k:=Br g4;clear a3;unfold gsD;symm;refine(Gj (λg:List GS=>D.lst (g.map GS.d)) gs S4 _).mono λr t' z9=>?_;clear 5 z9 e1 e2;subst e1;clear 5 t' ev S5;have e2:S5=S4++List.replicate gs.length (.lst []):=e2;symm;refine AO (by rw[ui6,uf2,hL];lia) ?_;symm;have g5:S5[k]?=some (.ins "Listener" [("grammars",gsD gs),("wires",.obj W),("places",.obj P),("standings",.obj N)]):=by rw[e2];exact Fc g4
 have l5:S5.length=S4.length+gs.length:=by rw[e2,ue8,uc7]
 refine FC (AT g5) (by show 4<1000;decide) ?_;have hk4:=k4.1;refine⟨rfl,by rw[e2];exact k4.appL.app.setk,W,P,N,S5.length,List.range' S4.length gs.length,?_⟩;have hPW:P≠W:=by lia
 refine⟨WZ hg ?_ ?_ (Ak AS ∅) (λi hi=>?_) ∅ ∅ ∅ ∅,AK (AT g5),?_,hPW⟩
 .rw[e2];exact Ak (AT (Fc p4)) ∅
 .rw[e2];exact Ak (AT (Fc (by rw[t4,hZ]))) ∅
 .refine Ak (AT ?_) ∅;rw[e2,ua6 ∅,ub9,ub6,gE hi]
 .rw[e2];exact Ak (AT (Fc w4)) ∅
theorem Ow.isl:∀{d v:D}{fp:List Nat},Ow S d v fp->∀k∈fp,∃ds,S[k]?=some (.lst ds):=by
 intro d v fp r;refine Ow.rec (motive_1:=λ_ _ fp _=>∀k∈fp,∃ds,S[k]?=some (.lst ds)) (motive_2:=λ_ _ fp _=>∀k∈fp,∃ds,S[k]?=some (.lst ds)) ?_ ?_ ?_ ?_ ?_ ?_ ?_ r
 .exact λk h=>nomatch h
 .exact λ_ k h=>nomatch h
 .exact λ_ k h=>nomatch h
 .exact λ_ h=>h
 .exact λe _ _ h k hk=>(uk8.mp hk).elim (λz=>by rw[z];exact⟨_,e⟩) (h k)
 .exact λk h=>nomatch h
 .exact λ_ _ _ a b k hk=>(ui4.mp hk).elim (a k) (b k)
theorem Ows.isl{S:List Ob}{ds vs:List D}{fp:List Nat}(r:Ows S ds vs fp):∀k∈fp,∃ds,S[k]?=some (.lst ds):=Ow.isl (.tup r)
theorem Ow.tupI(h:Ow S (.tup ds) (.tup vs) fp):Ows S ds vs fp:=by cases h;assumption
theorem Ows.tup_snoc{d:D}{fp1:List Nat}(h:Ow S (.tup ds) (.tup vs) fp)(o:Ow S d v fp1)(n:∀k∈fp,k∉fp1):Ow S (.tup (ds++[d])) (.tup (vs++[v])) (fp++fp1):=.tup (Ows.snoc o h.tupI n)
theorem Qy{S:List Ob}{d m:D}{fp1:List Nat}(o:Ow S d m fp1):∀(kk:Nat) (dd hd:List (List D)) (fp:List Nat),kk<hd.length->Ows S (dd.map D.tup) (hd.map D.tup) fp->(∀k∈fp,k∉fp1)->∃fp',Ows S ((dd.set kk (dd.getD kk []++[d])).map D.tup) ((hd.set kk (hd.getD kk []++[m])).map D.tup) fp'/\∀k∈fp',k∈fp\/k∈fp1
 |_,_,[],_,h,_,_=>absurd h (uj8 _)
 |_,[],_::_,_,_,r,_=>nomatch r
 |0,a::dd,b::hd,fp,_,r,n=>by
   cases r with
   |cons x y z=>
     refine⟨_,.cons (Ows.tup_snoc x o λk hk=>n k (ud4 _ hk)) y λk hk q=>?_,λk hk=>?_⟩
     .rcases ui4.mp hk with w|w
      .exact z k w q
      .exact n k (uc6 _ q) w
     .rcases ui4.mp hk with w|w
      .rcases ui4.mp w with w|w
       .exact .inl (ud4 _ w)
       .exact .inr w
      .exact .inl (uc6 _ w)
 |kk+1,a::dd,b::hd,fp,h,r,n=>by
   cases r with
   |@cons _ _ f1 f2 _ _ x y z=>
     obtain⟨fp',q1,q2⟩:=Qy o kk dd hd f2 (Nat.lt_of_succ_lt_succ h) y λk hk=>n k (uc6 _ hk);refine⟨_,.cons x q1 λk hk q=>?_,λk hk=>?_⟩
     .rcases q2 k q with w|w
      .exact z k hk w
      .exact n k (ud4 _ hk) w
     .rcases ui4.mp hk with w|w
      .exact .inl (ud4 _ w)
      .exact(q2 k w).imp (uc6 _) id
structure LisO(n0:Nat)(S:List Ob)(gs:List (List GS))(w:Bool->List Nat)(σ:Ls)(k W P N H:Nat)(hs:List Nat)(dd:List (List D))(fp:List Nat):Prop where
 l:Cor n0 S gs ⟨σ.p,σ.st,dd⟩ P N H hs
 ik:S[k]?=some (.ins "Listener" (liF gs W P N H))
 iw:S[W]?=some (.dct (dW (w true) (w false)))
 wp:P≠W
 o:Ows S (dd.map D.tup) (σ.hd.map D.tup) fp
 f:∀x∈fp,n0<=x/\x≠N/\x≠H/\x∉hs
 b:n0<=S.length
section
variable{n0:Nat}{S S':List Ob}{gs:List (List GS)}{w:Bool->List Nat}{σ:Ls}{k W P N H:Nat}{hs:List Nat}{dd:List (List D)}{fp:List Nat}
theorem LisO.gr(R:LisO n0 S gs w σ k W P N H hs dd fp)(G:Gr S S'):LisO n0 S' gs w σ k W P N H hs dd fp:=⟨R.l.gr λh _=>G.get h,G.get R.ik,G.get R.iw,R.wp,R.o.gr G,R.f,um0 R.b G.1⟩
theorem LisO.len(R:LisO n0 S gs w σ k W P N H hs dd fp):σ.hd.length=gs.length:=by
 have:=R.o.length;rw[ui6,ui6] at this;rw[<-this];exact R.l.ld
theorem LisO.go(R:LisO n0 S gs w σ k W P N H hs dd fp)(hg:∀g∈gs,GOk g){s:Bool}{kk th e h:Nat}{m d:D}{fp1:List Nat}(q:σ.nx gs w s=.msg kk m th e)(hk:hs[kk]?=some h)(o:Ow S d m fp1)(hf:∀x∈fp1,n0<=x/\x≠N/\x≠H/\x∉hs/\x∉fp) :
 ∃fp',LisO n0 (((S.set h (.lst (dd.getD kk []++[d]))).set N (.lst ((nD σ.st).set kk (.int (th:Nat))))).set P (.dct (dP (if true=s then e else σ.p true) (if false=s then e else σ.p false)))) gs w (σ.go s kk m th e) k W P N H hs (dd.set kk (dd.getD kk []++[d])) fp':=by
 have R':=R.l.go (d:=d) hg (show Ls.nx ⟨σ.p,σ.st,dd⟩ gs w s=_ from q) hk;have hm:h∈hs:=ud6 hk;have hkl:kk<gs.length:=by rw[<-R.l.hl];exact(ub0.mp hk).1
 obtain⟨fp',o1,o2⟩:=Qy o kk dd σ.hd fp (by rw[R.len];exact hkl) R.o λx hx z=>(hf x z).2.2.2.2 hx;have hall:∀x∈fp',n0<=x/\x≠N/\x≠H/\x∉hs:=λx hx=>by
  rcases o2 x hx with z|z
  .exact R.f x z
  .have:=hf x z;exact⟨this.1,this.2.1,this.2.2.1,this.2.2.2.1⟩
 refine⟨fp',R',R.l.off hk R.ik nofun (A8 R.l.ip R.ik (by simp)),R.l.off hk R.iw nofun R.wp,R.wp,o1.mono λx hx=>?_,hall,by rw[uj1,uj1,uj1];exact R.b⟩;clear 5(Ows.isl o1 x hx)ds hx2;have h3:=hall x hx;rw[ud5 (A8 R.l.ip hx2 (by simp)),ud5 (λz=>h3.2.1 z.symm),ud5 (λz=>h3.2.2.2 (by rw[<-z];exact hm))]
end
def GJ(f:Fn):Prop:=∀(n0:Nat) (S:List Ob) (gs:List (List GS)) (w:Bool->List Nat) (σ:Ls) (k W P N H:Nat) (hs:List Nat) (dd:List (List D)) (fp:List Nat) (s:Bool),Ok2 gs w->(∀s,σ.p s<=(w s).length)->LisO n0 S gs w σ k W P N H hs dd fp->
 Wf f [.obj k,.str (sd s)] S λr S'=>Low n0 S S'/\∃τ dd' fp',Run gs w σ τ/\(∀a b c d,τ.nx gs w s≠.msg a b c d)/\LisO n0 S' gs w τ k W P N H hs dd' fp'/\(r=.bl true/\σ.p s < τ.p s\/r=.bl false/\τ=σ)
variable{hs:List Nat}
theorem LisO.fresh{w:Bool->List Nat}{k W P N:Nat}{dd:List (List D)}(R:LisO n0 S gs w σ k W P N H hs dd fp){x:Nat}(hx:S.length<=x):n0<=x/\x≠N/\x≠H/\x∉hs/\x∉fp:=by
 have:=R.b;refine⟨by lia,λz=>?_,λz=>?_,λz=>?_,λz=>?_⟩
 .have:=Br R.l.it;lia
 .have:=Br R.l.ih;lia
 .clear 5(List.getElem?_of_mem z)i hi;have:=Br (R.l.hh i x hi);lia
 .have:=R.o.lt x z;lia
theorem KN(hc:Lc c):GJ (fnOf 2 5 (CD c)):=by
 intro n0 S gs w σ k W P N H hs dd fp s hok hp R;have hL:LIM=100000:=rfl;rw[9,CD];rw[6,Cn R.ik rfl];rw[6,AE R.l.ip (lrF (λs=>.int (σ.p s:Nat)) s)];refine⟨k,_,rfl,R.ik,?_⟩;symm;refine(hc n0 S gs w ⟨σ.p,σ.st,dd⟩ k W P N H hs s hok hp R.l R.ik R.iw).mono λr1 S1 z9=>?_;clear 5 z9 hG1 h1;symm;refine Ev (λn t=>XN7 λτ S' S0 dd fp r e4=>AN8 (t=⟨[vw (.obj k),vw (.str (sd s)),vw (.int (σ.p s:Nat)),vw r,e4],S'⟩) (Run gs w σ τ) (LisO n0 S0 gs w τ k W P N H hs dd fp) (Gr S0 S') (nwO S0 S' r (τ.nx gs w s)) (Low n0 S S') ((w s).length<=n+τ.p s) ((τ=σ\/σ.p s < τ.p s))) ?_ FG (w s).length _ (by have:=hok.2.2 s;show _<1000000;lia) ⟨σ,S1,S,dd,fp,r1,none,rfl,.refl _,R,hG1,h1,(Low.refl R.b).gr hG1,by lia,.inl rfl⟩;rintro n t ⟨τ,S',S0,dd,fp,r0,e4,rfl,r,R0,hG,hr0,L,hn,ho⟩;have R':=R0.gr hG;have hp':=r.inn hp
 cases q:τ.nx gs w s with
 |msg kk m th e=>
   rw[q] at hr0;clear 5 hr0 d1 fp1 rfl ho1 hf1;obtain⟨g,ws,v,cc,h1,h2,h3,h4,_,_⟩:=EN q;have hle:=Di q;have hkl:kk<gs.length:=(ub0.mp h2).1;obtain⟨h,hk⟩:∃h,hs[kk]?=some h:=⟨_,ub4 (by rw[R'.l.hl];exact hkl)⟩;have hS:=R'.l.hh kk h hk;have hm:h∈hs:=ud6 hk;obtain⟨fp2,R2⟩:=R'.go hok.1 q hk ho1 λx hx=>R0.fresh (hf1 x hx);have nk:h≠k:=A8 hS R'.ik (by simp);have nP:h≠P:=A8 hS R'.l.ip (by simp);have nN:h≠N:=λz=>R'.l.nN (by rw[<-z];exact hm);have Nk:N≠k:=A8 R'.l.it R'.ik (by simp);have NP:N≠P:=A8 R'.l.it R'.l.ip (by simp);symm;refine⟨n-1,by have:τ.p s+2<=e:=hle.1;lia,?_⟩;symm;rw[6,Cn R'.ik rfl];rw[6,AE R'.iw (lrF (λs=>.lst (wD (w s))) s)];rw[6,Cn R'.ik rfl];rw[6,AE R'.l.ip (lrF (λs=>.int (τ.p s:Nat)) s)];rw[6,O6 (.inl rfl) h1];rw[6,O8 (k:=h)];rw[6,Cn R'.ik rfl];refine Kf R'.l.ih (i:=kk) (d:=.obj h) (by rw[uf8,hk];rfl) ?_;refine⟨rfl,_,hS,?_⟩;symm;refine⟨_,dd.getD kk []++[d1],hS,?_,?_⟩
   .have h5:2*(dd.getD kk []).length<=τ.p true+τ.p false:=R'.l.fw kk;have h6:=hp' true;have h7:=hp' false;have h8:=hok.2.2 true;have h9:=hok.2.2 false;simp only[BN];rw[gE (by show(dd.getD kk []).length+1<=_;rw[hL];lia)]
   symm;rw[6,Cn (Ak R'.ik nk) rfl];refine Rb (Ak R'.l.it nN) (by unfold nD;rw[ui6,R'.l.ls];exact hkl) ?_;symm;rw[6,Cn (Ak (Ak R'.ik nk) Nk) rfl];refine BG (Ak (Ak R'.l.ip nP) NP) (by show 2<100000;decide) ?_;rw[Pv];symm;refine⟨k,_,rfl,R2.ik,?_⟩;symm;have st:Stp gs w τ s (τ.go s kk m th e):=⟨kk,m,th,e,q,rfl⟩;have r2:Run gs w σ (τ.go s kk m th e):=r.trans (.one st);have pe:(τ.go s kk m th e).p s=e:=gE rfl;refine(hc n0 _ gs w ⟨(τ.go s kk m th e).p,(τ.go s kk m th e).st,dd.set kk (dd.getD kk []++[d1])⟩ k W P N H hs s hok (r2.inn hp) R2.l R2.ik R2.iw).mono λr3 S3 z9=>?_;clear 5 z9 hG3 h3;symm;exact⟨τ.go s kk m th e,S3,_,_,fp2,r3,_,rfl,r2,R2,hG3,h3,(((L.set (R'.l.lh h hm)).set R'.l.lN).set R'.l.lP).gr hG3,by rw[pe];have:τ.p s+2<=e:=hle.1;lia,.inr (by rw[pe];have:=r.grow.1 s;have:τ.p s+2<=e:=hle.1;lia)⟩
 |stop=>
   rw[q] at hr0;have hr0:r0=.non:=hr0;subst hr0;symm;rw[show(!Je D.non)=false from rfl];dsimp only;symm;rw[6,Cn R'.ik rfl];rw[6,AE R'.l.ip (lrF (λs=>.int (τ.p s:Nat)) s)];refine⟨L,τ,dd,fp,r,(λa b c d z=>by rw[q] at z;cases z),R',?_⟩
   rcases ho with rfl|ho
   .exact .inr ⟨by rw[uk1 ∅],rfl⟩
   .exact .inl ⟨by rw[uk6 ∅],ho⟩
 |brk j=>
   rw[q] at hr0;have hr0:r0=.non:=hr0;subst hr0;symm;rw[show(!Je D.non)=false from rfl];dsimp only;symm;rw[6,Cn R'.ik rfl];rw[6,AE R'.l.ip (lrF (λs=>.int (τ.p s:Nat)) s)];refine⟨L,τ,dd,fp,r,(λa b c d z=>by rw[q] at z;cases z),R',?_⟩
   rcases ho with rfl|ho
   .exact .inr ⟨by rw[uk1 ∅],rfl⟩
   .exact .inl ⟨by rw[uk6 ∅],ho⟩
def prt(g:List GS)(mv:List Mv)(i:Nat):List D:=match mv[i]? with
 |some (p,v)=>.int (p:Int)::AV (B7 g (Jf g 0 (mv.take i)) p).2.1 v
 |none=>[]
structure Due(g:List GS)(mv:List Mv)(rl rr k:Nat):Prop where
 le:k<=mv.length
 a:(GD g sL 0 (mv.take k)).length<=rl
 b:(GD g sR 0 (mv.take k)).length<=rr
 z:k=mv.length\/(k<mv.length/\onS (Bd g (Jf g 0 (mv.take k))).side rl rr<onS (Bd g (Jf g 0 (mv.take k))).side (GD g sL 0 (mv.take k)).length (GD g sR 0 (mv.take k)).length+(prt g mv k).length)
theorem HS(w:List Nat)(r:Nat):wD (w.take r)=(wD w).take r:=by unfold wD;rw[ul3]
noncomputable def nvO:Nat->D->Bool
 |_,.non=>true
 |_,.int _=>true
 |_,.str _=>true
 |n+1,.lst xs=>decide (xs.length<=1000)&&xs.all (nvO n)
 |n+1,.tup xs=>decide (xs.length<=1000)&&xs.all (nvO n)
 |_,_=>false
theorem L8:∀(n:Nat) (v:D),nvO n v=true->nvO (n+1) v=true
 |0,v,h=>by cases v<;>first|rfl|(simp[nvO] at h;done)
 |n+1,v,h=>by
   cases v<;>first|rfl|(simp[nvO] at h;done)|skip
   all_goals
    rw[nvO,uh3,uh7] at h;rw[nvO,uh3,uh7];exact⟨h.1,λd hd=>L8 n d (h.2 d hd)⟩
theorem Ct{n:Nat}{v:D}(h:nvO n v=true):∀m,nvO (n+m) v=true
 |0=>h
 |m+1=>L8 _ _ (Ct h m)
theorem NH:∀{xs:List D},(∀x∈xs,Bg x=true)->Fs xs=true
 |[],_=>rfl
 |x::r,h=>by rw[Fs,h x ue4,NH λy m=>h y (ud3 _ m)];rfl
theorem Io:∀(n:Nat) (v:D),nvO n v=true->Bg v=true
 |0,v,h=>by cases v<;>first|rfl|(simp[nvO] at h;done)
 |n+1,v,h=>by
   cases v<;>first|rfl|(simp[nvO] at h;done)|skip
   all_goals
    rw[nvO,uh3,uh7] at h;rw[Bg];exact NH λx hx=>Io n x (h.2 x hx)
theorem Ms:∀(n:Nat) (v:D),nvO n v=true->Rq n v
 |0,v,h=>by cases v<;>first|exact QN|exact Jr|exact QO|(simp[nvO] at h;done)
 |n+1,v,h=>by
   cases v<;>first|exact QN|exact Jr|exact QO|(simp[nvO] at h;done)|skip
   .rw[nvO,uh3,uh7] at h;exact Yy λx hx=>Ms n x (h.2 x hx)
   .rw[nvO,uh3,uh7] at h;exact Fv λx hx=>Ms n x (h.2 x hx)
theorem JZ{S:List Ob}{n:Nat}(ih:∀{d v:D}{fp:List Nat},Ow S d v fp->nvO n v=true->AI S n d=v):∀{ds vs:List D}{fp:List Nat},Ows S ds vs fp->(∀v∈vs,nvO n v=true)->ds.map (AI S n)=vs
 |_,_,_,.nil,_=>rfl
 |_,_,_,.cons a b _,h=>by rw[uk9,ih a (h _ ue4),JZ ih b λv hv=>h v (ud3 _ hv)]
theorem Jo{S:List Ob}:∀(n:Nat){d v:D}{fp:List Nat},Ow S d v fp->nvO n v=true->AI S n d=v
 |0,d,v,fp,o,h=>by
   cases o<;>first|rfl|(simp[nvO] at h;done)
 |n+1,d,v,fp,o,h=>by
   cases o with
   |non=>rfl
   |int i=>rfl
   |str x=>rfl
   |tup o=>
     rw[nvO,uh3,uh7] at h;rw[AI,JZ (λa b=>Jo n a b) o h.2]
   |obj e o _=>
     rw[nvO,uh3,uh7] at h;unfold AI;rw[e];dsimp only;rw[JZ (λa b=>Jo n a b) o h.2]
theorem HK{S:List Ob}:∀(n:Nat) (v:D),nvO n v=true->AI S n v=v
 |0,v,h=>by cases v<;>first|rfl|(simp[nvO] at h;done)
 |n+1,v,h=>by
   cases v<;>first|rfl|(simp[nvO] at h;done)|skip
   all_goals
    rw[nvO,uh3,uh7] at h;rw[AI]
    congr 1
    rw[ue2 λx hx=>HK n x (h.2 x hx),List.map_id']
theorem Tx{g:Bool->Bool}{x y d:D}(hx:AI t.S 16 x=d)(hy:AI t.S 16 y=d)(hn:nvO 16 d=true)(h:P (.bl (g true)) t):W (eqO g x y) t P:=
 ⟨_,_,by unfold eqO;rw[hx,hy,Io 16 d hn,Ms 16 d hn EQD (by decide)];rfl,h⟩
theorem O5{d:D}{n m1 m2:String}{b1 b2:Bool}(h0:JS d=false)(h1:tyD d=some n)(h2:C1 n m1=some b1)(h3:C1 n m2=some b2)(h:P (.bl (b1||b2)) t):W (Gp [d,.tup [.ty m1,.ty m2]]) t P:=by
 refine⟨_,_,?_,h⟩
 cases d<;>first|(simp only[Gp,h1,h2,h3];done)|cases h0
theorem Q9{k:Nat}{m1 m2:String}{b1 b2:Bool}(e:t.S[k]?=some (.lst ds))(h2:C1 "list" m1=some b1)(h3:C1 "list" m2=some b2)(h:P (.bl (b1||b2)) t):W (Gp [.obj k,.tup [.ty m1,.ty m2]]) t P:=⟨_,_,by simp only[Gp,e,h2,h3],h⟩
local macro_rules | `(tactic| walk_at"y1")=>`(tactic| first
 |walk_at"x1" |clear 32 K6|((with_reducible refine' O5 ?wv ?wu ?wt ?ws ?_);(case wv=>exact rfl);(case wu=>exact rfl);(case wt=>exact rfl);(case ws=>exact rfl)))
theorem Y3{P:Gd×List D->T->Prop}(h:W f t λd t1=>W (F0 d) t1 P):W (LF f) t P:=W_bnd.mpr h
theorem Ui{k:Nat}{P:Gd×List D->T->Prop}(e:t.S[k]?=some (.lst ds))(h:P (some (k,ds),ds) t):W (F0 (.obj k)) t P:=⟨_,_,by simp only[F0,e],h⟩
theorem Uj{P:Gd×List D->T->Prop}(h:P (none,ds) t):W (F0 (.tup ds)) t P:=⟨_,_,rfl,h⟩
theorem KA{S:List Ob}:∀(hs:List Nat) (dd hd:List (List D)) (fp:List Nat),hs.length=dd.length->(∀i h:Nat,hs[i]?=some h->S[h]?=some (.lst (dd.getD i [])))->Ows S (dd.map D.tup) (hd.map D.tup) fp->hs.Nodup->(∀k∈fp,k∉hs)->∃fp',Ows S (hs.map D.obj) (hd.map D.lst) fp'/\∀k∈fp',k∈hs\/k∈fp
 |[],[],hd,fp,_,_,r,_,_=>by
   cases hd with
   |nil=>exact⟨[],.nil,λ_ z=>nomatch z⟩
   |cons a b=>exact nomatch r
 |[],_::_,_,_,hl,_,_,_,_=>nomatch hl
 |_::_,[],_,_,hl,_,_,_,_=>nomatch hl
 |h::hs,d::dd,[],fp,_,_,r,_,_=>nomatch r
 |h::hs,d::dd,x::hd,fp,hl,hh,r,hn,hf=>by
   cases r with
   |@cons _ _ f1 f2 _ _ a b c=>
     have a:=a.tupI;rw[ui9] at hn;obtain⟨fp',q1,q2⟩:=KA hs dd hd f2 (gi hl) (λi h' hi=>hh (i+1) h' hi) b hn.2 λk hk z=>hf k (uc6 _ hk) (ud3 _ z);refine⟨(h::f1)++fp',.cons (.obj (hh 0 h rfl) a λz=>hf h (ud4 _ z) ue4) q1 λk hk z=>?_,λk hk=>?_⟩
     .rcases uk8.mp hk with rfl|hk
      .rcases q2 _ z with w|w
       .exact hn.1 w
       .exact hf _ (uc6 _ w) ue4
      .rcases q2 _ z with w|w
       .exact hf k (ud4 _ hk) (ud3 _ w)
       .exact c k hk w
     .rcases ui4.mp hk with hk|hk
      .rcases uk8.mp hk with rfl|hk
       .exact .inl ue4
       .exact .inr (ud4 _ hk)
      .exact(q2 k hk).imp (ud3 _) (uc6 _)
def tkD(σ:Ls):D:=.tup [.lst (σ.hd.map D.lst),.tup [.int (σ.p true:Nat),.int (σ.p false:Nat)]]
def bsO(gs:List (List GS))(w:Bool->List Nat)(σ:Ls)(S:List Ob)(r:D)(S':List Ob):Prop:=match Dr gs w σ with
 |some (s,j)=>r=.exc "Broken" [.int (j:Nat),.str (sd s)]
 |none=>∃fp,Ow S' r (tkD σ) fp/\∀k∈fp,S.length<=k
def Jx(f:Fn):Prop:=∀(S:List Ob) (gs:List (List GS)) (w:Bool->List Nat),Ok2 gs w->Wf f [gsD gs,.lst (wD (w true)),.lst (wD (w false))] S λr S'=>Gr S S'/\∃σ,End gs w σ/\σ.hd.length=gs.length/\(∀i,2*(σ.hd.getD i []).length<=σ.p true+σ.p false)/\bsO gs w σ S r S'
theorem Ows.getD_len{S:List Ob}:∀{dd hd:List (List D)}{fp:List Nat},Ows S (dd.map D.tup) (hd.map D.tup) fp->∀i,(dd.getD i []).length=(hd.getD i []).length
 |[],[],_,_,i=>rfl
 |[],_::_,_,r,_=>nomatch r
 |_::_,[],_,r,_=>nomatch r
 |a::dd,b::hd,_,r,i=>by
   cases r with
   |cons x y _=>
     cases i with
     |zero=>exact x.tupI.length
     |succ i=>exact Ows.getD_len y i
variable{cr:Fn}
theorem N8{ci:Fn}(hn:Hs cn)(hr:GJ cr)(hi:La ci):Jx (fnOf 3 4 (ED cn cr ci)):=by
 intro S gs w hok;have hL:LIM=100000:=rfl;rw[9,ED];refine(hi _ S.length gs w hok AS).mono λr S1 z9=>?_;clear 5 z9 e K W P N H hs R0 hk0 hW0 hPW;refine⟨e,?_⟩;have G1:Gr S S1:=⟨by have:=K.1;rw[ue8] at this;lia,λi h=>by rw[K.2 i (by rw[ue8];lia) ∅];exact ub1 h⟩;have hn0:S.length<=S1.length:=G1.1;have R:LisO S.length S1 gs w (ls0 gs) S.length W P N H hs (ls0 gs).hd []:=by
  refine⟨R0,hk0,hW0,hPW,?_,(λ_ z=>nomatch z),hn0⟩;show Ows S1 ((gs.map λ_=>[]).map D.tup) ((gs.map λ_=>[]).map D.tup) [];generalize gs=l
  induction l with
  |nil=>exact .nil
  |cons a b ih=>exact .cons (.tup .nil) ih (λ_ z=>nomatch z)
 symm;refine Ev (λn t=>XN4 λτ S' dd fp=>AN5 (t=⟨[vw (gsD gs),vw (.lst (wD (w true))),vw (.lst (wD (w false))),vw (.obj S.length)],S'⟩) (Run gs w (ls0 gs) τ) (LisO S.length S' gs w τ S.length W P N H hs dd fp) (Low S.length S1 S') ((w true).length+(w false).length<=n+τ.p true+τ.p false)) ?_ FG ((w true).length+(w false).length) _ (by have:=hok.2.2 true;have:=hok.2.2 false;show _<1000000;lia) ⟨ls0 gs,S1,_,_,rfl,.refl _,R,.refl hn0,by lia⟩;rintro n t ⟨τ,S',dd,fp,rfl,r,R',L,hm⟩;have hp':∀s,τ.p s<=(w s).length:=r.inn λ_=>un3 _;symm;refine⟨S.length,_,rfl,R'.ik,?_⟩;symm;refine(hr S.length S' gs w τ S.length W P N H hs dd fp true hok hp' R').mono λq S2 z9=>?_;clear 5 z9 L2 τ2 dd2 fp2 r2 x2 R2 o2;rcases o2 with⟨rfl,lt⟩|⟨rfl,rfl⟩
 .symm;have h1:=r2.grow.1 false;have h2:=(r.trans r2).inn (λ_=>un3 _) true;refine⟨n-1,by have:=hp' true;have:=hp' false;lia,?_⟩;symm;exact⟨τ2,S2,dd2,fp2,rfl,r.trans r2,R2,L.trans L2,by lia⟩
 .symm;refine⟨S.length,_,rfl,R2.ik,?_⟩;symm;refine(hr S.length S2 gs w τ2 S.length W P N H hs dd2 fp2 false hok hp' R2).mono λq S3 z9=>?_;clear 5 z9 L3 τ3 dd3 fp3 r3 x3 R3 o3;rcases o3 with⟨rfl,lt⟩|⟨rfl,rfl⟩
  .symm;have h1:=r3.grow.1 true;refine⟨n-1,by have:=hp' true;have:=hp' false;have:=(r.trans r3).inn (λ_=>un3 _) false;lia,?_⟩;symm;exact⟨τ3,S3,dd3,fp3,rfl,r.trans r3,R3,(L.trans L2).trans L3,by lia⟩
  .symm;have hE:End gs w τ3:=⟨r,λs=>by cases s;exact x3;exact x2⟩;have hG:Gr S S3:=⟨L3.1,λi h=>(((L.trans L2).trans L3).2 i h).trans (G1.2 i h)⟩;have hfw:∀i,2*(τ3.hd.getD i []).length<=τ3.p true+τ3.p false:=λi=>by rw[<-Ows.getD_len R3.o i];exact R3.l.fw i
   have hld:=R3.len;refine⟨S.length,_,rfl,R3.ik,?_⟩;symm;refine(hn S.length S3 gs w ⟨τ3.p,τ3.st,dd3⟩ S.length W P N H hs true hok hp' R3.l R3.ik R3.iw).mono λq S4 z9=>?_;clear 5 z9 G4 h4;have hE1:Ls.nx ⟨τ3.p,τ3.st,dd3⟩ gs w true=τ3.nx gs w true:=rfl;rw[hE1] at h4;have R4:=R3.gr G4
   cases e1:τ3.nx gs w true with
   |msg a b c d=>exact absurd e1 (x2 a b c d)
   |brk j=>
     rw[e1] at h4;have h4:q=.exc "Broken" [.int (j:Nat),.str (sd true)]:=h4;subst h4;symm;refine⟨hG.trans G4,τ3,hE,hld,hfw,?_⟩;unfold bsO Dr;rw[e1];rfl
   |stop=>
     rw[e1] at h4;have h4:q=.non:=h4;subst h4;symm;refine⟨S.length,_,rfl,R4.ik,?_⟩;symm;refine(hn S.length S4 gs w ⟨τ3.p,τ3.st,dd3⟩ S.length W P N H hs false hok hp' R4.l R4.ik R4.iw).mono λq S5 z9=>?_;clear 5 z9 G5 h5;have hE2:Ls.nx ⟨τ3.p,τ3.st,dd3⟩ gs w false=τ3.nx gs w false:=rfl;rw[hE2] at h5;have R5:=R4.gr G5
     cases e2:τ3.nx gs w false with
     |msg a b c d=>exact absurd e2 (x3 a b c d)
     |brk j=>
       rw[e2] at h5;have h5:q=.exc "Broken" [.int (j:Nat),.str (sd false)]:=h5;subst h5;symm;refine⟨(hG.trans G4).trans G5,τ3,hE,hld,hfw,?_⟩;unfold bsO Dr;rw[e1,e2];rfl
     |stop=>
       rw[e2] at h5;have h5:q=.non:=h5;subst h5;symm;rw[6,Cn R5.ik rfl];rw[6,Cn R5.ik rfl];rw[6,AE R5.l.ip (lrF (λs=>.int (τ3.p s:Nat)) true)];rw[6,Cn R5.ik rfl];rw[6,AE R5.l.ip (lrF (λs=>.int (τ3.p s:Nat)) false)];refine⟨rfl,?_⟩;symm;refine⟨(hG.trans G4).trans G5,τ3,hE,hld,hfw,?_⟩;unfold bsO Dr;rw[e1,e2];obtain⟨fp',q1,q2⟩:=KA hs dd3 τ3.hd fp3 (by rw[R5.l.hl];exact R5.l.ld.symm) R5.l.hh R5.o R5.l.nd λk hk=>(R5.f k hk).2.2.2;have hH:H∉fp':=λz=>(q2 H z).elim R5.l.nH λz=>(R5.f H z).2.2.1 rfl;refine⟨H::fp'++[],.tup (.cons (.obj R5.l.ih q1 hH) (.cons (.tup (.cons (.int _) (.cons (.int _) .nil (λ_ z=>nomatch z)) (λ_ z=>nomatch z))) .nil (λ_ z=>nomatch z)) (λ_ _ z=>nomatch z)),λk hk=>?_⟩;rw[ui8] at hk;rcases uk8.mp hk with rfl|hk
       .have:=R5.l.ne;exact R5.l.lH
       .rcases q2 k hk with z|z
        .exact R5.l.lh k z
        .exact(R5.f k z).1
def frD:NR->D
 |.stop=>.tup [.str (Str.ofString "waits")]
 |.brk j=>.tup [.str (Str.ofString "broken"),.int (j:Nat)]
 |.msg k m th e=>.tup [.str (Str.ofString "read"),.int (k:Nat),m,.int (th:Nat),.int (e:Nat)]
def K9(f:Fn):Prop:=∀(S:List Ob) (gs:List (List GS)) (w:List Nat) (st:List Nat) (K p:Nat) (s:Bool),(∀g∈gs,GOk g)->gs.length<=9->w.length<=25000->B256 w->p<=w.length->S[K]?=some (.lst (nD st))->st.length=gs.length->(∀(i:Nat) (g:List GS),gs[i]?=some g->st.getD i 0<g.length)->PureS S f [gsD gs,.obj K,.str (sd s),.lst (wD w),.int (p:Nat)] (frD (nxR gs w (sd s) p st))
theorem Qa(hc:LRD c 3):K9 (fnOf 5 11 (EW c)):=by
 intro S gs w st K p s hg hgl hw hb hp hK hsl hlo;rw[9,EW];rw[AF]
 cases h1:w[p]? with
 |none=>
   have hpl:¬p<w.length:=by rw[ub3] at h1;lia
   rw[Mb h1];rw[6,Bj (uk6 ∅)];exact⟨rfl,rfl⟩
 |some j=>
   obtain⟨hpl,_⟩:=ub0.mp h1;have hix:atI (wD w) (p:Int)=some (.int (j:Nat)):=BV (Es h1);rw[6,Be (uk1 ∅)];refine AM hix ?_;unfold gsD;symm;rw[ui6]
   cases h2:gs[j]? with
   |none=>
     have hcl:¬j<gs.length:=by rw[ub3] at h2;lia
     rw[NB h1 h2];rw[6,Bj (uk6 ∅)];exact⟨rfl,rfl⟩
   |some g=>
     obtain⟨hjl,_⟩:=ub0.mp h2;have hgo:=hg g (ud6 h2);have hlo:=hlo j g h2;have hgx:g[st.getD j 0]?=some (Bd g (st.getD j 0)):=by unfold Bd;rw[ua9 (l:=g),ub4 hlo];rfl
     have hso:=hgo.all _ (ud6 hgx);have i1:atI (gs.map λg=>D.lst (g.map GS.d)) (j:Int)=some (.lst (g.map GS.d)):=DQ (by rw[uf8,h2];rfl);have i2:(nD st)[j]?=some (.int ((st.getD j 0:Nat):Int)):=LZ (by rw[hsl];exact hjl);have i3:atI (g.map GS.d) ((st.getD j 0:Nat):Int)=some (Bd g (st.getD j 0)).d:=DQ (by rw[uf8,hgx];rfl);rw[6,Be (uk1 ∅)];rw[6,AM i1];rw[6,Kf hK i2];refine AM i3 ?_
     cases h3:Bd g (st.getD j 0) with
     |fin=>
       rw[Nz h1 h2 h3,GS.d];symm;exact⟨rfl,rfl⟩
     |st y ws=>
       rw[h3] at hso i3;rw[GS.d] at i3⊢;symm;rw[6,AM i1];rw[6,Kf hK i2];rw[6,AM i3]
       by_cases q:y=sd s
       .subst q;rw[6,Be (by simp)];rw[AF];unfold nxR;rw[h1];dsimp only;rw[h2];dsimp only;rw[h3];dsimp only;rw[gE rfl];unfold Cs
        cases h4:w[p+1]? with
        |none=>
          have hpl2:¬p+1<w.length:=by rw[ub3] at h4;lia
          rw[6,Bj (uk6 ∅)];exact⟨rfl,rfl⟩
        |some cc=>
          obtain⟨hpl2,_⟩:=ub0.mp h4;have hiy:atI (wD w) ((p:Int)+1)=some (.int (cc:Nat)):=by rw[show((p:Int)+1)=((p+1:Nat):Int) by lia];exact BV (Es h4)
          rw[6,Be (uk1 ∅)];rw[6,AM i1];rw[6,Kf hK i2];rw[6,AM i3];rw[6,AM hiy];rw[ui6];dsimp only
          cases h5:ws[cc]? with
          |none=>
            have hcl:¬cc<ws.length:=by rw[ub3] at h5;lia
            rw[6,Bj (uk6 ∅)];exact⟨rfl,rfl⟩
          |some wd=>
            obtain⟨hcl,_⟩:=ub0.mp h5;have hwo:WOk g.length wd:=by
             cases hso with
             |st _ _ _ _ h=>exact h wd (ud6 h5)
            have hgd:ws.getD cc (Str.ofString "",.nothing,0)=wd:=by rw[ua9,h5];rfl
            rw[6,Be (uk1 ∅)];rw[6,AM hiy];refine AM (Hr h5) ?_;unfold wdD;symm;rw[show((p:Int)+2)=((p+1+1:Nat):Int) by lia];refine(hc wd.2.1 hwo.dep hwo.ok w (p+1+1) hb hw ∅).use ?_;dsimp only;have hth:(wd.2.2.toNat:Int)=wd.2.2:=Int.toNat_of_nonneg hwo.lo
            cases h6:(pSh 3 wd.2.1).run w (p+1+1) with
            |told v e=>
              rw[lrT];symm;refine⟨?_,rfl⟩;dsimp only;rw[hgd,frD,hth]
            |short=>
              rw[lrT];symm;exact⟨rfl,rfl⟩
            |broken k=>
              rw[lrT];symm;exact⟨rfl,rfl⟩
       .rw[NA h1 h2 h3 q];rw[6,Bj (by simp[q])];exact⟨rfl,rfl⟩
theorem P8(k:Key)(d:D)(l:List (Key×D)):Bf (kvPut l k d) k=some d:=by
 unfold Bf kvPut
 induction l with
 |nil=>
   rw[List.any_nil,gG ue5,uj3,uj4,uk6 rfl];rfl
 |cons a r ih=>
   by_cases e:a.1=k
   .rw[gE (by rw[ul2,uk6 e,Bool.true_or]),uk9,gE e,uj4,uk6 (show(a.1,d).1=k from e)];rfl
   .rw[ul2,uk1 e,ul4]
    by_cases h:(r.any λkv=>decide (kv.1=k))=true
    .rw[gE h] at ih⊢;rw[uk9,gG e,uj4,uk1 e];exact ih
    .rw[gG h] at ih⊢;rw[ui2,uj4,uk1 e];exact ih
structure DuAt(n0:Nat)(S:List Ob)(gs:List (List GS))(w:Bool->List Nat)(σ:Ls)(K N T P F:Nat)(ts:List Nat):Prop where
 c:Cor n0 S gs σ P N T ts
 iK:S[K]?=some (.dct (dW (w true) (w false)))
 nF:P≠F
 lK:K<n0
 lF:n0<=F
section
variable{n0:Nat}{S:List Ob}{gs:List (List GS)}{w:Bool->List Nat}{σ:Ls}{K N T P F:Nat}{ts:List Nat}
theorem DuAt.setF{fl fl':List (Key×D)}(R:DuAt n0 S gs w σ K N T P F ts)(hF:S[F]?=some (.dct fl)):DuAt n0 (S.set F (.dct fl')) gs w σ K N T P F ts:=by
 have:=R.lK;have:=R.lF;refine⟨R.c.gr λ{i o} ho hp=>Ak ho λz=>?_,Ak R.iK ∅,R.nF,R.lK,R.lF⟩;subst z;rw[hF] at ho;exact R.nF (hp fl (ui5 ho).symm).symm
theorem DuAt.go(R:DuAt n0 S gs w σ K N T P F ts)(hg:∀g∈gs,GOk g){s:Bool}{kk th e h:Nat}{m:D}(q:σ.nx gs w s=.msg kk m th e)(hk:ts[kk]?=some h) :
 DuAt n0 (((S.set h (.lst (σ.hd.getD kk []++[m]))).set N (.lst ((nD σ.st).set kk (.int (th:Nat))))).set P (.dct (dP (if true=s then e else σ.p true) (if false=s then e else σ.p false)))) gs w (σ.go s kk m th e) K N T P F ts:=
 ⟨R.c.go hg q hk,R.c.off hk R.iK nofun (by have:=R.lK;have:=R.c.lP;lia),R.nF,R.lK,R.lF⟩
end
abbrev duT(gs:List (List GS))(K N T P F:Nat)(ag:Bool)(e7:Option Sl)(S:List Ob):L2.T:=⟨[vw (gsD gs),vw (.obj K),vw (.obj N),vw (.obj T),vw (.obj P),vw (.obj F),vw (.bl ag),e7],S⟩
set_option tactic.hygienic true in
theorem GP(hc:K9 c){n0:Nat}{S:List Ob}{gs:List (List GS)}{w:Bool->List Nat}{σ:Ls}{K N T P F:Nat}{ts:List Nat}{fl:List (Key×D)}{ag:Bool}{Q:Out->L2.T->Prop}(hok:Ok2 gs w)(hB:∀s,B256 (w s))(hp:∀s,σ.p s<=(w s).length)(hn0:n0<=S.length)(R:DuAt n0 S gs w σ K N T P F ts)(hF:S[F]?=some (.dct fl))(hfl:fl.length<=2)(s:Bool)
 (k1:∀S',DuAt n0 S' gs w σ K N T P F ts->S'[F]?=some (.dct (kvPut fl (.inr (sd s)) (frD (σ.nx gs w s))))->Low n0 S S'->(∀k m th e,σ.nx gs w s≠.msg k m th e)->Q .next (duT gs K N T P F ag (vw (.str (sd s))) S'))
 (k2:∀S' k m th e,σ.nx gs w s=.msg k m th e->DuAt n0 S' gs w (σ.go s k m th e) K N T P F ts->S'[F]?=some (.dct (kvPut fl (.inr (sd s)) (frD (σ.nx gs w s))))->Low n0 S S'->Q .next (duT gs K N T P F true (vw (.str (sd s))) S')) :
 L2.W (duB c) (duT gs K N T P F ag (vw (.str (sd s))) S) Q:=by
 have hL:LIM=100000:=rfl;have Lw:Low n0 S S:=.refl hn0;unfold duB;symm;rw[6,AE R.iK (lrF (λs=>.lst (wD (w s))) s)];rw[6,AE R.c.ip (lrF (λs=>.int (σ.p s:Nat)) s)];rw[6,(hc S gs (w s) σ.st N (σ.p s) s hok.1 hok.2.1 (hok.2.2 s) (hB s) (hp s) R.c.it R.c.ls R.c.lo).use];refine BG hF (by rw[hL];lia) ?_;have hx:nxR gs (w s) (sd s) (σ.p s) σ.st=σ.nx gs w s:=rfl;rw[hx];have R1:=R.setF (fl':=kvPut fl (.inr (sd s)) (frD (σ.nx gs w s))) hF;have hF1:(S.set F (.dct (kvPut fl (.inr (sd s)) (frD (σ.nx gs w s)))))[F]?=some (.dct (kvPut fl (.inr (sd s)) (frD (σ.nx gs w s)))):=AK hF;have L1:Low n0 S (S.set F (.dct (kvPut fl (.inr (sd s)) (frD (σ.nx gs w s))))):=Lw.set R.lF;have hget:=P8 (.inr (sd s)) (frD (σ.nx gs w s)) fl;generalize kvPut fl (.inr (sd s)) (frD (σ.nx gs w s))=fl1 at *;show FU _ _ Out.next ⟨_,S.set F (.dct fl1)⟩;generalize S.set F (.dct fl1)=S1 at *;symm;refine AE hF1 hget ?_
 cases q:σ.nx gs w s with
 |stop=>
   rw[frD];symm;exact k1 S1 R1 hF1 L1 λk m th e z=>by rw[q] at z;cases z
 |brk j=>
   rw[frD];symm;exact k1 S1 R1 hF1 L1 λk m th e z=>by rw[q] at z;cases z
 |msg kk m th e=>
   rw[q,frD] at hget;rw[frD];obtain⟨g,ws,v,cc,h1,h2,h3,h4,_,_⟩:=EN q;have hle:=Di q;have hkl:kk<gs.length:=(ub0.mp h2).1;obtain⟨h,hk⟩:∃h,ts[kk]?=some h:=⟨_,ub4 (by rw[R1.c.hl];exact hkl)⟩;have hS:=R1.c.hh kk h hk;have hm:h∈ts:=ud6 hk;have R2:=R1.go hok.1 q hk;have nP:h≠P:=A8 hS R1.c.ip (by simp);have nN:h≠N:=λz=>R1.c.nN (by rw[<-z];exact hm);have NP:N≠P:=A8 R1.c.it R1.c.ip (by simp);have nF:h≠F:=A8 hS hF1 (by simp);have NF:N≠F:=A8 R1.c.it hF1 (by simp);have PF:P≠F:=R1.nF;symm;rw[6,O8 (k:=h)];rw[6,AE hF1 hget];refine Kf R1.c.ih (i:=kk) (d:=.obj h) (by rw[uf8,hk];rfl) ?_;refine⟨rfl,_,hS,?_⟩;symm;rw[6,AE hF1 hget];refine⟨_,σ.hd.getD kk []++[m],hS,?_,?_⟩
   .have h5:=R1.c.fw kk;have h6:=hp true;have h7:=hp false;have h8:=hok.2.2 true;have h9:=hok.2.2 false;simp only[BN];rw[gE (by rw[hL];lia)]
   symm;rw[6,AE (Ak hF1 nF) hget];rw[6,AE (Ak hF1 nF) hget];refine Rb (Ak R1.c.it nN) (by unfold nD;rw[ui6,R1.c.ls];exact hkl) ?_;symm;rw[6,AE (Ak (Ak hF1 nF) NF) hget];refine BG (Ak (Ak R1.c.ip nP) NP) (by show 2<100000;decide) ?_;rw[Pv];symm;exact k2 _ kk m th e q R2 (Ak (Ak (Ak hF1 nF) NF) PF) (((L1.set (R1.c.lh h hm)).set R1.c.lN).set R1.c.lP)
theorem WA{k:Int}{Q:List D->T->Prop}(h1:Bw k=true/\xs.length*k.toNat<=LIM)(h:Q (List.replicate k.toNat xs).flatten t):L2.W (Ip (.lst xs) (.int k)) t Q:=⟨_,_,by show(if _ then _ else _)=_;rw[gE h1],h⟩
def duD(gs:List (List GS))(w:Bool->List Nat)(σ:Ls)(S:List Ob)(r:D)(S':List Ob):Prop:=match Dr gs w σ with
 |some (s,j)=>r=.tup [.str (Str.ofString "broken"),.int (j:Nat),.str (sd s)]
 |none=>∃T ts,r=.tup [.obj T,.tup [.int (σ.p true:Nat),.int (σ.p false:Nat)]]/\HrdAt S' T ts σ.hd/\S.length<=T/\∀t∈ts,S.length<=t
def Rh(f:Fn):Prop:=∀(S:List Ob) (gs:List (List GS)) (w:Bool->List Nat) (K:Nat),Ok2 gs w->(∀s,B256 (w s))->S[K]?=some (.dct (dW (w true) (w false)))->Wf f [gsD gs,.obj K] S λr S'=>Gr S S'/\∃σ,End gs w σ/\σ.hd.length=gs.length/\(∀i,2*(σ.hd.getD i []).length<=σ.p true+σ.p false)/\duD gs w σ S r S'
def rlF(gs:List (List GS))(w:Bool->List Nat)(σ:Ls):List (Key×D):=[(.inr (sd false),frD (σ.nx gs w false)),(.inr (sd true),frD (σ.nx gs w true))]
def rl2(x y:D):List (Key×D):=[(.inr (sd false),x),(.inr (sd true),y)]
def DuI(n0:Nat)(S5:List Ob)(gs:List (List GS))(w:Bool->List Nat)(K N Tn P F:Nat)(ts:List Nat)(n:Nat)(t:L2.T):Prop:=XN5 λ(τ:Ls) (ag:Bool) (e7:Option Sl) (S':List Ob) (fl:List (Key×D))=>AN8 (t=duT gs K N Tn P F ag e7 S') (Run gs w (ls0 gs) τ) (DuAt n0 S' gs w τ K N Tn P F ts) (Low n0 S5 S') (S'[F]?=some (.dct fl)) ((fl=[]\/∃x y,fl=rl2 x y)) ((ag=true->(w true).length+(w false).length+1<=n+τ.p true+τ.p false)) ((ag=false->fl=rlF gs w τ/\NF gs w τ))
theorem U8(hc:K9 c):Rh (fnOf 2 8 (EB c)):=by
 intro S gs w K hok hB hK;have hL:LIM=100000:=rfl;have hgl:=hok.2.1;have hlt:=Br hK;refine Aw rfl ?_;unfold EB;unfold gsD;symm;rw[ui6];refine WA ⟨Bx ∅ ∅,by rw[uf9,hL];show 1*_<=_;lia⟩ ?_;symm;have e0:(List.replicate ((gs.length:Nat):Int).toNat [D.int 0]).flatten=nD (gs.map λ_=>0):=by
  rw[uf9,M6];unfold nD;rw[un1,<-List.map_const'];rfl
 rw[e0];obtain⟨N,hN⟩:∃N,N=S.length:=⟨_,rfl⟩;obtain⟨S1,hS1⟩:∃S1,S1=S++[Ob.lst (nD (gs.map λ_=>0))]:=⟨_,rfl⟩;have t1:S1[N]?=some (.lst (nD (gs.map λ_=>0))):=by rw[hS1,hN];exact AS
 have l1:S1.length=N+1:=by rw[hS1,ue8,hN];rfl
 have K1:S1[K]?=some (.dct (dW (w true) (w false))):=by rw[hS1];exact AT hK
 have G1:Gr S S1:=by rw[hS1];exact .app
 symm;refine(Gj (λg:List GS=>D.lst (g.map GS.d)) gs (S++[Ob.lst (nD (gs.map λ_=>0))]) _).mono λr t' z9=>?_;clear 5 z9 e1 e2;subst e1;clear 5 t' ev S2;have e2:S2=S++[Ob.lst (nD (gs.map λ_=>0))]++List.replicate gs.length (.lst []):=e2;rw[<-hS1] at e2⊢;have hl1:(S++[Ob.lst (nD (gs.map λ_=>0))]).length=S1.length:=by rw[hS1]
 have l2:S2.length=S1.length+gs.length:=by rw[e2,ue8,uc7]
 refine AO (by rw[ui6,uf2,hL];lia) ?_;obtain⟨Tn,hT⟩:∃T,T=S2.length:=⟨_,rfl⟩;obtain⟨ts,hts⟩:∃ts,ts=List.range' S1.length gs.length:=⟨_,rfl⟩;rw[<-hts];obtain⟨S3,hS3⟩:∃S3,S3=S2++[Ob.lst (ts.map D.obj)]:=⟨_,rfl⟩;have G3:Gr S S3:=by rw[hS3,e2,hS1,ug1,ug1];exact .app
 have l3:S3.length=Tn+1:=by rw[hS3,ue8,hT];rfl
 have T3:S3[Tn]?=some (.lst (ts.map D.obj)):=by rw[hS3,hT];exact AS
 have N3:S3[N]?=some (.lst (nD (gs.map λ_=>0))):=by rw[hS3,e2];exact AT (Fc t1)
 have h3:∀i,i<gs.length->S3[S1.length+i]?=some (.lst []):=by
  intro i hl;rw[hS3];refine AT ?_;rw[e2,ua6 ∅,ub9,ub6,gE hl]
 symm;show L2.W _ ⟨[vw (gsD gs),vw (.obj K),vw (.obj S.length),vw (.obj S2.length),none,none,none,none],S2++[Ob.lst (ts.map D.obj)]⟩ _;rw[<-hS3,<-hN,<-hT];rw[6,EH];refine⟨AS,?_⟩;obtain⟨P,hP⟩:∃P,P=S3.length:=⟨_,rfl⟩;obtain⟨S4,hS4⟩:∃S4,S4=(S3++[Ob.dct []]).set S3.length (.dct (dP 0 0)):=⟨_,rfl⟩;have l4:S4.length=P+1:=by rw[hS4,uj1,ue8,hP];rfl
 have P4:S4[P]?=some (.dct (dP 0 0)):=by rw[hS4,hP];exact AK AS
 have o4:∀{i:Nat}{o:Ob},S3[i]?=some o->S4[i]?=some o:=λh=>by rw[hS4];exact Ak (AT h) (by have:=Br h;lia)
 have G4:Gr S S4:=⟨by have:=G3.1;lia,λi hi=>by rw[o4 (G3.get (ub4 hi)),ub4 hi]⟩;symm;obtain⟨F,hF⟩:∃F,F=S4.length:=⟨_,rfl⟩;obtain⟨S5,hS5⟩:∃S5,S5=S4++[Ob.dct []]:=⟨_,rfl⟩;have F5:S5[F]?=some (.dct []):=by rw[hS5,hF];exact AS
 have G5:Gr S S5:=by rw[hS5];exact G4.trans .app
 have R0:DuAt S.length S5 gs w (ls0 gs) K N Tn P F ts:=by
  refine⟨?_,G5.get hK,by lia,hlt,by lia⟩;rw[hts] at T3⊢;refine WZ hok.1 (by rw[hS5];exact AT P4) (by rw[hS5];exact AT (o4 N3)) (by rw[hS5];exact AT (o4 T3)) (λi hi=>?_) ∅ ∅ ∅ ∅;rw[hS5];exact AT (o4 (h3 i hi))
 show L2.W _ (duT gs K N Tn S3.length ((S3++[Ob.dct []]).set S3.length (.dct (dP 0 0))).length true none ((S3++[Ob.dct []]).set S3.length (.dct (dP 0 0))++[Ob.dct []])) _;rw[<-hS4,<-hS5,<-hP,<-hF];clear T3 N3 h3 P4 t1 K1 e2 hS1 hS3 hS4 hS5 l1 l2 l3 l4 hts hN hT hP hF;have hw1:=hok.2.2 true;have hw2:=hok.2.2 false;refine Ev (DuI S.length S5 gs w K N Tn P F ts) ?_ FG ((w true).length+(w false).length+1) _ (by show _<1000000;lia) ⟨ls0 gs,true,none,S5,[],rfl,.refl _,R0,.refl G5.1,F5,.inl rfl,(λ_=>by lia),(λz=>nomatch z)⟩;rintro n t ⟨τ,ag,e7,S',fl,rfl,r,R,L,hF,hfl,hn,hd⟩;have hp:∀s,τ.p s<=(w s).length:=r.inn λ_=>un3 _;have hfl2:fl.length<=2:=by rcases hfl with rfl|⟨x,y,rfl⟩<;>simp[rl2]
 have G':Gr S S':=⟨L.1,λi h=>(L.2 i h).trans (G5.2 i h)⟩;symm
 cases ag with
 |true=>
   have hn:=hn rfl;refine⟨n-1,by have:=hp true;have:=hp false;lia,?_⟩;symm;rw[Bm];refine B6 ?_;have fin:∀(τ3:Ls) (ag3:Bool) (S3:List Ob) (a b:D) (e7:Option Sl),a=frD (τ.nx gs w false)->Run gs w (ls0 gs) τ3->DuAt S.length S3 gs w τ3 K N Tn P F ts->Low S.length S' S3->S3[F]?=some (.dct (rl2 a b))->(ag3=true->τ.p true+τ.p false < τ3.p true+τ3.p false)->(ag3=false->τ3=τ/\b=frD (τ.nx gs w true)/\NF gs w τ)->DuI S.length S5 gs w K N Tn P F ts (n-1) (duT gs K N Tn P F ag3 e7 S3):=by
    intro τ3 ag3 S3 a b e7 ha r3 R3 L3 F3 h1 h2;refine⟨τ3,ag3,e7,S3,_,rfl,r3,R3,L.trans L3,F3,.inr ⟨_,_,rfl⟩,λz=>by have:=h1 z;lia,λz=>?_⟩;clear 5(h2 z)rfl rfl h4;exact⟨by rw[ha];rfl,h4⟩
   have kv1:∃y,∀a,kvPut fl (.inr (sd false)) a=[(.inr (sd false),a)]++y/\(∀b,kvPut ([(.inr (sd false),a)]++y) (.inr (sd true)) b=rl2 a b)/\([(.inr (sd false),a)]++y:List (Key×D)).length<=2:=by
    rcases hfl with rfl|⟨x,y,rfl⟩
    .exact⟨[],λa=>⟨rfl,λb=>rfl,ud0 rfl⟩⟩
    .exact⟨[(.inr (sd true),y)],λa=>⟨rfl,λb=>rfl,un2 _⟩⟩
   clear 5 kv1 y kv1;refine GP hc hok hB hp L.1 R hF hfl2 false ?_ ?_
   .intro S1 R1 F1 L1 q1;rw[(kv1 _).1] at F1;dsimp only;rw[Bm];refine B6 ?_;refine GP hc hok hB hp L1.1 R1 F1 (kv1 _).2.2 true ?_ ?_
    .intro S2 R2 F2 L2 q2;rw[(kv1 _).2.1] at F2;refine W_forL_nil.mpr (fin τ false S2 _ _ _ rfl r R2 (L1.trans L2) F2 (λz=>nomatch z) λ_=>⟨rfl,rfl,λs=>by cases s;exact q1;exact q2⟩)
    .intro S2 kk m th e q2 R2 F2 L2;rw[(kv1 _).2.1] at F2;have st:Stp gs w τ true (τ.go true kk m th e):=⟨kk,m,th,e,q2,rfl⟩;have hle:=Di q2;refine W_forL_nil.mpr (fin _ true S2 _ _ _ rfl (r.trans (.one st)) R2 (L1.trans L2) F2 (λ_=>?_) λz=>nomatch z);show τ.p true+τ.p false<(if true=true then e else τ.p true)+(if false=true then e else τ.p false);rw[gE rfl,gG (by decide)];have:τ.p true+2<=e:=hle.1;lia
   .intro S1 kk m th e q1 R1 F1 L1;rw[(kv1 _).1] at F1;have st:Stp gs w τ false (τ.go false kk m th e):=⟨kk,m,th,e,q1,rfl⟩;have hle:=Di q1;have r1:=r.trans (.one st);have hsum:τ.p true+τ.p false<(τ.go false kk m th e).p true+(τ.go false kk m th e).p false:=by
     show τ.p true+τ.p false<(if true=false then e else τ.p true)+(if false=false then e else τ.p false);rw[gG (by decide),gE rfl];have:τ.p false+2<=e:=hle.1;lia
    dsimp only;rw[Bm];refine B6 ?_;refine GP hc hok hB (r1.inn λ_=>un3 _) L1.1 R1 F1 (kv1 _).2.2 true ?_ ?_
    .intro S2 R2 F2 L2 q2;rw[(kv1 _).2.1] at F2;exact W_forL_nil.mpr (fin _ true S2 _ _ _ rfl r1 R2 (L1.trans L2) F2 (λ_=>hsum) λz=>nomatch z)
    .intro S2 k2 m2 th2 e2 q2 R2 F2 L2;rw[(kv1 _).2.1] at F2;have st2:Stp gs w (τ.go false kk m th e) true ((τ.go false kk m th e).go true k2 m2 th2 e2):=⟨k2,m2,th2,e2,q2,rfl⟩;have hg:=(Run.one st2).grow.1;have:=hg true;have:=hg false;exact W_forL_nil.mpr (fin _ true S2 _ _ _ rfl (r1.trans (.one st2)) R2 (L1.trans L2) F2 (λ_=>by lia) λz=>nomatch z)
 |false=>
   clear 5(hd rfl)rfl hnf;symm;have hE:End gs w τ:=⟨r,hnf⟩;have gT:Bf (rlF gs w τ) (.inr (sd true))=some (frD (τ.nx gs w true)):=rfl;have gF:Bf (rlF gs w τ) (.inr (sd false))=some (frD (τ.nx gs w false)):=rfl;rw[Bm];symm;refine AE hF gT ?_
   cases e1:τ.nx gs w true with
   |msg a b c d=>exact absurd e1 (hnf true a b c d)
   |brk j=>
     rw[e1,frD] at gT;rw[frD];symm;rw[6,AE hF gT];refine⟨G',τ,hE,R.c.ld,R.c.fw,?_⟩;unfold duD Dr;rw[e1];rfl
   |stop=>
     rw[frD];symm;rw[Bm];symm;refine AE hF gF ?_
     cases e2:τ.nx gs w false with
     |msg a b c d=>exact absurd e2 (hnf false a b c d)
     |brk j=>
       rw[e2,frD] at gF;rw[frD];symm;rw[6,AE hF gF];refine⟨G',τ,hE,R.c.ld,R.c.fw,?_⟩;unfold duD Dr;rw[e1,e2];rfl
     |stop=>
       rw[frD];symm;rw[W_forL_nil];symm;rw[6,AE R.c.ip (lrF (λs=>.int (τ.p s:Nat)) true)];rw[6,AE R.c.ip (lrF (λs=>.int (τ.p s:Nat)) false)];refine⟨G',τ,hE,R.c.ld,R.c.fw,?_⟩;unfold duD Dr;rw[e1,e2];exact⟨Tn,ts,rfl,⟨R.c.ih,by rw[R.c.hl,R.c.ld],R.c.hh⟩,R.c.lH,R.c.lh⟩
local macro_rules | `(tactic| walk_at"y1")=>`(tactic| first
 |walk_at"x1" |clear 32 K6|((with_reducible refine' O5 ?wv ?wu ?wt ?ws ?_);(case wv=>exact rfl);(case wu=>exact rfl);(case wt=>exact rfl);(case ws=>exact rfl))|clear 31 YX Y3)
def ltO(gs:List (List GS))(w:Bool->List Nat)(σ:Ls)(S:List Ob)(r:D)(S':List Ob):Prop:=match Dr gs w σ with
 |some (s,j)=>r=.tup [.str (Str.ofString "broken"),.int (j:Nat),.str (sd s)]
 |none=>∃fp,Ow S' r (tkD σ) fp/\∀k∈fp,S.length<=k
def Lb(f:Fn):Prop:=∀(S:List Ob) (gs:List (List GS)) (w:Bool->List Nat) (K:Nat),Ok2 gs w->S[K]?=some (.dct (dW (w true) (w false)))->Wf f [gsD gs,.obj K] S λr S'=>Gr S S'/\∃σ,End gs w σ/\σ.hd.length=gs.length/\(∀i,2*(σ.hd.getD i []).length<=σ.p true+σ.p false)/\ltO gs w σ S r S'
theorem Qi(hc:Jx c):Lb (fnOf 2 6 (Ej c)):=by
 intro S gs w K hok hK;have hL:LIM=100000:=rfl;rw[9,Ej];rw[6,AE hK (lrF (λs=>.lst (wD (w s))) true)];rw[6,AE hK (lrF (λs=>.lst (wD (w s))) false)];refine(hc S gs w hok).mono λr S1 z9=>?_;clear 5 z9 hG σ hE hl hf hr;unfold bsO at hr
 cases e:Dr gs w σ with
 |none=>
   rw[e] at hr;clear 5 hr fp ho hp;obtain⟨l,rfl⟩:∃l,r=.tup l:=by unfold tkD at ho;cases ho;exact⟨_,rfl⟩
   symm;refine⟨hG,σ,hE,hl,hf,?_⟩;unfold ltO;rw[e];exact⟨fp,ho,hp⟩
 |some x=>
   clear 5 x s j;rw[e] at hr;have hr:r=.exc "Broken" [.int (j:Nat),.str (sd s)]:=hr;subst hr;symm;rw[6,af (by decide)];rw[6,bX (by decide)];refine⟨hG,σ,hE,hl,hf,?_⟩;unfold ltO;rw[e]
def kvB:Nat->D->Bool
 |n+1,.lst xs=>decide (xs.length<=25000)&&xs.all (kvB n)
 |n+1,.tup xs=>decide (xs.length<=25000)&&xs.all (kvB n)
 |_,.lst _=>false
 |_,.tup _=>false
 |_,.obj _=>false
 |_,.scr _=>false
 |_,.ty _=>false
 |_,.exc _ _=>false
 |_,_=>true
def kd:Nat->D->D
 |n+1,.lst xs=>.lst (.bl true::xs.map (kd n))
 |n+1,.tup xs=>.lst (.bl false::xs.map (kd n))
 |_,.str _=>.lst [.bl false,.bl true]
 |_,.bl _=>.lst [.bl true,.bl false]
 |_,_=>.lst [.bl false,.bl false]
theorem Uc:∀(n:Nat) (v:D),Rq (n+2) (kd n v)
 |n,v=>by
   have fin:∀b1 b2:Bool,Rq (n+2) (.lst [.bl b1,.bl b2]):=λb1 b2=>Fv λx hx=>by
    rcases uk8.mp hx with rfl|hx
    .exact OS
    .rw[uf0] at hx;subst hx;exact OS
   cases n with
   |zero=>cases v<;>exact fin _ _
   |succ n=>
     cases v<;>first|exact fin _ _|skip
     all_goals
      refine Fv λx hx=>?_;rcases uk8.mp hx with rfl|hx
      .exact OS
      .obtain⟨y,_,rfl⟩:=un0.mp hx;exact Uc n y
def LK8(f:Fn)(m:Nat):Prop:=∀(S:List Ob) (d:D),kvB m (AI S m d)=true->PureS S f [d] (kd m (AI S m d))
theorem HF{c:Fn}{m:Nat}(hc:LK8 c m){g:Gd}{S:List Ob}(hg:Gon g S):∀(l:List D) (z:Option Sl),(∀d∈l,kvB m (AI S m d)=true)->L2.W (compG g (As 0) Bk (Ah c (Aa (Ab 0) Ad)) l) ⟨[z],S⟩ λxs t'=>xs=(l.map λd=>kd m (AI S m d))/\t'.S=S
 |[],z,_=>MM hg ⟨rfl,rfl⟩
 |d::l,z,h=>by
   refine Lf hg ?_;refine B6 (Et ?_);rw[gE rfl];symm;refine(hc S d (h d ue4)).use ?_;refine(HF hc hg l _ λx hx=>h x (ud3 _ hx)).mono λxs t' z9=>?_;clear 5 z9 e1 e2;subst e1;exact⟨rfl,e2⟩
theorem Qe(hc:m=0\/LK8 c (m-1)):LK8 (fnOf 1 1 (DT c)) m:=by
 have hL:LIM=100000:=rfl;intro S d hd;have row:∀(n:Nat) (xs:List D),m=n+1->(decide ((xs.map (AI S n)).length<=25000)&&(xs.map (AI S n)).all (kvB n))=true->LK8 c n/\xs.length<=25000/\∀x∈xs,kvB n (AI S n x)=true:=λn xs hm h=>by
  subst hm;rw[uh3,uh7,ug6,ui6] at h;exact⟨hc.resolve_left (Nat.succ_ne_zero n),h.1,λx hx=>h.2 _ (un0.mpr ⟨x,hx,rfl⟩)⟩
 refine Aw rfl ?_;unfold DT
 cases m with
 |zero=>
   rw[AI] at hd⊢
   cases d<;>first|(simp[kvB] at hd;done)|skip
   all_goals
    symm;exact⟨rfl,rfl⟩
 |succ n=>
   cases d with
   |lst xs=>
     rw[AI] at hd⊢;rw[kvB] at hd;clear 5(row n xs rfl hd)h1 h2 h3;symm;refine⟨_,_,rfl,?_⟩;refine(HF h1 (g:=none) (S:=S) (λ_ _ z=>nomatch z) xs _ h3).mono λys t' z9=>?_;clear 5 z9 e1 e2;subst e1;refine AO (by rw[ui6,hL];lia) ?_;symm;refine AO (by show 1+_<=_;rw[ui6,hL];lia) ?_;symm;exact⟨by rw[kd,un1];rfl,e2⟩
   |tup xs=>
     rw[AI] at hd⊢;rw[kvB] at hd;clear 5(row n xs rfl hd)h1 h2 h3;symm;refine Uj ?_;refine(HF h1 (g:=none) (S:=S) (λ_ _ z=>nomatch z) xs _ h3).mono λys t' z9=>?_;clear 5 z9 e1 e2;subst e1;refine AO (by rw[ui6,hL];lia) ?_;symm;refine AO (by show 1+_<=_;rw[ui6,hL];lia) ?_;symm;exact⟨by rw[kd,un1];rfl,e2⟩
   |obj k=>
     cases e:S[k]? with
     |none=>rw[AI,e] at hd;simp[kvB] at hd
     |some o=>
       cases o with
       |lst xs=>
         rw[AI,e] at hd⊢;dsimp only at hd⊢;rw[kvB] at hd;clear 5(row n xs rfl hd)h1 h2 h3;symm;rw[6,Q9 e rfl rfl];rw[6,Ra e rfl];refine Ui e ?_;refine(HF h1 (g:=some (k,xs)) (S:=S) (λ_ _ z=>by cases z;exact e) xs _ h3).mono λys t' z9=>?_;clear 5 z9 e1 e2;subst e1;refine AO (by rw[ui6,hL];lia) ?_;symm;refine AO (by show 1+_<=_;rw[ui6,hL];lia) ?_;symm;exact⟨by rw[kd,un1];rfl,e2⟩
       |_=>rw[AI,e] at hd;simp[kvB] at hd
   |scr ns=>simp[AI,kvB] at hd;done
   |ty n=>simp[AI,kvB] at hd;done
   |exc n xs=>simp[AI,kvB] at hd;done
   |_=>
     symm;exact⟨rfl,rfl⟩
theorem LR:∀(n:Nat) (d:D),nvO n d=true->kvB n d=true
 |0,d,h=>by cases d<;>first|rfl|(simp[nvO] at h;done)
 |n+1,d,h=>by
   cases d<;>first|rfl|(simp[nvO] at h;done)|skip
   all_goals
    rw[nvO,uh3,uh7,ug6] at h;rw[kvB,uh3,uh7,ug6];exact⟨by lia,λx hx=>LR n x (h.2 x hx)⟩
theorem Hl{S:List Ob}:∀(n:Nat) (d:D),kvB n d=true->AI S n d=d
 |0,d,h=>by cases d<;>first|rfl|(simp[kvB] at h;done)
 |n+1,d,h=>by
   cases d<;>first|rfl|(simp[kvB] at h;done)|skip
   all_goals
    rw[kvB,uh3,uh7,ug6] at h;rw[AI]
    congr 1
    exact(ue2 λx hx=>Hl n x (h.2 x hx)).trans (List.map_id _)
theorem bq(w:List Nat)(h:w.length<=25000)(n:Nat):kvB (n+1) (.lst (wD w))=true:=by
 rw[kvB,uh3,uh7,ug6];refine⟨by rw[AF];exact h,λx hx=>?_⟩;unfold wD at hx;obtain⟨y,_,rfl⟩:=un0.mp hx
 cases n<;>rfl
set_option tactic.hygienic true in
theorem MN{g:Gd}{st:D->M Unit}{b:M Out}{P:Out->T->Prop}(h:Gon g t.S)(q:P .next t):L2.W (forG g st b []) t P:=by
 unfold forG;exact W_bnd.mpr ⟨_,_,IN h,W_ret.mpr q⟩
theorem Lg{g:Gd}{st:D->M Unit}{b:M Out}{d:D}{r:List D}{P:Out->T->Prop}(h:Gon g t.S)(q:L2.W (st d) t λ_ t1=>L2.W b t1 λo t2=>o=.next/\L2.W (forG g st b r) t2 P):L2.W (forG g st b (d::r)) t P:=by
 rw[forG];refine W_bnd.mpr ⟨_,_,IN h,W_bnd.mpr (q.mono λ_ t1 q=>W_bnd.mpr (q.mono λo t2 q=>?_))⟩;clear 5 q rfl q;exact q
theorem Wv{f:M (Gd×List D)}{st:D->M Unit}{b:M Out}{P:Out->T->Prop}(h:L2.W f t λp t1=>L2.W (forG p.1 st b p.2) t1 P):L2.W (IZ f st b) t P:=W_bnd.mpr h
local macro_rules | `(tactic| walk_at"y1")=>`(tactic| first
 |walk_at"x1" |clear 32 K6|((with_reducible refine' O5 ?wv ?wu ?wt ?ws ?_);(case wv=>exact rfl);(case wu=>exact rfl);(case wt=>exact rfl);(case ws=>exact rfl))|clear 31 Wv Y3)
def Jz(f:Fn)(n:Nat):Prop:=∀(S:List Ob) (d v:D) (fp:List Nat),Ow S d v fp->nvO n v=true->fp.length<=90000->PureS S f [d] (.lst (fp.map D.obj))
abbrev lsB(c:Fn):M Out:=DC 1 (bnd (Ab 1) λx=>bnd (Ah c (Aa (Ab 2) Ad)) λy=>JK x y)
theorem JV{c:Fn}{n:Nat}(hc:Jz c n){g:Gd}{S:List Ob}(hg:Gon g S){d0:D}:∀{ds vs:List D}{fp:List Nat},Ows S ds vs fp->(∀v∈vs,nvO n v=true)->∀(xs:List D) (e2:Option Sl),xs.length+fp.length<=90000->L2.W (forG g (As 2) (lsB c) ds) ⟨[vw d0,some (.own xs),e2],S⟩ λo t=>o=.next/\∃e2,t=⟨[vw d0,some (.own (xs++fp.map D.obj)),e2],S⟩
 |_,_,_,.nil,_,xs,e2,_=>MN hg ⟨rfl,e2,by rw[um4,ui8]⟩
 |_,_,_,@Ows.cons _ d v f1 f2 ds vs a b _,hv,xs,e2,hl=>by
   have hL:LIM=100000:=rfl;rw[ue8] at hl;refine Lg hg ?_;rw[6,B6];rw[6,(hc S d v f1 a (hv v ue4) ∅).use];refine AO (by rw[ui6,hL];lia) ?_;refine⟨rfl,?_⟩;refine(JV hc hg b (λv h=>hv v (ud3 _ h)) (xs++f1.map D.obj) _ (by rw[ue8,ui6];lia)).mono ?_;rintro o t ⟨rfl,e2,rfl⟩;exact⟨rfl,e2,by rw[uj9,ug1]⟩
theorem Nq(hc:n=0\/Jz c (n-1)):Jz (fnOf 1 3 (DU c)) n:=by
 intro S d v fp ho hv hl;have hL:LIM=100000:=rfl;have kids:∀vs:List D,nvO n (.lst vs)=true\/nvO n (.tup vs)=true->Jz c (n-1)/\∀v∈vs,nvO (n-1) v=true:=λvs h=>by
  cases n with
  |zero=>rcases h with h|h<;>simp[nvO] at h
  |succ m=>
    refine⟨hc.resolve_left (Nat.succ_ne_zero m),λv hm=>?_⟩;rcases h with h|h
    all_goals
     rw[nvO,uh3,uh7] at h;exact h.2 v hm
 refine Aw rfl ?_;unfold DU
 cases ho with
 |non=>symm;exact⟨rfl,rfl⟩
 |int i=>symm;exact⟨rfl,rfl⟩
 |str x=>symm;exact⟨rfl,rfl⟩
 |tup o=>
   clear 5(kids _ (.inr hv))h1 h2;symm;refine Uj ?_;refine(JV h1 (g:=none) (S:=S) (λ_ _ z=>nomatch z) o h2 [] _ (by rw[uj5];lia)).mono ?_;rintro o t ⟨rfl,e2,rfl⟩;symm;exact⟨rfl,rfl⟩
 |@obj k ds vs fp e o _=>
   rw[ug9] at hl;clear 5(kids _ (.inl hv))h1 h2;symm;rw[6,Ra e rfl];rw[6,Q9 e rfl rfl];refine Ui e ?_;refine(JV h1 (g:=some (k,ds)) (S:=S) (λ_ _ z=>by cases z;exact e) o h2 [.obj k] _ (by show 1+_<=_;lia)).mono ?_;rintro o t ⟨rfl,e2,rfl⟩;symm;exact⟨rfl,rfl⟩
def AR(f:D->Nat):List D->Nat
 |[]=>0
 |x::r=>f x+AR f r
theorem Iv(f:D->Nat):∀(a b:List D),AR f (a++b)=AR f a+AR f b
 |[],b=>by rw[uj3,AR,Nat.zero_add]
 |x::r,b=>by rw[ui2,AR,AR,Iv f r b,ul5]
def nl:Nat->D->Nat
 |n+1,.lst vs=>1+AR (nl n) vs
 |n+1,.tup vs=>AR (nl n) vs
 |_,_=>0
theorem Ji(n:Nat)(i:Int):nl n (.int i)=0:=by cases n<;>rfl
theorem Jj(n:Nat)(x:Str):nl n (.str x)=0:=by cases n<;>rfl
theorem XX(n:Nat):nl n .non=0:=by cases n<;>rfl
theorem L6{S:List Ob}{n:Nat}(ih:∀{d v:D}{fp:List Nat},Ow S d v fp->nvO n v=true->fp.length=nl n v):∀{ds vs:List D}{fp:List Nat},Ows S ds vs fp->(∀v∈vs,nvO n v=true)->fp.length=AR (nl n) vs
 |_,_,_,.nil,_=>rfl
 |_,_,_,.cons a b _,h=>by rw[ue8,AR,ih a (h _ ue4),L6 ih b λv hv=>h v (ud3 _ hv)]
theorem OJ{S:List Ob}:∀(n:Nat){d v:D}{fp:List Nat},Ow S d v fp->nvO n v=true->fp.length=nl n v
 |0,d,v,fp,o,h=>by
   cases o<;>first|rfl|(simp[nvO] at h;done)
 |n+1,d,v,fp,o,h=>by
   cases o with
   |non=>rfl
   |int i=>rfl
   |str x=>rfl
   |tup o=>
     rw[nvO,uh3,uh7] at h;exact L6 (λa b=>OJ n a b) o h.2
   |obj e o _=>
     rw[nvO,uh3,uh7] at h;rw[ug9,nl,L6 (λa b=>OJ n a b) o h.2,ge]
theorem Tc{b:Nat}:∀(p:Rd) (a:Nat),p.run w a=.told v b->a<=b:=by
 intro p
 induction p with
 |done v'=>intro a h;rw[Rd.run] at h;cases h;exact un2 _
 |need ok nx ih=>
   intro a h
   cases e:w[a]? with
   |none=>rw[A1 e] at h;cases h
   |some c=>
     rw[AZ e] at h
     split at h
     .have:=ih c (a+1) h;lia
     .cases h
theorem F7(h1:vs.length<=1000)(h2:∀v∈vs,nvO n v=true):nvO (n+1) (.tup vs)=true:=by
 rw[nvO,uh3,uh7];exact⟨uk6 h1,h2⟩
theorem F6(h1:vs.length<=1000)(h2:∀v∈vs,nvO n v=true):nvO (n+1) (.lst vs)=true:=by
 rw[nvO,uh3,uh7];exact⟨uk6 h1,h2⟩
theorem F4(n:Nat)(i:Int):nvO n (.int i)=true:=by cases n<;>rfl
theorem Dh(n:Nat)(x:Str):nvO n (.str x)=true:=by cases n<;>rfl
theorem Ny{m:Nat}{p:Rd}{w:List Nat}(hp:∀a v e,p.run w a=.told v e->nvO m v=true/\nl m v+a<=e):∀(k:Nat) (ds:List D) (a:Nat) (v:D) (e:Nat),(EY p k ds).run w a=.told v e->ds.length+k<=1000->(∀d∈ds,nvO m d=true)->nvO (m+1) v=true/\nl (m+1) v+a<=1+AR (nl m) ds+e
 |0,ds,a,v,e,h,hl,hd=>by
   rw[EY,Rd.run] at h
   cases h
   exact⟨F6 hl hd,by rw[nl];exact un2 _⟩
 |k+1,ds,a,v,e,h,hl,hd=>by
   rw[EY,Ca] at h
   cases q:p.run w a with
   |told u b=>
     rw[q] at h;clear 5(hp a u b q)h1 h2;obtain⟨h3,h4⟩:=Ny hp k _ b v e h (by rw[ue8,uc9];lia) λd hm=>(ui4.mp hm).elim (hd d) λz=>by rw[uf0] at z;rw[z];exact h1
     rw[Iv,AR,AR] at h4;exact⟨h3,by lia⟩
   |short=>rw[q] at h;cases h
   |broken j=>rw[q] at h;cases h
set_option tactic.hygienic true in
theorem Hc{w:List Nat}:∀(n:Nat) (s:Sh),s.depth<=n->wf s=true->∀(a:Nat) (v:D) (e:Nat),(pSh n s).run w a=.told v e->nvO n v=true/\nl n v+a<=e
 |0,s,h,_,_,_,_,_=>absurd s.depth_pos ∅
 |n+1,s,hs,hw,a,v,e,h=>by
   have hm:=Tc _ _ h
   cases s with
   |nothing=>rw[pSh,Rd.run] at h;cases h;exact⟨rfl,by rw[XX];lia⟩
   |number lo hi=>
     rw[pSh] at h;clear 5(JW _ _ _ h)i rfl;exact⟨rfl,by rw[Ji];lia⟩
   |text q=>
     rw[pSh] at h
     cases e0:w[a]? with
     |none=>rw[A1 e0] at h;cases h
     |some c=>
       rw[AZ e0] at h
       split at h
       .clear 5(Ka _ _ _ h)x rfl;exact⟨rfl,by rw[Jj];lia⟩
       .cases h
   |list s q=>
     simp only[wf,uh3,ug6] at hw;rw[Sh.depth] at hs;rw[pSh] at h
     cases e0:w[a]? with
     |none=>rw[A1 e0] at h;cases h
     |some c=>
       rw[AZ e0] at h
       split at h
       .next hc=>
        rw[ug6] at hc;obtain⟨h1,h2⟩:=Ny (λa v e=>Hc n s ∅ hw.2 a v e) c [] (a+1) v e h (by rw[uj5];lia) λ_ z=>nomatch z;rw[AR] at h2;exact⟨h1,by lia⟩
       .cases h
   |pair s r=>
     simp only[wf,uh3] at hw;rw[Sh.depth] at hs;rw[pSh,Ca] at h
     cases e1:(pSh n s).run w a with
     |short=>rw[e1] at h;cases h
     |broken k=>rw[e1] at h;cases h
     |told x b=>
       rw[e1,RR.thn,Ca] at h
       cases e2:(pSh n r).run w b with
       |short=>rw[e2] at h;cases h
       |broken k=>rw[e2] at h;cases h
       |told y c=>
         rw[e2,RR.thn,Rd.run] at h
         cases h
         clear 5(Hc n s ∅ hw.1 a x b e1)h1 h2;clear 5(Hc n r ∅ hw.2 b y _ e2)h3 h4;refine⟨F7 (by show 2<=1000;decide) λv hv=>?_,by rw[nl,AR,AR,AR];lia⟩;rcases uk8.mp hv with rfl|hv
         .exact h1
         .rw[uf0.mp hv];exact h3
   |choice ss=>
     simp only[wf,uh3,ug6] at hw;rw[Sh.depth] at hs;rw[pSh] at h
     cases e0:w[a]? with
     |none=>rw[A1 e0] at h;cases h
     |some c=>
       rw[AZ e0] at h
       split at h
       .next hc=>
        rw[Ca] at h;rw[ug6] at hc
        cases e1:(pSh n (ss.getD c .nothing)).run w (a+1) with
        |short=>rw[e1] at h;cases h
        |broken k=>rw[e1] at h;cases h
        |told x b=>
          rw[e1,RR.thn,Rd.run] at h
          cases h
          rw[ua9,ub4 hc,ui1] at e1;clear 5(Hc n ss[c] (um0 (D6 ss _ _ (ub4 hc)) ∅) (Ea hw.2 _ (ui0 hc)) (a+1) x _ e1)h1 h2;refine⟨F7 (by show 3<=1000;decide) λv hv=>?_,by rw[nl,AR,AR,AR,AR,Jj,Ji];lia⟩;rcases uk8.mp hv with rfl|hv
          .exact Dh n _
          rcases uk8.mp hv with rfl|hv
          .exact F4 n _
          .rw[uf0.mp hv];exact h1
       .cases h
theorem K0(h:nvO n v=true)(e:n<=m):nvO m v=true:=by
 rw[show m=n+(m-n) by lia];exact Ct h _
theorem L9{c:D}(h1:nvO n a=true)(h2:nvO n b=true)(h3:nvO n c=true):nvO (n+1) (.tup [a,b,c])=true:=F7 (by show 3<=1000;decide) λv hv=>by
 rcases uk8.mp hv with rfl|hv
 .exact h1
 rcases uk8.mp hv with rfl|hv
 .exact h2
 .rw[uf0.mp hv];exact h3
theorem OH(h1:nvO n a=true)(h2:nvO n b=true):nvO (n+1) (.tup [a,b])=true:=F7 (by show 2<=1000;decide) λv hv=>by
 rcases uk8.mp hv with rfl|hv
 .exact h1
 .rw[uf0.mp hv];exact h2
theorem Jl:∀(n:Nat) (s:Sh),s.depth<=n->wf s=true->nvO (2*n) s.d=true
 |0,s,h,_=>absurd s.depth_pos ∅
 |n+1,s,hs,hw=>by
   cases s with
   |nothing=>rfl
   |number lo hi=>exact L9 (Dh _ _) (F4 _ _) (F4 _ _)
   |text q=>exact OH (Dh _ _) (F4 _ _)
   |list s q=>
     simp only[wf,uh3] at hw;rw[Sh.depth] at hs;exact L9 (Dh _ _) (K0 (Jl n s ∅ hw.2) (un4 _)) (F4 _ _)
   |pair s r=>
     simp only[wf,uh3] at hw;rw[Sh.depth] at hs;exact L9 (Dh _ _) (K0 (Jl n s ∅ hw.1) (un4 _)) (K0 (Jl n r ∅ hw.2) (un4 _))
   |choice ss=>
     simp only[wf,uh3,ug6] at hw;rw[Sh.depth] at hs;refine OH (Dh _ _) (F7 (by rw[EG];lia) λy hy=>?_);clear 5(ud1.mp hy)i hi;rw[Fb] at hi;clear 5(uc4.mp hi)s hs1 rfl;exact Jl n s (um0 (D6 ss _ _ hs1) ∅) (Ea hw.2 _ (ud6 hs1))
theorem Zw(hg:∀g∈gs,GOk g)(g9:gs.length<=9):nvO 11 (gsD gs)=true:=by
 refine F6 (by rw[ui6];lia) λx hx=>?_;clear 5(un0.mp hx)g hgm rfl;have hgo:=hg g hgm;refine F6 (by rw[ui6];have:=hgo.le;lia) λx hx=>?_;clear 5(un0.mp hx)y hy rfl
 cases hgo.all y hy with
 |fin=>exact F7 (by show 1<=1000;decide) λx hx=>by rw[uf0.mp hx];exact Dh _ _
 |@st side ws h1 h2 h3 h4 h5=>
   refine OH (Dh _ _) (F6 (by rw[ui6];lia) λx hx=>?_);clear 5(un0.mp hx)w hw rfl;exact L9 (Dh _ _) (Jl 3 _ (h5 w hw).dep (h5 w hw).ok) (F4 _ _)
section
variable{gs:List (List GS)}{w:Bool->List Nat}
end
variable{hd:List (List D)}
theorem HrdAt.pairs(h:HrdAt S H hs hd):∃ps:List (Nat×List D),hs.map D.obj=ps.map (λp=>D.obj p.1)/\hd=ps.map (·.2)/\∀p∈ps,S[p.1]?=some (.lst p.2):=by
 refine⟨hs.zip hd,?_,?_,λp hp=>?_⟩
 .have:=gu (List.map D.obj) (List.map_fst_zip (l₁:=hs) (l₂:=hd) (by rw[h.hl];exact un2 _));rw[<-this,un1];rfl
 .exact(List.map_snd_zip (by rw[h.hl];exact un2 _)).symm
 .clear 5(ud1.mp hp)i hi;clear 5(List.getElem?_zip_eq_some.mp hi)h1 h2;have:=h.hh i p.1 h1;rw[ua9,h2] at this;exact this
def Ok3(gs:List (List GS))(w:Bool->List Nat):Prop:=Ok2 gs w/\(w true).length+(w false).length<=2000/\∀s,B256 (w s)
structure Sx where
 rest:Int
 dig:Bool
 cnt:Int
noncomputable def sxL(a b c:D):List (Key×D):=[(.inr (Str.ofString "rest"),a),(.inr (Str.ofString "digits"),b),(.inr (Str.ofString "count"),c)]
def Sx.l(s:Sx):List (Key×D):=sxL (.int s.rest) (.bl s.dig) (.int s.cnt)
theorem Kc{c:D}:Bf (sxL a b c) (.inr (Str.ofString "rest"))=some a:=rfl
theorem Q1{c:D}:Bf (sxL a b c) (.inr (Str.ofString "digits"))=some b:=rfl
theorem ME{c:D}:Bf (sxL a b c) (.inr (Str.ofString "count"))=some c:=rfl
theorem Tr{c d:D}:kvPut (sxL a b c) (.inr (Str.ofString "rest")) d=sxL d b c:=rfl
theorem NU{c d:D}:kvPut (sxL a b c) (.inr (Str.ofString "count")) d=sxL a b d:=rfl
def SxB(r:Nat)(s:Sx):Prop:=0<=s.cnt/\s.cnt+r<=1000000000000000000000000000000
def DrawD(f:Fn):Prop:=∀(s:Sx) (m:Int) (r:Nat),SxB (r+1) s->0<m->m<4611686018427387904->∃(x:Int) (s':Sx),0<=x/\x<m/\SxB r s'/\∀(S:List Ob) (K:Nat),S[K]?=some (.dct s.l)->Wf f [.obj K,.int m] S λq S'=>q=.int x/\S'=S.set K (.dct s'.l)
theorem RJ:DrawD (fnOf 2 4 C5):=by
 intro s m r ⟨c0,c1⟩ hm0 hm1;clear 5 s a b c;dsimp only at c0 c1
 cases b with
 |true=>
   refine⟨a%m,⟨a/m,true,c⟩,uk0 _ ∅,uf3 _ hm0,⟨c0,by dsimp only;lia⟩,λS K hS=>?_⟩;rw[9,C5];rw[6,AE hS Q1];rw[6,AE hS Kc];rw[6,Tz hm0];rw[6,AE hS Kc];rw[6,Uh hm0 ∅];refine BG hS (by show 3<100000;decide) ?_;rw[show kvPut (Sx.l ⟨a,true,c⟩) (.inr (Str.ofString "rest")) (.int (a/m))=Sx.l ⟨a/m,true,c⟩ from Tr];symm;exact⟨rfl,rfl⟩
 |false=>
   obtain⟨x1,hx1⟩:∃x1,x1=(a%999999999989+480007*(c+1))%999999999989:=⟨_,rfl⟩;obtain⟨x2,hx2⟩:∃x2,x2=x1*x1%1000000000039:=⟨_,rfl⟩;obtain⟨x3,hx3⟩:∃x3,x3=(x2+290027)*x2%999999999961:=⟨_,rfl⟩;have a1:0<=x1:=by rw[hx1];exact uk0 _ (by decide)
   have b1:x1<999999999989:=by rw[hx1];exact uf3 _ (by decide)
   have a2:0<=x2:=by rw[hx2];exact uk0 _ (by decide)
   have b2:x2<1000000000039:=by rw[hx2];exact uf3 _ (by decide)
   refine⟨x3/7%m,⟨a,false,c+1⟩,uk0 _ ∅,uf3 _ hm0,⟨by dsimp only;lia,by dsimp only;lia⟩,λS K hS=>?_⟩;rw[9,C5];rw[6,AE hS Q1];rw[6,AE hS ME];refine BG hS (by show 3<100000;decide) ?_;rw[show kvPut (Sx.l ⟨a,false,c⟩) (.inr (Str.ofString "count")) (.int (c+1))=Sx.l ⟨a,false,c+1⟩ from NU];have g1:(S.set K (.dct (Sx.l ⟨a,false,c+1⟩)))[K]?=some (.dct (Sx.l ⟨a,false,c+1⟩)):=AK hS;symm;rw[6,AE g1 Kc];rw[6,AE g1 ME];rw[6,O7 (by decide) (Jg (show(0:Int)<=c+1 by lia) (show c+1<10000000000000000000000000000000000000000000000000000000000000000000000000000000 by lia))];rw[<-hx1];rw[6,O7 (Jg ∅ ∅) (Jg ∅ ∅)];rw[<-hx2];rw[6,O7 (Jg ∅ ∅) (Jg ∅ ∅)];rw[<-hx3];rw[6,Uh (by decide) (by decide)];rw[6,Tz hm0];exact⟨rfl,rfl⟩
def Eb(f:Fn):Prop:=∀(ns:List Int) (k:Nat),ns.length<=63->k<=1000->∃s:Sx,SxB 900000000000000000000000000000 s/\∀S:List Ob,Wf f [.scr ns,.int (k:Nat)] S λq S'=>q=.obj S.length/\S'=S++[.dct s.l]
theorem QY:Eb (fnOf 2 3 CF):=by
 intro ns k hl hk
 by_cases z:k<ns.length
 .refine⟨⟨ns[k],decide (1000000000000000000<=ns[k]),k⟩,⟨by dsimp only;lia,by dsimp only;lia⟩,λS=>?_⟩;rw[9,CF];rw[6,Bj (uk6 ∅)];refine W_ix_scr.mpr ⟨ns[k],?_,?_⟩
  .unfold atI;rw[Cq ∅ ∅];show ns[(k:Int).toNat]?=_;rw[uf9,ub4 z]
  .symm;refine O4 ?_;rw[6,Cg];refine Cg ?_;rw[6,TB];rw[6,Be (uk1 ∅)];rw[6,Cg];refine Hq ?_;refine⟨AS,by show 3<=15;decide,rfl,?_⟩;show(S++[Ob.dct []]).set S.length _=_;rw[ud2 _ _ (un2 _),um8];rfl
 .refine⟨⟨0,true,k⟩,⟨by dsimp only;lia,by dsimp only;lia⟩,λS=>?_⟩;rw[9,CF];rw[6,Be (uk1 ∅)];refine O4 ?_;rw[6,Cg];refine Cg ?_;rw[6,TB];refine Bj (uk6 ∅) ?_;rw[6,Cg];refine Hq ?_;refine⟨AS,by show 3<=15;decide,rfl,?_⟩;show(S++[Ob.dct []]).set S.length _=_;rw[ud2 _ _ (un2 _),um8];rfl
theorem E1:Cw xs none (some (n:Int))=xs.take n:=by
 by_cases h:n<=xs.length
 .rw[RC ∅ ∅,uf9]
 .have:HT.sIx xs.length xs.length (some (n:Int))=xs.length:=by simp only[HT.sIx];rw[gG ∅];lia
  unfold Cw;rw[this];simp only[HT.sIx,uk4,Nat.sub_zero];rw[List.take_length,uc5 ∅]
theorem Ww{k:Nat}(e:t.S[k]?=some (.lst ds))(h:P (.int (ds.length:Nat)) t):L2.W (AH [.obj k]) t P:=W_len_obj.mpr ⟨ds,e,h⟩
def StK(K r:Nat)(S S':List Ob):Prop:=Kp K S S'/\∃s:Sx,S'[K]?=some (.dct s.l)/\SxB r s
theorem Kp.trans{k:Nat}{S S1 S2:List Ob}(a:Kp k S S1)(b:Kp k S1 S2):Kp k S S2:=⟨um0 a.1 b.1,λi h n=>(b.2 i (ue3 h a.1) n).trans (a.2 i h n)⟩
theorem Kp.get{k i:Nat}{S S1:List Ob}{o:Ob}(a:Kp k S S1)(h:S[i]?=some o)(n:i≠k):S1[i]?=some o:=by rw[a.2 i (Br h) n];exact h
def BT(w:Bool->List Nat)(s:Bool)(l:List Nat):Bool->List Nat:=λt=>if t=s then l else w t
theorem DY(w:Bool->List Nat)(s:Bool)(l:List Nat):kvPut (dW (w true) (w false)) (.inr (sd s)) (.lst (wD l))=dW (BT w s l true) (BT w s l false):=by
 rw[Qh (OV s)]
 cases s<;>rfl
theorem Cl(w:Bool->List Nat)(s:Bool)(l m:List Nat):BT (BT w s l) s m=BT w s m:=by
 funext t
 unfold BT
 by_cases q:t=s
 .rw[gE q,gE q]
 .rw[gG q,gG q,gG q]
theorem KG(w:Bool->List Nat)(s:Bool)(l:List Nat):BT w s l s=l:=gE rfl
theorem NW(w:Bool->List Nat){s t:Bool}(l:List Nat)(h:t≠s):BT w s l t=w t:=gG h
theorem SxB.mono{r r':Nat}{s:Sx}(h:SxB r s)(e:r'<=r):SxB r' s:=⟨h.1,by have:=h.2;lia⟩
def Dw(f:Fn)(as:List D)(s:Sx)(v:D)(s':Sx):Prop:=∀(S:List Ob) (K:Nat),K<S.length->Wf f (.obj K::as) (S.set K (.dct s.l)) λq S'=>q=v/\S'=S.set K (.dct s'.l)
theorem Dw.use{f:Fn}{as:List D}{s s':Sx}(h:Dw f as s v s'){S:List Ob}{K:Nat}(hK:K<S.length){P:D->List Ob->Prop}(p:P v (S.set K (.dct s'.l))):Wf f (.obj K::as) (S.set K (.dct s.l)) P:=(h S K hK).mono λq S' ⟨e1,e2⟩=>by subst e1 e2;exact p
def FF(f:Fn):Prop:=∀(s:Sx) (m:Int) (r:Nat),SxB (r+1) s->0<m->m<4611686018427387904->∃(x:Int) (s':Sx),0<=x/\x<m/\SxB r s'/\Dw f [.int m] s (.int x) s'
theorem LC{f:Fn}(h:DrawD f):FF f:=λs m r hs h0 h1=>by
 clear 5(h s m r hs h0 h1)x s' x0 x1 b d;refine⟨x,s',x0,x1,b,λS K hK=>?_⟩;refine(d _ K (uc0 hK)).mono λq S' ⟨e1,e2⟩=>⟨e1,?_⟩;rw[e2,List.set_set]
def C7(f:Fn)(n:Nat):Prop:=∀(d:Nat) (s:Sx) (r:Nat),d<n->SxB (r+cs d) s->∃(sh:Sh) (s':Sx),sh.depth<=d+1/\wf sh=true/\SxB r s'/\Dw f [.int (d:Nat)] s sh.d s'
noncomputable def JJ:Sh->Sh
 |.list s q=>.list s (if 6<q then 6 else q)
 |.nothing=>.nothing
 |.number a b=>.number a b
 |.text m=>.text m
 |.pair a b=>.pair a b
 |.choice ss=>.choice ss
theorem Oe(s:Sh):(JJ s).depth=s.depth:=by cases s<;>rfl
theorem Uq(h:wf s=true):wf (JJ s)=true:=by
 cases s with
 |list s q=>
   rw[JJ];simp only[wf,uh3,ug6] at h⊢;refine⟨⟨?_,?_⟩,h.2⟩<;>(split<;>lia)
 |_=>exact h
theorem Jp{cr:Fn}{n e:Nat}(hr:C7 cr n)(he:e<n):∀(m:Nat) (s:Sx) (r:Nat),SxB (r+m*cs e) s->∃(ss:List Sh) (s':Sx),ss.length=m/\(∀x∈ss,x.depth<=e+1/\wf x=true)/\SxB r s'/\∀(l:List D) (S:List Ob) (K:Nat) (z:Option Sl),l.length=m->K<S.length->L2.W (Bl (As 0) Bk (Ah cr (Aa (Ab 1) (Aa (Ac (Ab 2) (dr 1) BE) Ad))) l) ⟨[z,vw (.obj K),vw (.int ((e+1:Nat):Int))],S.set K (.dct s.l)⟩ λq t'=>q=ss.map Sh.d/\t'.S=S.set K (.dct s'.l)
 | 0,s,r,hs=>⟨[],s,rfl,(λ_ h=>nomatch h),hs.mono ∅,λl S K z hl hK=>by
   have:l=[]:=ua2 hl;subst this;exact W_compL_nil.mpr ⟨rfl,rfl⟩⟩
 |m+1,s,r,hs=>by
   clear 5(hr e s (r+m*cs e) he (hs.mono (by rw[Nat.succ_mul];lia)))sh s1 h1 h2 b1 d1;clear 5(Jp hr he m s1 r b1)ss s2 g1 g2 b2 d2;refine⟨sh::ss,s2,by rw[ug9,g1],λx hx=>?_,b2,λl S K z hl hK=>?_⟩
   .rcases uk8.mp hx with rfl|hx
    .exact⟨h1,h2⟩
    .exact g2 x hx
   cases l with
   |nil=>cases hl
   |cons d l=>
     rw[A6];refine B6 (Et ?_);rw[gE rfl];symm;rw[show((e+1:Nat):Int)-1=(e:Nat) by lia];rw[6,d1.use hK];refine(d2 l S K _ (gi hl) hK).mono λq t' z9=>?_;clear 5 z9 e1 e2;subst e1;exact⟨rfl,e2⟩
theorem QX(ht:FF ct)(hr:n=0\/C7 cr n):C7 (fnOf 2 5 (Bb ct cr)) (n+1):=by
 intro d s r hd p0;have hcs:=Zc d;clear 5(ht s (if d=0 then 3 else 6) (r+(cs d-1)) (p0.mono ∅) (by split<;>decide) (by split<;>decide))i s1 i0 i1 b1 d1;have hm:(3:Int)+3*(if decide ((0:Int)<(d:Int))=true then 1 else 0)=if d=0 then 3 else 6:=by
  by_cases z:d=0
  .subst z;rfl
  .rw[gG z,gE (uk6 ∅)];rfl
 by_cases k0:i=0
 .subst k0;refine⟨.nothing,s1,by show 1<=_;lia,rfl,b1.mono ∅,λS K hK=>?_⟩;rw[9,Bb];rw[6,Dx (B9 (by decide) (by decide))];rw[hm];rw[6,d1.use hK];exact⟨by rw[Sh.d],rfl⟩
 by_cases k1:i=1
 .subst k1;clear 5(ht s1 9 (r + 8) (b1.mono ∅) (by decide) (by decide))a s2 a0 a1 b2 d2;clear 5(ht s2 10000000000000000 (r + 7) b2 (by decide) (by decide))b s3 c0 c1 b3 d3;clear 5(ht s3 3 (r + 6) b3 (by decide) (by decide))g s4 z0 z1 b4 d4;clear 5(ht s4 10000000000000000 (r + 5) b4 (by decide) (by decide))x s5 x0 x1 b5 d5;clear 5(ht s5 7 (r + 4) b5 (by decide) (by decide))h s6 h0 h1 b6 d6;obtain ⟨dd,ed,lo,rfl,l0,l1⟩:=Hh (xs:=[D.int 0,D.int (a - 4),D.int (b - 1000000000000000)]) z0 (by simpa using z1) (p:=λd=>∃m:Int,d = .int m/\-1000000000000000<=m/\m<=10000000000000000) (by
   simp only[ud7];exact⟨⟨_,rfl,by decide,by decide⟩,⟨_,rfl,by lia,by lia⟩,⟨_,rfl,by lia,by lia⟩,λ_ z=>nomatch z⟩)
  obtain⟨dd,ed2,hi,rfl,m0,m1⟩:=Hh (xs:=[D.int 0,D.int 1,D.int 200,D.int 255,D.int 256,D.int 70000,D.int x]) h0 (by simpa using h1) (p:=λd=>∃m:Int,d=.int m/\0<=m/\m<=10000000000000000) (by
   simp only[ud7];exact⟨⟨_,rfl,by decide,by decide⟩,⟨_,rfl,by decide,by decide⟩,⟨_,rfl,by decide,by decide⟩,⟨_,rfl,by decide,by decide⟩,⟨_,rfl,by decide,by decide⟩,⟨_,rfl,by decide,by decide⟩,⟨_,rfl,by lia,by lia⟩,λ_ z=>nomatch z⟩)
  refine⟨.number lo (lo+hi),s6,by show 1<=_;lia,?_,b6.mono ∅,λS K hK=>?_⟩
  .simp only[wf,uh3,ug6];lia
  rw[9,Bb];rw[6,Dx (B9 (by decide) (by decide))];rw[hm];rw[6,d1.use hK];rw[6,d2.use hK];rw[6,d3.use hK];refine d4.use hK ?_;have e15:(10:Int) ^ (15:Int).toNat=1000000000000000:=by decide
  rw[e15];rw[6,AM ed];rw[6,d5.use hK];refine d6.use hK ?_;rw[6,AM ed2];exact⟨by rw[Sh.d],rfl⟩
 by_cases k2:i=2
 .subst k2;clear 5(ht s1 4 (r + 8) (b1.mono ∅) (by decide) (by decide))g s2 z0 z1 b2 d2;obtain ⟨dd,ed,m,rfl,m0,m1⟩:=Hh (xs:=[D.int 0,D.int 1,D.int 5,D.int 250]) z0 (by simpa using z1) (p:=λd=>∃m:Int,d = .int m/\0<=m/\m<=250) (by
   simp only[ud7];exact⟨⟨_,rfl,by decide,by decide⟩,⟨_,rfl,by decide,by decide⟩,⟨_,rfl,by decide,by decide⟩,⟨_,rfl,by decide,by decide⟩,λ_ z=>nomatch z⟩)
  refine⟨.text m,s2,by show 1<=_;lia,?_,b2.mono ∅,λS K hK=>?_⟩
  .simp only[wf,uh3,ug6];exact⟨m0,m1⟩
  rw[9,Bb];rw[6,Dx (B9 (by decide) (by decide))];rw[hm];rw[6,d1.use hK];refine d2.use hK ?_;rw[6,AM ed];exact⟨by rw[Sh.d],rfl⟩
 obtain⟨e,rfl⟩:∃e,d=e+1:=⟨d-1,by
  have:¬d=0:=λz=>by rw[gE z] at i1;lia
  lia⟩
 rw[gG (show ¬e+1=0 by lia)] at i1 d1 hm;have hrr:C7 cr n:=hr.resolve_left ∅;have hen:e<n:=by lia
 have hce:cs (e+1)=10+3*cs e:=rfl;have he1:((e+1:Nat):Int)-1=(e:Nat):=by lia
 by_cases k3:i=3
 .subst k3;clear 5(hrr e s1 (r + 5) hen (b1.mono ∅))sh s2 hdp hwf b2 d2;clear 5(ht s2 4 (r + 4) b2 (by decide) (by decide))g s3 z0 z1 b3 d3;obtain ⟨dd,ed,m,rfl,m0,m1⟩:=Hh (xs:=[D.int 0,D.int 2,D.int 6,D.int 250]) z0 (by simpa using z1) (p:=λd=>∃m:Int,d = .int m/\0<=m/\m<=250) (by
   simp only[ud7];exact⟨⟨_,rfl,by decide,by decide⟩,⟨_,rfl,by decide,by decide⟩,⟨_,rfl,by decide,by decide⟩,⟨_,rfl,by decide,by decide⟩,λ_ z=>nomatch z⟩)
  refine⟨.list (JJ sh) m,s3,?_,?_,b3.mono ∅,λS K hK=>?_⟩
  .rw[Sh.depth,Oe];lia
  .simp only[wf,uh3,ug6];exact⟨⟨m0,m1⟩,Uq hwf⟩
  rw[9,Bb];rw[6,Dx (B9 (by decide) (by decide))];rw[hm];rw[6,d1.use hK];rw[he1];refine d2.use hK ?_
  cases sh with
  |list s0 q=>
    rw[Sh.d];symm;refine d3.use hK ?_;rw[6,AM ed];exact⟨by simp only[JJ,Sh.d],rfl⟩
  |_=>
    rw[Sh.d];symm;refine d3.use hK ?_;rw[6,AM ed];exact⟨by simp only[JJ,Sh.d],rfl⟩
 by_cases k4:i=4
 .subst k4;clear 5(hrr e s1 (r+cs e) hen (b1.mono ∅))sh s2 hdp hwf b2 d2;clear 5(hrr e s2 r hen b2)sh3 s3 hdp3 hwf3 b3 d3;refine⟨.pair sh sh3,s3,?_,?_,b3,λS K hK=>?_⟩
  .rw[Sh.depth];lia
  .simp only[wf,uh3];exact⟨hwf,hwf3⟩
  rw[9,Bb];rw[6,Dx (B9 (by decide) (by decide))];rw[hm];rw[6,d1.use hK];rw[he1];rw[6,d2.use hK];rw[he1];rw[6,d3.use hK];exact⟨by rw[Sh.d],rfl⟩
 have k5:i=5:=by lia
 subst k5;clear 5(ht s1 3 (r+3*cs e) (b1.mono ∅) (by decide) (by decide))g s2 z0 z1 b2 d2;clear 5(ub8 z0)g rfl;clear 5(Jp hrr hen (1+g) s2 r (b2.mono (by have:(1+g)*cs e<=3*cs e:=Nat.mul_le_mul_right _ ∅;lia)))ss s3 hsl hs1 b3 d3;refine⟨.choice ss,s3,?_,?_,b3,λS K hK=>?_⟩
 .exact aZ λx hx=>(hs1 x hx).1
 .simp only[wf,uh3,ug6];exact⟨⟨by lia,by lia⟩,Re λx hx=>(hs1 x hx).2⟩
 rw[9,Bb];rw[6,Dx (B9 (by decide) (by decide))];rw[hm];rw[6,d1.use hK];rw[6,d2.use hK];refine Dm (by simp[Bw];lia) ?_;refine(d3 (AQ 0 (1+(g:Int)).toNat) S K none (by unfold AQ;rw[ui6,ug5];lia) hK).mono λq t' z9=>?_;clear 5 z9 e1 e2;subst e1;refine AO (by rw[ui6,hsl];show _<=100000;lia) ?_;symm;refine⟨?_,e2⟩;rw[Sh.d,My]
theorem StK.mono{K r r':Nat}{S S1:List Ob}(h:StK K r S S1)(e:r'<=r):StK K r' S S1:=⟨h.1,h.2.imp λs q=>⟨q.1,q.2.mono e⟩⟩
theorem DrawD.use{f:Fn}(h:DrawD f){K r:Nat}{S0 S:List Ob}{m:Int}(many:Int)(d:StK K (r+1) S0 S){P:D->List Ob->Prop}(p:∀i S',0<=i->i<many->StK K r S0 S'->P (.int i) S')(e:autoParam (m=many) q7T)(h1:autoParam (0<many) q1T)(h2:autoParam (many<4611686018427387904) q1T):Wf f [.obj K,.int m] S P:=by
 subst e;clear 5 d k s hK b;clear 5(h s m r b h1 h2)x s1 x0 x1 b1 d1;refine(d1 S K hK).mono λq S' z9=>?_;clear 5 z9 e1 e2;subst e1 e2;exact p x _ x0 x1 ⟨k.setk,s1,AK hK,b1⟩
def vC:Nat->Nat
 |0=>300
 |m+1=>300+vC m*3
structure ValC(K r:Nat)(S0:List Ob)(s:Sh)(c:Nat)(v:D)(S':List Ob):Prop where
 fit:AU s v=true
 len:(AV s v).length<=c
 st:StK K r S0 S'
def Le(f:Fn)(m:Nat):Prop:=∀(s:Sh) (K r:Nat) (S0 S:List Ob),s.depth<=m->wf s=true->StK K (r+vC m) S0 S->Wf f [.obj K,s.d] S λv S'=>ValC K r S0 s (vC m) v S'
variable{cv:Fn}
theorem Wo(ht:DrawD ct)(hv:m=0\/Le cv m):Le (fnOf 2 6 (DW cv ct)) (m+1):=by
 intro s k r S0 S hd hw p0;have hvm:vC (m+1)=300+vC m*3:=rfl;have rec_:∀{s':Sh}{r':Nat}{S':List Ob}{P:D->List Ob->Prop},s'.depth<=m->wf s'=true->StK k (r'+vC m) S0 S'->(∀v S'',AU s' v=true->(AV s' v).length<=vC m->StK k r' S0 S''->P v S'')->Wf cv [.obj k,s'.d] S' P:=λ{s' r' S' P} h1 h2 q p=>by
  rcases hv with rfl|hv
  .exact absurd (ue3 s'.depth_pos h1) (uj8 _)
  .exact(hv s' k r' S0 S' h1 h2 q).mono λv S'' ⟨g1,g2,g3⟩=>p v S'' g1 g2 g3
 refine Aw rfl ?_;unfold DW
 cases s with
 |nothing=>
   rw[Sh.d];symm;exact⟨by rw[AU];rfl,by rw[AV];exact un3 _,p0.mono ∅⟩
 |number lo hi=>
   clear 5(XY hw)w0 w1 w2 w3;rw[Sh.d];symm;refine ht.use (r:=r+9) (hi-lo+1) (p0.mono ∅) (λg S1 z0 z1 p1=>?_) rfl w1 w2;symm;refine ht.use (r:=r+8) 3 p1 λi S2 i0 i1 p2=>?_;obtain⟨d,ed,q,rfl,q0,q1⟩:=Hh (xs:=[D.int lo,D.int hi,D.int (lo+g)]) i0 (by simpa using i1) (p:=λd=>∃m:Int,d=.int m/\lo<=m/\m<=hi) (by
    simp only[ud7];exact⟨⟨_,rfl,Int.le_refl _,w0⟩,⟨_,rfl,w0,Int.le_refl _⟩,⟨_,rfl,Vo z0 z1⟩,λ_ z=>nomatch z⟩)
   refine AM ed ?_;exact⟨by simp only[AU,uh3,ug6];exact⟨q0,q1⟩,by rw[AV,L4];lia,p2.mono ∅⟩
 |pair a b=>
   simp only[wf,uh3] at hw;rw[Sh.d];symm;refine rec_ (r':=r+vC m) (W3 hd).1 hw.1 (p0.mono ∅) λv S1 f1 f2 p1=>?_;symm;refine rec_ (W3 hd).2 hw.2 p1 λu S2 g1 g2 p2=>?_;symm;exact⟨by simp only[AU,f1,g1,Bool.and_self],by rw[AV,ue8];lia,p2⟩
 |choice ss=>
   simp only[wf,uh3,ug6] at hw;rw[Sh.d];symm;rw[EG];refine ht.use (r:=r+vC m) (ss.length:Int) (p0.mono ∅) (λi S1 i0 i1 p1=>?_) rfl (by clear p0;lia) (by clear p0;lia);clear 5(ub8 i0)j rfl;have hj:j<ss.length:=Int.ofNat_lt.mp i1;have e1:ss[j]?=some ss[j]:=ub4 hj;symm;rw[6,Iz (ZM hj)];refine rec_ (a9 hd _ (ui0 hj)) (Ea hw.2 _ (ui0 hj)) p1 λv S2 f1 f2 p2=>?_;symm;have hof:Xy (Str.ofString "of")=true:=by decide +kernel
   refine⟨?_,?_,p2⟩
   .simp only[AU,uh3,ug6];exact⟨⟨hof,i0,i1⟩,by rw[uf9,FK ss _ _ _ e1];exact f1⟩
   .rw[AV,uf9,FH ss _ _ _ e1,ug9];lia
 |list s q=>
   simp only[wf,uh3,ug6] at hw;rw[Sh.d];symm;refine ht.use (r:=r+vC m*3) 4 (p0.mono ∅) λg S1 z0 z1 p1=>?_;symm;clear 5(T0 3 z0 hw.1.1 z1)n en n2 nq;rw[en];have nb2:vC m*n<=vC m*3:=Nat.mul_le_mul_left _ n2;refine Dm (Fy n2) ?_;refine(GK (P:=λxs t'=>(∀x∈xs,AU s x=true)/\xs.length=n/\((xs.map λd=>AV s d).flatten).length<=vC m*3/\StK k r S0 t'.S) (λacc l t=>∃(S':List Ob) (z:Option Sl),(∀x∈acc,AU s x=true)/\acc.length+l.length=n/\((acc.map λd=>AV s d).flatten).length+vC m*l.length<=vC m*3/\StK k (r+vC m*l.length) S0 S'/\t=⟨[z,vw (.obj k),vw (.tup [.str "list",s.d,.int q])],S'⟩) _ [] _ ⟨S1,_,by simp,by simp[AQ],by rw[Iu,uf9];exact um0 (um3 (Nat.zero_add _)) nb2,p1.mono (by rw[Iu,uf9];exact Nat.add_le_add_left nb2 _),rfl⟩ ?_ ?_).mono ?_
   .rintro acc d l t ⟨S',z,h1,h2,h3,h4,rfl⟩ _;rw[ug9] at h2 h3 h4;refine B6 (Et ?_);rw[gE rfl];symm;refine rec_ (r':=r+vC m*l.length) (ba hd) hw.2 (h4.mono (by rw[Nat.mul_succ];lia)) λv S5 f1 f2 p5=>?_;refine⟨S5,_,Ve h1 f1,LS h2,?_,p5,rfl⟩;rw[uj9,List.flatten_append,ue8];simp only[uk9,um4,ug0,List.flatten_nil,ui8];exact UM h3 f2
   .rintro acc t ⟨S',z,h1,h2,h3,h4,rfl⟩;exact⟨h1,h2,h3,h4⟩
   .rintro xs t' ⟨h1,h2,h3,h4⟩;rw[uj3] at h1 h2 h3;subst h2;refine AO (Qb (n:=3) n2) ?_;refine⟨?_,by rw[AV,ug9];lia,h4⟩;rw[AU,uh3,ug6,uh7];exact⟨nq,h1⟩
 |text q=>
   simp only[wf,uh3,ug6] at hw;rw[Sh.d];symm;refine ht.use (r:=r+298) 7 (p0.mono ∅) λg S1 z0 z1 p1=>?_;symm;refine ht.use (r:=r+297) 24 p1 λg2 S2 y0 y1 p2=>?_;symm;obtain⟨dd,ed,y,rfl,m0,m1⟩:∃d,atI [D.int g,D.int 249] (if id (g2==1)=true then 1 else 0)=some d/\∃y:Int,d=.int y/\0<=y/\y<=249:=by
    by_cases w:id (g2==1)=true
    .rw[gE w];exact⟨_,rfl,_,rfl,by decide,by decide⟩
    .rw[gG w];exact⟨_,rfl,_,rfl,by lia,by lia⟩
   rw[6,AM ed];rw[6,Uk];clear 5(T0 249 m0 hw.1 ∅)n en n3 nq;rw[en];refine Dm (Fy n3) ?_;refine(GK (P:=λxs t'=>∃ns:List Nat,xs=ns.map (λn=>D.str ⟨#[n]⟩)/\ns.all A3=true/\ns.length=n/\StK k r S0 t'.S) (λacc q t=>XN3 λ(ns:List Nat) (S':List Ob) (z:Option Sl)=>AN5 (acc=ns.map (λn=>D.str ⟨#[n]⟩)) (ns.all A3=true) (ns.length+q.length=n) (StK k (r+q.length) S0 S') (t=⟨[z,vw (.str signs94),vw (.obj k)],S'⟩)) _ [] _ ⟨[],S2,_,rfl,rfl,by simp[AQ],p2.mono (by rw[Iu,uf9];lia),rfl⟩ ?_ ?_).mono ?_
   .rintro acc d q t ⟨ns,S',z,rfl,h1,h2,h3,rfl⟩ _;rw[ug9] at h2 h3;refine B6 (Et ?_);rw[gE rfl];symm;refine ht.use (r:=r+q.length) 94 h3 λi S5 i0 i1 p5=>?_;clear 5(Tp i0 i1)c ec hc;refine W_ix_str.mpr ⟨by decide +kernel,c,ec,?_⟩;refine⟨ns++[c],S5,_,by rw[uj9];rfl,by simp[List.all_append,h1,hc],LS h2,p5,rfl⟩
   .rintro acc t ⟨ns,S',z,rfl,h1,h2,h3,rfl⟩;exact⟨ns,rfl,h1,h2,h3⟩
   .rintro xs t' ⟨ns,e,h1,h2,h3⟩;rw[uj3] at e;subst e h2;refine AO (Qb (n:=249) (by rw[ui6];exact n3)) ?_;symm;refine⟨_,_,_,rfl,rfl,FB ns,⟨by decide +kernel,by rw[ui6];clear p0 p1 p2;lia⟩,?_⟩;refine Mw ?_;refine⟨?_,?_,h3⟩
    .rw[AU];simp only[uh3,ug6];rw[G0,Gs];exact⟨nq,h1⟩
    .rw[AV,ug9,ui6,Gs];lia
noncomputable def X8:D->D
 |.str y=>.int (y.cps.getD 0 0:Nat)
 |d=>d
theorem Pt(x:Str):(x.cps.toList.map λc=>D.str ⟨#[c]⟩).map X8=x.cps.toList.map λn=>D.int (n:Nat):=by
 rw[un1];refine ue2 λn _=>?_;rfl
set_option tactic.hygienic true in
theorem Ox(hc:DZ c n)(hm:Ge cm):DZ (fnOf 2 7 (DR c cm)) (n+1):=by
 intro s hs hwf d hf hlen S;have hL:LIM=100000:=rfl;refine Aw rfl ?_;unfold DR
 cases s with
 |nothing=>
   rw[Sh.d];symm;exact⟨by rw[AV],rfl⟩
 |number lo hi=>
   have hsp:=Kb hwf;have hwd:=Gb 9 _ hsp;simp only[wf,uh3,ug6] at hwf
   cases d<;>simp[AU] at hf
   rename_i i;rw[Sh.d];have e1:hi-lo=(((hi-lo).toNat:Nat):Int):=by lia
   have e2:i-lo=(((i-lo).toNat:Nat):Int):=by lia
   symm;rw[e1,e2];rw[6,(hm _ hsp).use];refine Dm (Bx ∅ ∅) ?_;refine Dn (λr t=>XN3 λ(z:Option Sl) (m:Nat) (acc:List D)=>t=⟨[vw (.tup [.str "number",.int lo,.int hi]),vw (.int i),vw (.str "number"),vw (.int m),vw (.lst acc),z,none],S⟩/\nb r.length m++acc=nb (wid (hi-lo).toNat) (i-lo).toNat) _ _ ⟨_,_,_,rfl,by simp[AQ]⟩ ?_ ?_
   .rintro d r t ⟨z,m,acc,rfl,hacc⟩ _;rw[ug9,nb,ug1] at hacc;have hl:acc.length<LIM:=by
     have:=gu List.length hacc;simp only[ue8,ug9,uj5,L4] at this;lia
    symm;refine AO (by show 1+acc.length<=100000;rw[hL] at hl;lia) ?_;symm;exact⟨_,m/256,_,rfl,hacc⟩
   .rintro t ⟨z,m,acc,rfl,hacc⟩;rw[uj5,nb,uj3] at hacc;symm;exact⟨by rw[hacc,AV],rfl⟩
 |text q=>
   simp only[wf,uh3,ug6] at hwf
   cases d<;>simp[AU] at hf
   rename_i x;rw[Sh.d];symm;refine al (by rw[hL];lia) ?_;symm;refine(Ph (f:=X8) (fr:=[]) ?_).mono ?_
   .intro d m;clear 5(un0.mp m)k hk rfl;symm;refine cB rfl ?_;exact⟨rfl,rfl⟩
   .rintro xs t' ⟨rfl,hS⟩;rw[Pt];have hl:x.cps.toList.length<=250:=by rw[<-G0];lia
    refine AO (by rw[ui6,hL];lia) ?_;symm;refine AO (by simp only[ui6,ug9,uj5,hL];lia) ?_;symm;exact⟨by rw[AV];rfl,hS⟩
 |list s q=>
   simp only[wf,uh3,ug6] at hwf;rw[Sh.depth] at hs
   cases d<;>simp only[AU,ue9] at hf
   rename_i ds;rw[uh3,ug6,uh7] at hf;rw[AV] at hlen⊢;rw[Sh.d];symm;refine Dn (λr t=>∃(z:Option Sl) (acc:List D),t=⟨[vw (.tup [.str "list",s.d,.int q]),vw (.lst ds),vw (.str "list"),none,vw (.lst acc),none,z],S⟩/\acc++(r.map λd=>AV s d).flatten=.int (ds.length:Nat)::(ds.map λd=>AV s d).flatten) _ _ ⟨_,_,rfl,rfl⟩ ?_ ?_
   .rintro d r t ⟨z,acc,rfl,hacc⟩ m;rw[uk9,ug0,<-ug1] at hacc;have hl:acc.length+(AV s d).length<=LIM:=by
     have:=gu List.length hacc;rw[ue8,ue8] at this;lia
    symm;rw[6,(hc s ∅ hwf.2 d (hf.2 d m) ∅).use];refine AO hl ?_;exact⟨_,_,rfl,hacc⟩
   .rintro t ⟨z,acc,rfl,hacc⟩;rw[um4,List.flatten_nil,ui8] at hacc;symm;exact⟨by rw[hacc],rfl⟩
 |pair s r=>
   simp only[wf,uh3] at hwf;rw[Sh.depth] at hs;unfold AU at hf
   split at hf
   case h_2=>cases hf
   case h_1 a b=>
    rw[uh3] at hf;rw[AV] at hlen⊢;rw[ue8] at hlen;rw[Sh.d];symm;rw[6,(hc s ∅ hwf.1 a hf.1 ∅).use];rw[6,(hc r ∅ hwf.2 b hf.2 ∅).use];rw[6,AO ∅];exact⟨rfl,rfl⟩
 |choice ss=>
   simp only[wf,uh3,ug6] at hwf;rw[Sh.depth] at hs;unfold AU at hf
   split at hf
   case h_2=>cases hf
   case h_1 o k x=>
    simp only[uh3,ug6] at hf;obtain⟨⟨ho,k0,k1⟩,hf⟩:=hf;have hk:k.toNat<ss.length:=by lia
    have e1:ss[k.toNat]?=some ss[k.toNat]:=ub4 hk;have hl:=EG ss;have e2:atI (shD ss) k=some (ss[k.toNat]).d:=by
     unfold atI;rw[Cq k0 ∅];show(shD ss)[k.toNat]?=_;rw[Fb,e1];rfl
    rw[FK ss _ _ _ e1] at hf;rw[AV] at hlen⊢;rw[FH ss _ _ _ e1] at hlen⊢;rw[ug9] at hlen;rw[Sh.d];symm;rw[6,Iz e2];rw[6,(hc _ (um0 (D6 ss _ _ e1) ∅) (Ea hwf.2 _ (ui0 hk)) x hf ∅).use];refine AO (by simp only[ug9,uj5];lia) ?_;symm;exact⟨rfl,rfl⟩
noncomputable def nm14:List Str:=[Str.ofString "a",Str.ofString "ab",Str.ofString "b",Str.ofString "ba",Str.ofString "abc",Str.ofString "zz",Str.ofString "hello",Str.ofString "x",Str.ofString "quit",Str.ofString "go",Str.ofString "abcdefgh",Str.ofString "c",Str.ofString "no",Str.ofString "abcdefgi"]
def Fq(o k:Nat):Str:=nm14.getD ((o+3*k)%14) (Str.ofString "a")
theorem Sw(o k:Nat):(Fq o k).length<=90000:=by
 have h:∀i:Fin 14,(nm14.getD i.val (Str.ofString "a")).length<=90000:=by decide +kernel
 exact h ⟨(o+3*k)%14,gq _ (by decide)⟩
theorem Vn(o k:Nat):(Fq o k).length<=1000:=by
 have h:∀i:Fin 14,(nm14.getD i.val (Str.ofString "a")).length<=1000:=by decide +kernel
 exact h ⟨(o+3*k)%14,gq _ (by decide)⟩
structure GSN(n:Int)(x:GS):Prop where
 ok:GSOk n x
 nm:∀w∈x.ws,w.1.length<=1000
structure GON(g:List GS):Prop where
 ok:GOk g
 nm:∀x∈g,∀w∈x.ws,w.1.length<=1000
theorem Vm{o:Nat}(ho:o<14)(hm:m<=9):((List.range m).map (Fq o)).Nodup:=by
 have h:∀i:Fin 14,((List.range 9).map (Fq i.val)).Nodup:=by decide +kernel
 have e:(List.range m).map (Fq o)=((List.range 9).map (Fq o)).take m:=by
  rw[<-ul3,List.take_range,Nat.min_eq_left hm]
 rw[e];exact(h ⟨o,ho⟩).sublist (List.take_sublist _ _)
theorem Vl(o k:Nat):atI (nm14.map D.str) (((o:Int)+3*(k:Int))%14)=some (.str (Fq o k)):=by
 have e:(((o:Int)+3*(k:Int))%14)=(((o+3*k)%14:Nat):Int):=by lia
 have hl:(nm14.map D.str).length=14:=by decide
 have hk:(o+3*k)%14<14:=gq _ (by decide);rw[e];unfold atI;rw[Cq ∅ (by rw[hl];lia)];show(nm14.map D.str)[(((o+3*k)%14:Nat):Int).toNat]?=_;rw[uf9,uf8];unfold Fq;rw[ua9,ub4 (show(o+3*k)%14<nm14.length from hk)];rfl
variable{cd cs0:Fn}
theorem WC(hd:FF cd)(hs:C7 cs0 3){many h:Int}{o k:Nat}(m0:1<=many)(m1:many<=30)(h0:0<=h)(h1:h<many)(hk:k<=9)(s:Sx)(r:Nat)(b:SxB (r+200) s):∃(w:Str×Sh×Int) (s':Sx),w.1=Fq o k/\WOk many w/\SxB r s'/\∀(a0 a1 a4 a7 e11:Option Sl) (acc:List D) (S:List Ob) (K:Nat),acc.length<=9->K<S.length->
 L2.W (wdB cd cs0) ⟨[a0,a1,vw (.int many),vw (.lst (nm14.map D.str)),a4,vw (.int h),vw (.obj K),a7,vw (.int (o:Nat)),some (.own acc),vw (.int (k:Nat)),e11],S.set K (.dct s.l)⟩ λout t=>out=.next/\∃f11,t=⟨[a0,a1,vw (.int many),vw (.lst (nm14.map D.str)),a4,vw (.int h),vw (.obj K),a7,vw (.int (o:Nat)),some (.own (acc++[wdD w])),vw (.int (k:Nat)),f11],S.set K (.dct s'.l)⟩:=by
 have hL:LIM=100000:=rfl;clear 5(hd s many (r+199) b ∅ ∅)x s1 x0 x1 b1 d1;clear 5(hd s1 2 (r+198) b1 (by decide) (by decide))y s2 y0 y1 b2 d2;clear 5(hd s2 3 (r+197) b2 (by decide) (by decide))z s3 z0 z1 b3 d3;clear 5(ub8 z0)z rfl;have hz:z<3:=by lia
 have hcs:cs z<=130:=by
  have:z=0\/z=1\/z=2:=by lia
  rcases this with rfl|rfl|rfl<;>decide
 clear 5(hs z s3 r hz (b3.mono ∅))sh s4 g1 g2 b4 d4;obtain⟨dd,ed,th,rfl,t0,t1⟩:=Hh (xs:=[D.int (if h+1<many-1 then h+1 else many-1),D.int x]) y0 (by simpa using y1) (p:=λd=>∃m:Int,d=.int m/\0<=m/\m<many) (by
  simp only[ud7];exact⟨⟨_,rfl,by split<;>lia,by split<;>lia⟩,⟨_,rfl,x0,x1⟩,λ_ z=>nomatch z⟩)
 refine⟨(Fq o k,sh,th),s4,rfl,⟨g2,by dsimp only;lia,t0,t1,Sw o k⟩,b4,λa0 a1 a4 a7 e11 acc S K hacc hK=>?_⟩;unfold wdB;symm;rw[6,d1.use hK];refine d2.use hK ?_;rw[6,AM ed];rw[6,Dx (B9 (by decide) (by decide))];rw[6,AM (Vl o k)];rw[6,d3.use hK];rw[6,d4.use hK];refine AO ∅ ?_;exact⟨rfl,_,rfl⟩
theorem Jq{cd cs0:Fn}(hd:FF cd)(hs:C7 cs0 3){many h:Int}{o:Nat}(m0:1<=many)(m1:many<=30)(h0:0<=h)(h1:h<many):∀(l:List Nat) (s:Sx) (r:Nat),(∀k∈l,k<=9)->SxB (r+200*l.length) s->∃(ws:List (Str×Sh×Int)) (s':Sx),ws.map (·.1)=l.map (Fq o)/\(∀w∈ws,WOk many w)/\SxB r s'/\∀(a0 a1 a4 a7 e10 e11:Option Sl) (acc:List D) (S:List Ob) (K:Nat),acc.length+l.length<=9->K<S.length->
 L2.W (BS (As 10) (wdB cd cs0) (l.map λk:Nat=>D.int (k:Int))) ⟨[a0,a1,vw (.int many),vw (.lst (nm14.map D.str)),a4,vw (.int h),vw (.obj K),a7,vw (.int (o:Nat)),some (.own acc),e10,e11],S.set K (.dct s.l)⟩ λout t=>out=.next/\∃f10 f11,t=⟨[a0,a1,vw (.int many),vw (.lst (nm14.map D.str)),a4,vw (.int h),vw (.obj K),a7,vw (.int (o:Nat)),some (.own (acc++ws.map wdD)),f10,f11],S.set K (.dct s'.l)⟩
 |[],s,r,hk,b=>⟨[],s,rfl,(λ_ h=>nomatch h),b,λa0 a1 a4 a7 e10 e11 acc S K _ _=>W_forL_nil.mpr ⟨rfl,_,_,by rw[um4,ui8]⟩⟩
 |k::l,s,r,hk,b=>by
   rw[ug9] at b;clear 5(WC (o:=o) (k:=k) hd hs m0 m1 h0 h1 (hk k ue4) s (r+200*l.length) (b.mono ∅))w s1 w1 w2 b1 d1;clear 5(Jq (o:=o) hd hs m0 m1 h0 h1 l s1 r (λj hj=>hk j (ud3 _ hj)) b1)ws s2 g1 g2 b2 d2;refine⟨w::ws,s2,by rw[uk9,uk9,w1,g1],λx hx=>?_,b2,λa0 a1 a4 a7 e10 e11 acc S K hl hK=>?_⟩
   .rcases uk8.mp hx with rfl|hx
    .exact w2
    .exact g2 x hx
   rw[ug9] at hl;rw[uk9,Bm];refine B6 ?_;refine(d1 a0 a1 a4 a7 e11 acc S K ∅ hK).mono λout t z9=>?_;clear 5 z9 e1 f11 e2;subst e1 e2;refine(d2 a0 a1 a4 a7 _ _ (acc++[wdD w]) S K (by rw[ue8,uc9];lia) hK).mono λout t z9=>?_;clear 5 z9 e1 f10 f11 e2;refine⟨e1,f10,f11,?_⟩;rw[e2,ug1];rfl
def stB(Ag A0:Fn):M Out:=
 (Ae (Al 7 (Ac (Av (AD (Aa (fC (.str "left")) (Aa (fC (.str "right")) Ad)))) (Ah Ag (Aa (Ab 6) (Aa (dr 2) Ad))) ixD))
 (Ae (Al 8 (Ah Ag (Aa (Ab 6) (Aa (dr 14) Ad))))
 (Ae (DC 9 (AD Ad))
 (Ae (BF (Bs (Aa (Ac (Av (AD (Aa (dr 1) (Aa (dr 2) (Aa (dr 3) (Aa (dr 9) Ad)))))) (Ah Ag (Aa (Ab 6) (Aa (dr 4) Ad))) ixD) Ad)) (As 10) (wdB Ag A0))
 (ownM 4 BN (Aa (AC (Aa (Ab 7) (Aa (Ab 9) Ad))) Ad))))))
theorem NS(hd:FF cd)(hs:C7 cs0 3){many h:Int}(m0:1<=many)(m1:many<=30)(h0:0<=h)(h1:h<many)(s:Sx)(b:SxB 3000 s):∃(x:GS) (s':Sx),GSN many x/\∀(a0 a1 e7 e8 e9 e10 e11:Option Sl) (acc:List D) (S:List Ob) (K:Nat),acc.length<=30->K<S.length->
 L2.W (stB cd cs0) ⟨[a0,a1,vw (.int many),vw (.lst (nm14.map D.str)),some (.own acc),vw (.int h),vw (.obj K),e7,e8,e9,e10,e11],S.set K (.dct s.l)⟩ λout t=>out=.next/\XN5 λf7 f8 f9 f10 f11=>t=⟨[a0,a1,vw (.int many),vw (.lst (nm14.map D.str)),some (.own (acc++[x.d])),vw (.int h),vw (.obj K),f7,f8,f9,f10,f11],S.set K (.dct s'.l)⟩:=by
 have hL:LIM=100000:=rfl;clear 5(hd s 2 2999 b ∅ ∅)x s1 x0 x1 b1 d1;clear 5(hd s1 14 2998 b1 (by decide) (by decide))o s2 o0 o1 b2 d2;clear 5(hd s2 4 2997 b2 (by decide) (by decide))z s3 z0 z1 b3 d3;clear 5(ub8 o0)o rfl;obtain⟨dd,ed,side,rfl,hside⟩:=Hh (xs:=[D.str (Str.ofString "left"),D.str (Str.ofString "right")]) x0 (by simpa using x1) (p:=λd=>∃m:Str,d=.str m/\(m=Str.ofString "left"\/m=Str.ofString "right")) (by
  simp only[ud7];exact⟨⟨_,rfl,.inl rfl⟩,⟨_,rfl,.inr rfl⟩,λ_ z=>nomatch z⟩)
 obtain⟨dd,ed2,n,rfl,n0,n1⟩:=Hh (xs:=[D.int 1,D.int 2,D.int 3,D.int 9]) z0 (by simpa using z1) (p:=λd=>∃m:Nat,d=.int (m:Nat)/\1<=m/\m<=9) (by
  simp only[ud7];exact⟨⟨1,rfl,by decide,by decide⟩,⟨2,rfl,by decide,by decide⟩,⟨3,rfl,by decide,by decide⟩,⟨9,rfl,by decide,by decide⟩,λ_ z=>nomatch z⟩)
 clear 5(Jq (o:=o) hd hs m0 m1 h0 h1 (List.range n) s3 0 (λk hk=>by have:=uk2.mp hk;lia) (b3.mono (by rw[ug5];lia)))ws s4 w1 w2 b4 d4;have wl:ws.length=n:=by have:=gu List.length w1;rwa [ui6,ui6,ug5] at this
 have hnm:∀w∈ws,w.1.length<=1000:=λw hw=>by
  have:w.1∈ws.map (·.1):=List.mem_map_of_mem hw;rw[w1] at this;obtain⟨k,_,ek⟩:=un0.mp this;rw[<-ek];exact Vn o k
 refine⟨.st side ws,s4,⟨.st hside ∅ ∅ (by rw[w1];exact Vm ∅ n1) w2,hnm⟩,λa0 a1 e7 e8 e9 e10 e11 acc S K hacc hK=>?_⟩;unfold stB;symm;refine d1.use hK ?_;rw[6,AM ed];rw[6,d2.use hK];refine d3.use hK ?_;rw[6,AM ed2];refine Dm (Fy (m:=9) n1) ?_;rw[show AQ 0 ((n:Int)).toNat=(List.range n).map λi:Nat=>D.int (i:Int) by unfold AQ;simp];refine(d4 a0 a1 _ _ _ _ [] S K (by rw[ug5,uj5];lia) hK).mono λout t z9=>?_;clear 5 z9 e1 f10 f11 e2;subst e1 e2;symm;refine AO ∅ ?_;exact⟨rfl,_,_,_,_,_,rfl⟩
theorem Dl:S++[o]=(S++[Ob.dct []]).set S.length o:=by
 rw[ud2 _ _ (un2 _),um8];rfl
theorem D8:S.length<(S++[o]).length:=by rw[ue8,uc9];lia
theorem Kp.gr70(K:Kp S.length (S++[o]) S'):Gr S S':=by
 clear 5 K h1 h2;rw[ue8,uc9] at h1 h2;exact⟨by lia,λi hi=>by rw[h2 i ∅ ∅,ub1 hi]⟩
def gB(Ag A0 A7:Fn):M Out:=
 (Ae (Al 6 (Ah A7 (Aa (Ab 0) (Aa (Ac (Ab 1) (Ab 5) Ar) Ad))))
 (ifS (Ic (Aj (Ac (Ah Ag (Aa (Ab 6) (Aa (dr 6) Ad))) (dr 1) (eqS id))) (fOr (Aj (Ac (Ab 5) (dr 0) gtA)) (Aj (Ac (Ah Ag (Aa (Ab 6) (Aa (dr 4) Ad))) (dr 1) (eqS id)))))
   (ownM 4 BN (Aa (AC (Aa (fC (.str "end")) Ad)) Ad))
   (stB Ag A0)))
theorem UZ(hd:FF cd)(hs:C7 cs0 3)(ht:Eb ct){ns:List Int}{start many h:Nat}(hn:ns.length<=63)(m0:1<=many)(m1:many<=30)(h1:h<many)(hst:start<=900):∃(x:GS) (s':Sx),GSN (many:Nat) x/\∀(e6 e7 e8 e9 e10 e11:Option Sl) (acc:List D) (S:List Ob),acc.length<=30->
 L2.W (gB cd cs0 ct) ⟨[vw (.scr ns),vw (.int (start:Nat)),vw (.int (many:Nat)),vw (.lst (nm14.map D.str)),some (.own acc),vw (.int (h:Nat)),e6,e7,e8,e9,e10,e11],S⟩ λout t=>out=.next/\XN6 λf6 f7 f8 f9 f10 f11=>t=⟨[vw (.scr ns),vw (.int (start:Nat)),vw (.int (many:Nat)),vw (.lst (nm14.map D.str)),some (.own (acc++[x.d])),vw (.int (h:Nat)),f6,f7,f8,f9,f10,f11],S++[.dct s'.l]⟩:=by
 have hL:LIM=100000:=rfl;clear 5(ht ns (start+h) hn ∅)s b d;have e0:(start:Int)+(h:Int)=((start+h:Nat):Int):=by lia
 clear 5(hd s 6 3001 (b.mono ∅) (by decide) (by decide))x s1 x0 x1 b1 d1
 by_cases k1:x=1
 .subst k1
  by_cases k2:0<h
  .refine⟨.fin,s1,⟨.fin,λ_ h=>nomatch h⟩,λe6 e7 e8 e9 e10 e11 acc S hacc=>?_⟩;unfold gB;symm;rw[e0];refine(d S).mono λq S' z9=>?_;clear 5 z9 q1 q2;subst q1 q2;rw[Dl (o:=.dct s.l)];symm;rw[6,d1.use D8];rw[6,Bj (uk6 ∅)];refine AO ∅ ?_;rw[<-Dl (o:=.dct s1.l)];exact⟨rfl,_,_,_,_,_,_,rfl⟩
  .have k2:h=0:=by lia
   subst k2;clear 5(hd s1 4 3000 b1 (by decide) (by decide))y s2 y0 y1 b2 d2
   by_cases k3:y=1
   .subst k3;refine⟨.fin,s2,⟨.fin,λ_ h=>nomatch h⟩,λe6 e7 e8 e9 e10 e11 acc S hacc=>?_⟩;unfold gB;symm;rw[e0];refine(d S).mono λq S' z9=>?_;clear 5 z9 q1 q2;subst q1 q2;rw[Dl (o:=.dct s.l)];symm;rw[6,d1.use D8];rw[6,d2.use D8];refine AO ∅ ?_;rw[<-Dl (o:=.dct s2.l)];exact⟨rfl,_,_,_,_,_,_,rfl⟩
   .clear 5(NS hd hs (many:=(many:Nat)) (h:=((0:Nat):Int)) ∅ ∅ ∅ ∅ s2 b2)g s3 g1 d3;refine⟨g,s3,g1,λe6 e7 e8 e9 e10 e11 acc S hacc=>?_⟩;unfold gB;symm;rw[e0];refine(d S).mono λq S' z9=>?_;clear 5 z9 q1 q2;subst q1 q2;rw[Dl (o:=.dct s.l)];symm;rw[6,d1.use D8];rw[6,d2.use D8];rw[6,Be (fE.mpr k3)];refine(d3 _ _ _ _ _ _ _ acc _ S.length hacc D8).mono λout t z9=>?_;clear 5 z9 q1 f7 f8 f9 f10 f11 q2;subst q1 q2;rw[<-Dl (o:=.dct s3.l)];exact⟨rfl,_,_,_,_,_,_,rfl⟩
 .clear 5(NS hd hs (many:=(many:Nat)) (h:=(h:Nat)) ∅ ∅ ∅ ∅ s1 (b1.mono ∅))g s3 g1 d3;refine⟨g,s3,g1,λe6 e7 e8 e9 e10 e11 acc S hacc=>?_⟩;unfold gB;symm;rw[e0];refine(d S).mono λq S' z9=>?_;clear 5 z9 q1 q2;subst q1 q2;rw[Dl (o:=.dct s.l)];symm;rw[6,d1.use D8];rw[6,Be (fE.mpr k1)];refine(d3 _ _ _ _ _ _ _ acc _ S.length hacc D8).mono λout t z9=>?_;clear 5 z9 q1 f7 f8 f9 f10 f11 q2;subst q1 q2;rw[<-Dl (o:=.dct s3.l)];exact⟨rfl,_,_,_,_,_,_,rfl⟩
theorem NL{cd cs0 ct:Fn}(hd:FF cd)(hs:C7 cs0 3)(ht:Eb ct){ns:List Int}{start many:Nat}(hn:ns.length<=63)(m0:1<=many)(m1:many<=30)(hst:start<=900):∀(l:List Nat),(∀h∈l,h<many)->∃(g:List GS) (os:List Ob),g.length=l.length/\(∀x∈g,GSN (many:Nat) x)/\∀(e5 e6 e7 e8 e9 e10 e11:Option Sl) (acc:List D) (S:List Ob),acc.length+l.length<=30->
 L2.W (BS (As 5) (gB cd cs0 ct) (l.map λk:Nat=>D.int (k:Int))) ⟨[vw (.scr ns),vw (.int (start:Nat)),vw (.int (many:Nat)),vw (.lst (nm14.map D.str)),some (.own acc),e5,e6,e7,e8,e9,e10,e11],S⟩ λout t=>out=.next/\XN7 λf5 f6 f7 f8 f9 f10 f11=>t=⟨[vw (.scr ns),vw (.int (start:Nat)),vw (.int (many:Nat)),vw (.lst (nm14.map D.str)),some (.own (acc++g.map GS.d)),f5,f6,f7,f8,f9,f10,f11],S++os⟩
 |[],_=>⟨[],[],rfl,(λ_ h=>nomatch h),λe5 e6 e7 e8 e9 e10 e11 acc S _=>W_forL_nil.mpr ⟨rfl,_,_,_,_,_,_,_,by rw[um4,ui8,ui8]⟩⟩
 |h::l,hl=>by
   clear 5(UZ hd hs ht hn m0 m1 (hl h ue4) hst)x s1 x1 d1;obtain⟨g,os,g1,g2,d2⟩:=NL hd hs ht hn m0 m1 hst l λj hj=>hl j (ud3 _ hj);refine⟨x::g,.dct s1.l::os,by rw[ug9,ug9,g1],λy hy=>?_,λe5 e6 e7 e8 e9 e10 e11 acc S hacc=>?_⟩
   .rcases uk8.mp hy with rfl|hy
    .exact x1
    .exact g2 y hy
   rw[ug9] at hacc;rw[uk9,Bm];refine B6 ?_;refine(d1 _ _ _ _ _ _ acc S ∅).mono λout t z9=>?_;clear 5 z9 q1 f6 f7 f8 f9 f10 f11 q2;subst q1 q2;refine(d2 _ _ _ _ _ _ _ (acc++[x.d]) (S++[.dct s1.l]) (by rw[ue8,uc9];lia)).mono λout t h2=>?_;clear 5 h2 q1 f5 f6 f7 f8 f9 f10 f11 q2;refine⟨q1,f5,f6,f7,f8,f9,f10,f11,?_⟩;rw[q2,ug1,ug1];rfl
def N1(f:Fn):Prop:=∀(ns:List Int) (start many:Nat),ns.length<=63->1<=many->many<=30->start<=900->∃(g:List GS) (os:List Ob),GON g/\∀S:List Ob,Wf f [.scr ns,.int (start:Nat),.int (many:Nat)] S λq S'=>q=.lst (g.map GS.d)/\S'=S++os
theorem U0(hd:FF cd)(hs:C7 cs0 3)(ht:Eb ct):N1 (fnOf 3 12 (Df cd cs0 ct)):=by
 intro ns start many hn m0 m1 hst;obtain⟨g,os,g1,g2,d⟩:=NL hd hs ht hn m0 m1 hst (List.range many) λh hh=>uk2.mp hh;rw[ug5] at g1;refine⟨g,os,⟨⟨by lia,by lia,by rw[g1];exact λx hx=>(g2 x hx).ok⟩,λx hx=>(g2 x hx).nm⟩,λS=>?_⟩;rw[9,Df];refine Dm (Fy (m:=30) m1) ?_;rw[show AQ 0 ((many:Int)).toNat=(List.range many).map λi:Nat=>D.int (i:Int) by unfold AQ;simp];refine(d none none none none none none none [] S (by rw[ug5,uj5];lia)).mono λout t z9=>?_;clear 5 z9 e1 f5 f6 f7 f8 f9 f10 f11 e2;subst e1 e2;symm;exact⟨rfl,rfl⟩
theorem Mr{cd cg:Fn}(hd:DrawD cd)(hg:N1 cg){ns:List Int}{room:Nat}(hn:ns.length<=63)(m0:1<=room)(m1:room<=30):∀(l:List Nat) (s:Sx) (r:Nat),(∀k∈l,k<=8)->SxB (r+l.length) s->∃(gs:List (List GS)) (s':Sx),gs.length=l.length/\(∀g∈gs,GON g)/\∀(z:Option Sl) (S:List Ob) (K:Nat),S[K]?=some (.dct s.l)->
 L2.W (Bl (As 0) Bk (Ah cg (Aa (Ab 1) (Aa (Ac (dr 2) (Ac (Ab 2) (Ab 0) Dg) Ar) (Aa (Ac (dr 1) (Ah cd (Aa (Ab 3) (Aa (Ab 2) Ad))) Ar) Ad)))) (l.map λk:Nat=>D.int (k:Int))) ⟨[z,vw (.scr ns),vw (.int (room:Nat)),vw (.obj K)],S⟩ λq t'=>q=gs.map (λg=>.lst (g.map GS.d))/\Kp K S t'.S
 |[],s,r,_,b=>⟨[],s,rfl,(λ_ h=>nomatch h),λz S K _=>W_compL_nil.mpr ⟨rfl,.refl⟩⟩
 |k::l,s,r,hk,b=>by
   rw[ug9] at b;have hk0:=hk k ue4;clear 5(hd s (room:Nat) (r+l.length) b ∅ ∅)x s1 x0 x1 b1 d1;clear 5(ub8 x0)x rfl;have hrk:room*k<=240:=um0 (Nat.mul_le_mul m1 hk0) (by decide);clear 5(hg ns (2+room*k) (1+x) hn ∅ ∅ ∅)g os g1 d2;clear 5(Mr hd hg hn m0 m1 l s1 r (λj hj=>hk j (ud3 _ hj)) b1)gs s2 g2 g3 d3;refine⟨g::gs,s2,by rw[ug9,ug9,g2],λy hy=>?_,λz S K hK=>?_⟩
   .rcases uk8.mp hy with rfl|hy
    .exact g1
    .exact g3 y hy
   rw[uk9,A6];refine B6 (Et ?_);rw[gE rfl];symm;rw[6,Dx (B9 ∅ ∅)];refine(d1 S K hK).mono λq S' z9=>?_;clear 5 z9 q1 q2;subst q1 q2;symm;rw[show(2:Int)+(room:Int)*(k:Int)=((2+room*k:Nat):Int) by push_cast;rfl,show(1:Int)+(x:Int)=((1+x:Nat):Int) by lia];refine(d2 _).mono λq S' z9=>?_;clear 5 z9 q1 q2;subst q1 q2;have hg1:(S.set K (.dct s1.l)++os)[K]?=some (.dct s1.l):=by
    have h1:(S.set K (.dct s1.l))[K]?=some (.dct s1.l):=AK hK;rw[ub1 (Br h1)];exact h1
   have k1:Kp K S (S.set K (.dct s1.l)++os):=⟨by rw[ue8,uj1];lia,λi h n=>by
    rw[ub1 (by rw[uj1];exact h),ud5 (Ne.symm n)]⟩
   refine(d3 _ _ K hg1).mono λq t' z9=>?_;clear 5 z9 q1 q2;subst q1;exact⟨rfl,k1.trans q2⟩
def Rg(f:Fn):Prop:=∀(ns:List Int),ns.length<=63->∃gs:List (List GS),1<=gs.length/\gs.length<=9/\(∀g∈gs,GON g)/\∀S:List Ob,Wf f [.scr ns] S λq S'=>q=gsD gs/\Gr S S'
theorem U2{cg:Fn}(hd:DrawD cd)(hg:N1 cg)(ht:Eb ct):Rg (fnOf 1 4 (DS cd cg ct)):=by
 intro ns hn;have hL:LIM=100000:=rfl;clear 5(ht ns 0 hn ∅)s b d;clear 5(hd s 9 9 (b.mono ∅) (by decide) (by decide))x s1 x0 x1 b1 d1;clear 5(ub8 x0)x rfl;obtain⟨room,er,r0,r1⟩:∃room:Nat,(if (36:Int)/(1+(x:Int))<30 then(36:Int)/(1+(x:Int)) else 30)=(room:Nat)/\1<=room/\room<=30:=by
  have h1:4<=(36:Int)/(1+(x:Int)):=by
   have:(1+(x:Int))*4<=36:=by lia
   exact(fk ∅).mpr ∅
  split
  .exact⟨((36:Int)/(1+(x:Int))).toNat,by lia,by lia,by lia⟩
  .exact⟨30,rfl,by decide,by decide⟩
 clear 5(Mr hd hg hn r0 r1 (List.range (1+x)) s1 0 (λk hk=>by have:=uk2.mp hk;lia) (b1.mono (by rw[ug5];lia)))gs s2 g1 g2 d2;rw[ug5] at g1;refine⟨gs,by lia,by lia,g2,λS=>?_⟩;rw[9,DS];refine(d S).mono λq S' z9=>?_;clear 5 z9 q1 q2;subst q1 q2;symm;refine(d1 _ S.length AS).mono λq S' z9=>?_;clear 5 z9 q1 q2;subst q1 q2;symm;rw[6,YY ∅ ∅];rw[er];symm;refine Dm (Bx ∅ ∅) ?_;rw[show AQ 0 ((1:Int)+(x:Int)).toNat=(List.range (1+x)).map λi:Nat=>D.int (i:Int) by unfold AQ;rw[show((1:Int)+(x:Int)).toNat=1+x by lia];simp];refine(d2 _ _ S.length (AK AS)).mono λq t' z9=>?_;clear 5 z9 q1 q2;subst q1;refine AO (by rw[ui6];lia) ?_;symm;exact⟨rfl,(Kp.refl.setk.trans q2).gr70⟩
local macro_rules | `(tactic| walk_at"y1")=>`(tactic| first
 |walk_at"x1" |clear 31 HU Jw)
noncomputable def gAt(gs:List (List GS))(i:Nat):List GS:=gs.getD i []
noncomputable def hAt(hs:List Nat)(i:Nat):Nat:=hs.getD i 0
def sayD(gs:List (List GS))(hs:List Nat)(i p:Nat)(v:D):D:=.tup [.int (i:Nat),.str (Bd (gAt gs i) (hAt hs i)).side,.str (B7 (gAt gs i) (hAt hs i) p).1,v]
def Fw(gs:List (List GS))(hs:List Nat)(i p:Nat)(v:D):Nat:=(AV (B7 (gAt gs i) (hAt hs i) p).2.1 v).length
inductive Said(gs:List (List GS)):List Nat->List D->Nat->Prop
 |nil:Said gs (List.replicate gs.length 0) [] 0
 |snoc {hs:List Nat}{ds:List D}{n i p:Nat}{v:D}:Said gs hs ds n->i<gs.length->MvOk (gAt gs i) (hAt hs i) p v->Said gs (hs.set i (C6 (gAt gs i) (hAt hs i) p)) (ds++[sayD gs hs i p v]) (n+(2+Fw gs hs i p v))
theorem I9(h:∀g∈gs,GOk g){i:Nat}(hi:i<gs.length):GOk (gAt gs i):=by
 unfold gAt;rw[ua9,ub4 hi];exact h _ (ui0 hi)
theorem LL(hi:i<gs.length):atI (gs.map λg=>D.lst (g.map GS.d)) (i:Int)=some (.lst ((gAt gs i).map GS.d)):=by
 refine DQ ?_;unfold gAt;rw[uf8,ua9,ub4 hi];rfl
theorem LN(hi:i<hs.length):atI (nD hs) (i:Int)=some (.int ((hAt hs i:Nat):Int)):=DQ (LZ hi)
theorem Said.len(h:Said gs hs ds n):hs.length=gs.length:=by
 induction h with
 |nil=>rw[uc7]
 |snoc _ _ _ ih=>rw[uj1];exact ih
theorem Said.few(h:Said gs hs ds n):ds.length<=n:=by
 induction h with
 |nil=>exact un3 _
 |snoc _ _ _ ih=>rw[ue8,uc9];lia
theorem U4{x:Nat}(hi:i<hs.length):hAt (hs.set i x) j=if j=i then x else hAt hs j:=by
 unfold hAt;rw[ua9,ua9]
 by_cases q:j=i
 .subst q;rw[gE rfl,uc0 hi];rfl
 .rw[gG q,ud5 (Ne.symm q)]
theorem Said.lt{gs:List (List GS)}(hg:∀g∈gs,GOk g){hs:List Nat}{ds:List D}{n:Nat}(h:Said gs hs ds n):∀i,i<gs.length->hAt hs i<(gAt gs i).length:=by
 induction h with
 |nil=>
   intro i hi;have e:hAt (List.replicate gs.length 0) i=0:=by
    unfold hAt;rw[ua9,ub6,gE hi];rfl
   rw[e];exact(I9 hg hi).ne
 |@snoc hs ds n i p v h0 hi hm ih=>
   intro j hj;rw[U4 (by rw[h0.len];exact hi)]
   by_cases q:j=i
   .subst q;rw[gE rfl];have hw:=Pb (I9 hg hi) hm.lt hm.pl;have h1:=hw.lo;have h2:=hw.hi;unfold C6;lia
   .rw[gG q];exact ih j hj
theorem Qm(hs:List Nat)(i x:Nat):(nD hs).set i (.int (x:Int))=nD (hs.set i x):=by
 unfold nD;rw[List.map_set]
theorem NZ{k:Int}{Q:List D->T->Prop}(h1:Bw k=true/\xs.length*k.toNat<=LIM)(h:Q (List.replicate k.toNat xs).flatten t):L2.W (Ip (.lst xs) (.int k)) t Q:=⟨_,_,by show(if _ then _ else _)=_;rw[gE h1],h⟩
theorem LI(n:Nat):(List.replicate n [D.int 0]).flatten=nD (List.replicate n 0):=by
 unfold nD
 induction n with
 |zero=>rfl
 |succ n ih=>rw[ue1,ug0,ih,ue1];rfl
theorem Mq{a:Int}{d:D}(h:d∈AQ a n):∃k:Nat,d=.int (a+k)/\k<n:=by
 unfold AQ at h;clear 5(un0.mp h)k hk rfl;exact⟨k,rfl,uk2.mp hk⟩
theorem QR(hb:DZ cb 3)(hv:Le cv 3)(hd:DrawD cd)(ht:Eb ct){ns:List Int}{gs:List (List GS)}{hs:List Nat}{ds:List D}{n k:Nat}{S:List Ob}{a2 e7 e8 e9 e10 e11 e12 e13 e14:Option Sl}(hn:ns.length<=63)(hk:k<=63)(hg:∀g∈gs,GOk g)(g1:1<=gs.length)(g9:gs.length<=9)(h:Said gs hs ds n)(h15:n<=1500) :
 L2.W (OU cb cv cd ct) ⟨[vw (.scr ns),vw (gsD gs),a2,some (.own (nD hs)),some (.own ds),vw (.int (1500-(n:Int))),vw (.int (k:Nat)),e7,e8,e9,e10,e11,e12,e13,e14],S⟩ λout t=>out=.next/\XN13 λhs' ds' n' S' f6 f7 f8 f9 f10 f11 f12 f13 f14=>AN4 (Said gs hs' ds' n') (n'<=1500) (Gr S S') (t=⟨[vw (.scr ns),vw (gsD gs),a2,some (.own (nD hs')),some (.own ds'),vw (.int (1500-(n':Int))),f6,f7,f8,f9,f10,f11,f12,f13,f14],S'⟩):=by
 have hL:LIM=100000:=rfl;clear 5(ht ns k hn ∅)s b d;have hds:=h.few;have hlen:=h.len;unfold OU gsD;symm;refine(d S).mono λq S' z9=>?_;clear 5 z9 q1 q2;subst q1 q2;have k0:StK S.length 100000 (S++[.dct s.l]) (S++[.dct s.l]):=⟨.refl,s,AS,b.mono ∅⟩;symm;rw[ui6];refine hd.use (r:=99999) (gs.length:Nat) k0 (λi S1 i0 i1 k1=>?_) rfl ∅ ∅;clear 5(ub8 i0)i rfl;have hi:i<gs.length:=by lia
 have hlt:=h.lt hg i hi;have hgo:=I9 hg hi;have hgs:=JR hgo hlt;symm;rw[6,AM (LL hi)];rw[6,ML rfl];refine⟨_,_,_,rfl,rfl,LN ∅,?_⟩;rw[6,AM (Ih hlt)]
 cases egs:Bd (gAt gs i) (hAt hs i) with
 |fin=>
   rw[GS.d];symm;exact⟨rfl,hs,ds,n,S1,_,_,_,_,_,_,_,_,_,h,h15,k1.1.gr70,rfl⟩
 |st side ws=>
   rw[egs] at hgs;obtain⟨w0,w9⟩:0<ws.length/\ws.length<=9:=by
    cases hgs with
    |st _ h2 h3 _ _=>exact⟨h2,h3⟩
   rw[GS.d];symm;rw[6,AM (LL hi)];rw[6,ML rfl];refine⟨_,_,_,rfl,rfl,LN ∅,?_⟩;refine AM (Ih hlt) ?_;rw[egs,GS.d];symm;rw[ui6];refine hd.use (r:=99998) (ws.length:Nat) k1 (λp S2 p0 p1 k2=>?_) rfl ∅ ∅;clear 5(ub8 p0)p rfl;have hp:p<(Bd (gAt gs i) (hAt hs i)).ws.length:=by rw[egs];show p<ws.length;lia
   clear 5(OZ hp)side' ws' e1 hp' ew;rw[egs] at e1;injection e1 with e1 e2
   subst e1 e2;have hw:=Pb hgo hlt hp;refine AM (Hr ew) ?_;unfold wdD;symm;refine(hv _ S.length 10 _ S2 hw.dep hw.ok (k2.mono (by decide))).mono λv S3 hvc=>?_;have hm:MvOk (gAt gs i) (hAt hs i) p v:=⟨hlt,hp,hvc.fit⟩;have hbl:(AV (B7 (gAt gs i) (hAt hs i) p).2.1 v).length<=12000:=hvc.len;have hbb:=hb _ hw.dep hw.ok v hvc.fit ∅;symm;rw[6,hbb.use]
   by_cases hc:2+(AV (B7 (gAt gs i) (hAt hs i) p).2.1 v).length<=1500-n
   .rw[6,Bj (uk6 ∅)];rw[6,hbb.use];rw[6,AO ∅];rw[6,Rc rfl];refine⟨_,_,i,rfl,rfl,Cq ∅ (by unfold nD;rw[ui6];lia),?_⟩;refine⟨rfl,_,_,_,S3,vw (.int (k:Nat)),vw (.obj S.length),vw (.int (i:Nat)),vw (.str side),vw (.lst (ws.map wdD)),vw (.str (B7 (gAt gs i) (hAt hs i) p).1),some (.val (B7 (gAt gs i) (hAt hs i) p).2.1.d),vw (.int (B7 (gAt gs i) (hAt hs i) p).2.2),vw v,.snoc h hi hm,?_,hvc.st.1.gr70,?_⟩
    .unfold Fw;lia
    .have e5:(1500:Int)-(n:Int)-2-((AV (B7 (gAt gs i) (hAt hs i) p).2.1 v).length:Int)=1500-((n+(2+Fw gs hs i p v):Nat):Int):=by unfold Fw;lia
     have e3:(nD hs).set i (.int (B7 (gAt gs i) (hAt hs i) p).2.2)=nD (hs.set i (C6 (gAt gs i) (hAt hs i) p)):=by
      rw[<-Qm];unfold C6
      congr 2
      have:=hw.lo;lia
     have e4:sayD gs hs i p v=.tup [.int (i:Nat),.str side,.str (B7 (gAt gs i) (hAt hs i) p).1,v]:=by unfold sayD;rw[egs];rfl
     rw[<-e5,<-e3,e4];rfl
   .rw[6,Be (uk1 ∅)];exact⟨rfl,hs,ds,n,S3,_,_,_,_,_,_,_,_,_,h,h15,hvc.st.1.gr70,rfl⟩
def TL(f:Fn):Prop:=∀(ns:List Int) (gs:List (List GS)) (S:List Ob),ns.length<=63->(∀g∈gs,GOk g)->1<=gs.length->gs.length<=9->Wf f [.scr ns,gsD gs,.int 38] S λq S'=>Gr S S'/\∃hs ds n,q=.lst ds/\Said gs hs ds n/\n<=1500
theorem Su(hb:DZ cb 3)(hv:Le cv 3)(hd:DrawD cd)(ht:Eb ct):TL (fnOf 3 15 (Eh cb cv cd ct)):=by
 intro ns gs S hn hg g1 g9;have hL:LIM=100000:=rfl;rw[9,Eh];unfold gsD;symm;rw[ui6];refine NZ ⟨Fy g9,by show 1*_<=_;lia⟩ ?_;rw[uf9,LI];symm;obtain⟨m,hm,hm0⟩:∃m:Nat,(if ((ns.length:Nat):Int)<63 then((ns.length:Nat):Int) else 63)=(m:Nat)/\m<=63:=by
  split
  .exact⟨ns.length,rfl,by lia⟩
  .exact⟨63,rfl,by decide⟩
 rw[hm];refine Y4 (by rw[uh3];exact⟨by decide,Fy hm0⟩) ?_;refine Dn (λr t=>XN13 λhs' ds' n' S' f6 f7 f8 f9 f10 f11 f12 f13 f14=>AN4 (Said gs hs' ds' n') (n'<=1500) (Gr S S') (t=⟨[vw (.scr ns),vw (gsD gs),vw (.int 38),some (.own (nD hs')),some (.own ds'),vw (.int (1500-(n':Int))),f6,f7,f8,f9,f10,f11,f12,f13,f14],S'⟩)) _ _ ⟨_,_,0,S,none,none,none,none,none,none,none,none,none,.nil,by decide,.refl,rfl⟩ ?_ ?_
 .rintro d r t ⟨hs,ds,n,S1,f6,f7,f8,f9,f10,f11,f12,f13,f14,h1,h2,h3,rfl⟩ hd0;clear 5(Mq hd0)k rfl hk;refine B6 ?_;rw[show(38:Int)+(k:Nat)=((38+k:Nat):Int) by lia];refine(QR hb hv hd ht (k:=38+k) hn ∅ hg g1 g9 h1 h2).mono λout t z9=>?_;clear 5 z9 e1 hs' ds' n' S' f6 f7 f8 f9 f10 f11 f12 f13 f14 q1 q2 q3 q4;subst e1;exact⟨hs',ds',n',S',f6,f7,f8,f9,f10,f11,f12,f13,f14,q1,q2,h3.trans q3,q4⟩
 .rintro t ⟨hs,ds,n,S1,f6,f7,f8,f9,f10,f11,f12,f13,f14,h1,h2,h3,rfl⟩;symm;exact⟨h3,hs,ds,n,rfl,h1,h2⟩
inductive SaidF(gs:List (List GS)):List Nat->List D->Nat->List Nat->Prop
 |nil {hs:List Nat}:SaidF gs hs [] 0 hs
 |cons {hs he:List Nat}{ds:List D}{n i p:Nat}{v:D}:hs.length=gs.length->i<gs.length->MvOk (gAt gs i) (hAt hs i) p v->SaidF gs (hs.set i (C6 (gAt gs i) (hAt hs i) p)) ds n he->SaidF gs hs (sayD gs hs i p v::ds) (n+(2+Fw gs hs i p v)) he
theorem SaidF.snoc{gs:List (List GS)}{hs he:List Nat}{ds:List D}{n i p:Nat}{v:D}(h:SaidF gs hs ds n he)(hl:he.length=gs.length)(hi:i<gs.length)(hm:MvOk (gAt gs i) (hAt he i) p v):SaidF gs hs (ds++[sayD gs he i p v]) (n+(2+Fw gs he i p v)) (he.set i (C6 (gAt gs i) (hAt he i) p)):=by
 induction h with
 |nil=>exact .cons hl hi hm .nil
 |cons h1 h2 h3 _ ih=>
   have:=ih hl hm;rw[ui2,Nat.add_right_comm];exact .cons h1 h2 h3 this
theorem Said.front(h:Said gs hs ds n):SaidF gs (List.replicate gs.length 0) ds n hs:=by
 induction h with
 |nil=>exact .nil
 |snoc h0 hi hm ih=>exact ih.snoc h0.len hi hm
theorem Wh{n:Int}{side:Str}{ws:List (Str×Sh×Int)}(h:GSOk n (.st side ws)):∃s,side=sd s:=by
 cases h with
 |st h1 _ _ _ _=>exact h1.elim (λz=>⟨true,z⟩) λz=>⟨false,z⟩
theorem Pk(hb:DZ cb 3){gs:List (List GS)}{hs:List Nat}{n i p K:Nat}{v:D}{w:Bool->List Nat}{S:List Ob}{a1 e4 e5 e6 e7 e8 e9:Option Sl}(hg:∀g∈gs,GOk g)(g9:gs.length<=9)(hlen:hs.length=gs.length)(hi:i<gs.length)(hm:MvOk (gAt gs i) (hAt hs i) p v)(h15:n+(2+Fw gs hs i p v)<=1500)(hw:(w true).length+(w false).length=n)(hwb:∀s,B256 (w s))(hK:S[K]?=some (.dct (dW (w true) (w false)))) :
 L2.W (unS 4 (AX (As 4) (AX (As 5) (AX (As 6) (AX (As 7) El)))) (sayD gs hs i p v)) ⟨[vw (gsD gs),a1,vw (.obj K),some (.own (nD hs)),e4,e5,e6,e7,e8,e9],S⟩ λ_ t1=>L2.W (KS cb) t1 λout t=>out=.next/\XN7 λ(f4 f5 f6 f7 f8 f9:Option Sl) (w':Bool->List Nat)=>AN3 ((w' true).length+(w' false).length=n+(2+Fw gs hs i p v)) ((∀s,B256 (w' s))) (t=⟨[vw (gsD gs),a1,vw (.obj K),some (.own (nD (hs.set i (C6 (gAt gs i) (hAt hs i) p)))),f4,f5,f6,f7,f8,f9],S.set K (.dct (dW (w' true) (w' false)))⟩):=by
 have hL:LIM=100000:=rfl;have hlt:=hm.lt;have hgo:=I9 hg hi;have hgs:=JR hgo hlt;have hwd:=Pb hgo hlt hm.pl;clear 5(OZ hm.pl)side ws egs hp ew;rw[egs] at hgs;clear 5(Wh hgs)s rfl;obtain⟨nd,h9⟩:(ws.map (·.1)).Nodup/\ws.length<=9:=by
  cases hgs with
  |st _ _ h3 h4 _=>exact⟨h4,h3⟩
 unfold Fw at h15;clear 5(P2 (Fd 3 _ hwd.dep hwd.ok v hm.fit))bs hbs hb256;have hbb:=hb _ hwd.dep hwd.ok v hm.fit ∅;have hbl:bs.length=Fw gs hs i p v:=by unfold Fw;rw[hbs,AF]
 unfold sayD gsD;rw[egs,show(GS.st (sd s) ws).side=sd s from rfl];symm;unfold KS;symm;rw[6,AM (LL hi)];rw[6,ML rfl];refine⟨_,_,_,rfl,rfl,LN ∅,?_⟩;refine AM (Ih hlt) ?_;rw[egs,GS.d];symm;rw[6,bV];refine(N5 (f:=λw=>.str w.1) (fr:=[]) ?_).mono ?_
 .intro w' _;unfold wdD;symm;exact⟨rfl,rfl⟩
 rintro xs tc ⟨rfl,hS⟩;refine AO (by rw[ui6,hL];lia) ?_;rw[hS];symm;refine⟨_,_,p,rfl,rfl,⟨rfl,Om⟩,PZ nd ew,?_⟩;symm;refine AE hK (lrF (λs=>.lst (wD (w s))) s) ?_;have hws:(w s).length<=1500:=by cases s<;>lia
 symm;refine AO (by rw[AF];show _+2<=_;lia) ?_;symm;refine AM (Hr ew) ?_;unfold wdD;symm;rw[6,hbb.use];refine AO (by rw[ue8,AF,hbs,AF];show _+2+_<=_;rw[hbs,AF] at h15;lia) ?_;symm;have ecat:wD (w s)++[D.int (i:Nat),D.int (p:Nat)]++AV (B7 (gAt gs i) (hAt hs i) p).2.1 v=wD (w s++[i,p]++bs):=by
  rw[hbs];unfold wD;rw[uj9,uj9];rfl
 refine BG hK (by show 2<100000;decide) ?_;rw[ecat,DY];rw[6,Hm];refine AM (Hr ew) ?_;unfold wdD;symm;rw[6,Rc rfl];refine⟨_,_,i,rfl,rfl,Cq ∅ (by unfold nD;rw[ui6];lia),?_⟩;have e3:(nD hs).set i (.int (B7 (gAt gs i) (hAt hs i) p).2.2)=nD (hs.set i (C6 (gAt gs i) (hAt hs i) p)):=by
  rw[<-Qm];unfold C6
  congr 2
  have:=hwd.lo;lia
 refine⟨rfl,vw (.int (i:Nat)),vw (.str (sd s)),vw (.str (B7 (gAt gs i) (hAt hs i) p).1),vw v,vw (.lst (ws.map wdD)),vw (.int (p:Nat)),BT w s (w s++[i,p]++bs),?_,?_,?_⟩
 .have e1:(w s++[i,p]++bs).length=(w s).length+2+bs.length:=by rw[ue8,ue8];rfl
  cases s with
  |true=>rw[KG,NW _ _ (by decide),e1,hbl];lia
  |false=>rw[KG,NW _ _ (by decide),e1,hbl];lia
 .intro s';unfold BT
  by_cases q:s'=s
  .rw[gE q];refine((hwb s).app ?_).app hb256;intro x hx;have hp9:p<9:=by lia
   rcases uk8.mp hx with rfl|hx
   .lia
   .rw[uf0] at hx;lia
  .rw[gG q];exact hwb s'
 .rw[<-e3];rfl
theorem Rw(hb:DZ cb 3){gs:List (List GS)}{a1:Option Sl}{K:Nat}(hg:∀g∈gs,GOk g)(g9:gs.length<=9){hs he:List Nat}{ds:List D}{n:Nat}(h:SaidF gs hs ds n he):∀(w:Bool->List Nat) (S:List Ob) (e4 e5 e6 e7 e8 e9:Option Sl),(w true).length+(w false).length+n<=1500->(∀s,B256 (w s))->S[K]?=some (.dct (dW (w true) (w false)))->
 L2.W (BS (unS 4 (AX (As 4) (AX (As 5) (AX (As 6) (AX (As 7) El))))) (KS cb) ds) ⟨[vw (gsD gs),a1,vw (.obj K),some (.own (nD hs)),e4,e5,e6,e7,e8,e9],S⟩ λout t=>out=.next/\∃(ev:List (Option Sl)) (w':Bool->List Nat) (S':List Ob),(w' true).length+(w' false).length<=1500/\(∀s,B256 (w' s))/\Kp K S S'/\S'[K]?=some (.dct (dW (w' true) (w' false)))/\ev[2]?=some (vw (.obj K))/\t=⟨ev,S'⟩:=by
 induction h with
 |nil=>
   intro w S e4 e5 e6 e7 e8 e9 h1 h2 h3;exact W_forL_nil.mpr ⟨rfl,_,w,S,by lia,h2,.refl,h3,rfl,rfl⟩
 |@cons hs he ds n i p v q1 q2 q3 _ ih=>
   intro w S e4 e5 e6 e7 e8 e9 h1 h2 h3;rw[Bm];refine(Pk hb hg g9 q1 q2 q3 ∅ rfl h2 h3).mono λ_ t1 z=>z.mono λo t z9=>?_;clear 5 z9 z1 f4 f5 f6 f7 f8 f9 w' z2 z3 z4;subst z1 z4;refine(ih w' _ f4 f5 f6 f7 f8 f9 ∅ z3 (AK h3)).mono λo t ⟨y1,ev,w2,S2,y2,y3,y4,y5⟩=>⟨y1,ev,w2,S2,y2,y3,(Kp.refl.setk).trans y4,y5⟩
def TK(f:Fn):Prop:=∀(gs:List (List GS)) (hs:List Nat) (ds:List D) (n:Nat) (S:List Ob),(∀g∈gs,GOk g)->gs.length<=9->Said gs hs ds n->n<=1500->Wf f [gsD gs,.lst ds] S λq S'=>q=.obj S.length/\Gr S S'/\∃w:Bool->List Nat,(w true).length+(w false).length<=1500/\(∀s,B256 (w s))/\S'[S.length]?=some (.dct (dW (w true) (w false)))
theorem Si(hb:DZ cb 3):TK (fnOf 2 10 (Ef cb)):=by
 intro gs hs ds n S hg g9 h h15;have hL:LIM=100000:=rfl;rw[9,Ef];rw[6,EH];refine⟨AS,?_⟩;symm;unfold gsD;symm;rw[ui6];refine NZ ⟨Fy g9,by show 1*_<=_;lia⟩ ?_;rw[uf9,LI];symm;have hK:((S++[Ob.dct []]).set S.length (.dct (lr (.lst []) (.lst []))))[S.length]?=some (.dct (dW [] [])):=AK AS;refine(Rw hb hg g9 h.front (λ_=>[]) _ _ _ _ _ _ _ (by show 0+0+n<=_;lia) (λ_ x hx=>nomatch hx) hK).mono λo t z9=>?_;clear 5 z9 z1 ev w' S' z2 z3 z4 z5 z6 z7;subst z1 z7;rw[6,Hm];rw[6,EI z6];exact⟨rfl,(Kp.refl.setk.trans z4).gr70,w',z2,z3,z5⟩
theorem Xv(hg:∀g∈gs,GOk g):eqN EQD (gsD gs) (gsD gs)=some true:=by
 unfold gsD;refine Fv (n:=10) (λx hx=>?_) 40 (by decide);clear 5(un0.mp hx)g hg1 rfl;refine Fv (n:=9) λx hx=>?_;clear 5(un0.mp hx)s hs rfl;exact λm hm=>W5 ((hg g hg1).all s hs) hm
local macro_rules | `(tactic| walk_at"y1")=>`(tactic| first
 |walk_at"x1" |clear 32 K6)
theorem NT(f:D->Nat)(g:List D->Nat)(hg:∀l,f (.lst l)=g l){m:D}{x:Nat}(hm:∀l,g (l++[m])=g l+x):∀(hd:List (List D)) (k:Nat),AR f ((hd.set k (hd.getD k []++[m])).map D.lst)<=AR f (hd.map D.lst)+x
 |[],k=>by simp[AR]
 |a::r,0=>by
   show f (.lst (a++[m]))+_<=f (.lst a)+_+x;rw[hg,hg,hm];lia
 |a::r,k+1=>by
   have:=NT f g hg hm r k;show f (.lst a)+AR f ((r.set k (r.getD k []++[m])).map D.lst)<=f (.lst a)+AR f (r.map D.lst)+x;lia
theorem XW{side:Str}{st:List Nat}{k:Nat}{m:D}(hg:∀g∈gs,GOk g)(h:nxR gs w side p st=.msg k m th e):nvO 4 m=true/\nl 4 m+p<=e:=by
 obtain⟨g,ws,v,c,_,h2,h3,h4,rfl,_⟩:=EN h;unfold Cs at h4
 cases hb:w[p+1]? with
 |none=>rw[hb] at h4;cases h4
 |some y=>
   rw[hb] at h4;dsimp only at h4
   cases hws:ws[y]? with
   |none=>rw[hws] at h4;cases h4
   |some wd=>
     rw[hws] at h4;injection h4 with h1 h5
     have hso:GSOk g.length (.st side ws):=by
      unfold Bd at h3;rw[ua9] at h3
      cases q:g[st.getD k 0]? with
      |none=>rw[q] at h3;cases h3
      |some x=>
        rw[q] at h3;have h3:x=_:=h3;have:=(hg g (ud6 h2)).all x (ud6 q);rw[h3] at this;exact this
     have hwo:WOk g.length wd:=by
      cases hso with
      |st _ _ _ _ h=>exact h wd (ud6 hws)
     clear 5(Hc 3 wd.2.1 hwo.dep hwo.ok (p+1+1) v e h1)q1 q2;exact⟨L9 (Dh _ _) (Dh _ _) q1,by rw[nl,AR,AR,AR,AR,Jj,Jj];lia⟩
def AllV(hd:List (List D)):Prop:=∀l∈hd,∀m∈l,nvO 4 m=true
theorem AllV.at(h:AllV hd){m:D}(hm:nvO 4 m=true)(k:Nat):AllV (hd.set k (hd.getD k []++[m])):=λl hl x hx=>by
 rcases List.mem_or_eq_of_mem_set hl with z|rfl
 .exact h l z x hx
 rcases ui4.mp hx with z|z
 .rw[ua9] at z
  cases q:hd[k]? with
  |none=>rw[q] at z;cases z
  |some y=>rw[q] at z;exact h y (ud6 q) x z
 .rw[uf0.mp z];exact hm
theorem YA{w:Bool->List Nat}(hg:∀g∈gs,GOk g){σ τ:Ls}(r:Run gs w σ τ):(AllV σ.hd->AllV τ.hd)/\AR (nl 5) (τ.hd.map D.lst)+(σ.p true+σ.p false)<=AR (nl 5) (σ.hd.map D.lst)+(τ.p true+τ.p false):=by
 induction r with
 |refl=>exact⟨id,un2 _⟩
 |@step σ τ ρ s a _ ih=>
   clear 5 a k m th e q rfl;clear 5(XW hg q)h0 h1;have h3:=NT (nl 5) (λl=>1+AR (nl 4) l) (λl=>rfl) (m:=m) (x:=nl 4 m) (λl=>by rw[Iv,AR,AR];lia) σ.hd k;have h4:σ.p true+σ.p false+nl 4 m<=(σ.go s k m th e).p true+(σ.go s k m th e).p false:=by
    show _<=(if true=s then e else σ.p true)+(if false=s then e else σ.p false)
    cases s with
    |true=>rw[gE rfl,gG (by decide)];have:nl 4 m+σ.p true<=e:=h1;lia
    |false=>rw[gG (by decide),gE rfl];have:nl 4 m+σ.p false<=e:=h1;lia
   have h5:AR (nl 5) ((σ.go s k m th e).hd.map D.lst)<=AR (nl 5) (σ.hd.map D.lst)+nl 4 m:=h3;exact⟨λh=>ih.1 (h.at h0 k),by have:=ih.2;lia⟩
theorem End.tk{w:Bool->List Nat}(hg:∀g∈gs,GOk g){σ:Ls}(h:End gs w σ):AllV σ.hd/\nl 7 (tkD σ)<=1+gs.length+(σ.p true+σ.p false):=by
 clear 5(YA hg h.1)h1 h2;have e0:AllV (ls0 gs).hd/\AR (nl 5) ((ls0 gs).hd.map D.lst)<=gs.length:=by
  show AllV (gs.map λ_=>[])/\AR (nl 5) ((gs.map λ_=>[]).map D.lst)<=_;refine⟨λl hl m hm=>?_,?_⟩
  .obtain⟨_,_,rfl⟩:=un0.mp hl
   cases hm
  clear h1 h2 h hg
  induction gs with
  |nil=>exact un2 _
  |cons a b ih=>
    show 1+0+AR (nl 5) ((b.map λ_=>[]).map D.lst)<=b.length+1;lia
 have e1:(ls0 gs).p true=0:=rfl;have e2:(ls0 gs).p false=0:=rfl;refine⟨h1 e0.1,?_⟩;unfold tkD;rw[nl,AR,AR,AR,nl,nl,AR,AR,AR,Ji,Ji];lia
theorem Xw(hm:AllV hd)(hl:hd.length<=1000)(hf:∀i,(hd.getD i []).length<=1000):nvO 6 (.lst (hd.map D.lst))=true:=F6 (by rw[ui6];exact hl) λx hx=>by
 clear 5(un0.mp hx)l h1 rfl;clear 5(ud1.mp h1)i hi;have:=hf i;rw[ua9,hi] at this;exact F6 this (hm l h1)
theorem HrdAt.res8(h:HrdAt S H hs hd)(hm:AllV hd)(n:Nat):AI S (4+n+2) (.obj H)=.lst (hd.map D.lst):=by
 clear 5 h.pairs ps e1 e2 e3;rw[AI,h.ih];dsimp only;rw[e1,e2,un1,un1]
 congr 1
 refine ue2 λp hp=>?_;show AI S (4+n+1) (.obj p.1)=.lst p.2;rw[AI,e3 p hp];dsimp only;rw[ue2 λx hx=>HK (4+n) x (Ct (hm p.2 (by rw[e2];exact List.mem_map_of_mem hp) x hx) n),List.map_id']
def lnO(S:List Ob)(k:Nat):Nat:=match S[k]? with
 |some (.lst ds)=>ds.length
 |_=>0
def Lts(S:List Ob)(fp:List Nat):Prop:=∀k∈fp,∃ds,S[k]?=some (.lst ds)/\ds.length<=1000
theorem FI{S:List Ob}:∀(fp:List Nat) (z:Option Sl),(∀k∈fp,∃ds,S[k]?=some (.lst ds))->L2.W (Bl (As 0) Bk (fB (Aa (Ab 0) Ad) AH) (fp.map D.obj)) ⟨[z],S⟩ λr t'=>r=(fp.map λk=>D.int (lnO S k:Nat))/\t'.S=S
 |[],z,_=>W_compL_nil.mpr ⟨rfl,rfl⟩
 |k::r,z,h=>by
   clear 5(h k ue4)ds e;rw[uk9,A6];refine B6 (Et ?_);rw[gE rfl];symm;refine Ww e ?_;refine(FI r _ λk hk=>h k (ud3 _ hk)).mono λxs t' z9=>?_;clear 5 z9 e1 e2;subst e1;refine⟨?_,e2⟩;rw[uk9];unfold lnO;rw[e]
theorem Ko{S:List Ob}:∀(l:List Nat) (z:Option Sl),L2.W (Bl (As 0) Bk (Ac (Ab 0) (dr 1) Ar) (l.map λn=>D.int (n:Nat))) ⟨[z],S⟩ λr t'=>r=(l.map λn=>D.int ((n+1:Nat):Int))/\t'.S=S
 |[],z=>W_compL_nil.mpr ⟨rfl,rfl⟩
 |k::r,z=>by
   rw[uk9,A6];refine B6 (Et ?_);rw[gE rfl];symm;refine(Ko r _).mono λxs t' z9=>?_;clear 5 z9 e1 e2;subst e1;exact⟨rfl,e2⟩
theorem M8{a0 a1 a2 a3 a4 a5 a6 a7 a8 e10:Option Sl}:∀(fp:List Nat) (S:List Ob) (e9:Option Sl),fp.Nodup->Lts S fp->L2.W (BS (As 9) (EK (objM BN (Ab 9) (Aa (fC .non) Ad))) (fp.map D.obj)) ⟨[a0,a1,a2,a3,a4,a5,a6,a7,a8,e9,e10],S⟩ λo t=>o=.next/\∃e9' S',t=⟨[a0,a1,a2,a3,a4,a5,a6,a7,a8,e9',e10],S'⟩/\S'.length=S.length/\(∀k,k∉fp->S'[k]?=S[k]?)/\∀k∈fp,∃ds,S'[k]?=some (.lst ds)/\ds.length=lnO S k+1
 |[],S,e9,_,_=>by
   rw[um4,W_forL_nil];exact⟨rfl,e9,S,rfl,rfl,λ_ _=>rfl,λ_ z=>nomatch z⟩
 |k::r,S,e9,hn,hl=>by
   have hL:LIM=100000:=rfl;rw[ui9] at hn;clear 5(hl k ue4)ds e h1;rw[uk9,Bm];symm;rw[6,O8 (k:=k)];refine⟨rfl,_,e,?_⟩;symm;refine⟨_,ds++[.non],e,?_,?_⟩
   .simp only[BN];rw[gE (by rw[hL];lia)]
   symm;have hoff:∀j,j≠k->(S.set k (.lst (ds++[D.non])))[j]?=S[j]?:=λj hj=>ud5 (Ne.symm hj);have hln:∀j∈r,lnO (S.set k (.lst (ds++[D.non]))) j=lnO S j:=λj hj=>by
    unfold lnO;rw[hoff j λz=>hn.1 (by rw[<-z];exact hj)]
   refine(M8 r (S.set k (.lst (ds++[D.non]))) _ hn.2 λj hj=>by rw[hoff j λz=>hn.1 (by rw[<-z];exact hj)];exact hl j (ud3 _ hj)).mono ?_;rintro o t ⟨rfl,e9',S',rfl,l1,l2,l3⟩;refine⟨rfl,e9',S',rfl,by rw[l1,uj1],λj hj=>?_,λj hj=>?_⟩
   .rw[uk8,not_or] at hj;rw[l2 j hj.2,hoff j hj.1]
   .rcases uk8.mp hj with rfl|hj
    .refine⟨ds++[.non],by rw[l2 j hn.1];exact AK e,?_⟩;unfold lnO;rw[e,ue8];rfl
    .clear 5(l3 j hj)ds' q1 q2;exact⟨ds',q1,by rw[q2,hln j hj]⟩
theorem SG:∀{d v:D}{fp:List Nat},Ow S d v fp->fp.Nodup:=by
 intro d v fp r;refine Ow.rec (motive_1:=λ_ _ fp _=>fp.Nodup) (motive_2:=λ_ _ fp _=>fp.Nodup) ?_ ?_ ?_ ?_ ?_ ?_ ?_ r
 .exact uk5
 .exact λ_=>uk5
 .exact λ_=>uk5
 .exact λ_ h=>h
 .exact λ_ _ n h=>ui9.mpr ⟨n,h⟩
 .exact uk5
 .exact λ_ _ n a b=>List.nodup_append.mpr ⟨a,b,λx hx y hy z=>n x hx (by rw[z];exact hy)⟩
theorem Mh{S:List Ob}{n:Nat}(ih:∀{d v:D}{fp:List Nat},Ow S d v fp->nvO n v=true->Lts S fp):∀{ds vs:List D}{fp:List Nat},Ows S ds vs fp->(∀v∈vs,nvO n v=true)->Lts S fp
 |_,_,_,.nil,_=>λ_ z=>nomatch z
 |_,_,_,.cons a b _,h=>λk hk=>(ui4.mp hk).elim (ih a (h _ ue4) k) (Mh ih b (λv hv=>h v (ud3 _ hv)) k)
theorem Mg{S:List Ob}:∀(n:Nat){d v:D}{fp:List Nat},Ow S d v fp->nvO n v=true->Lts S fp
 |0,d,v,fp,o,h=>by
   cases o<;>first|(simp[nvO] at h;done)|(intro k z;cases z)
 |n+1,d,v,fp,o,h=>by
   cases o with
   |non=>exact λ_ z=>nomatch z
   |int i=>exact λ_ z=>nomatch z
   |str x=>exact λ_ z=>nomatch z
   |tup o=>
     rw[nvO,uh3,uh7] at h;exact Mh (λa b=>Mg n a b) o h.2
   |obj e o _=>
     rw[nvO,uh3,uh7,ug6] at h;intro k hk;rcases uk8.mp hk with rfl|hk
     .exact⟨_,e,by rw[o.length];exact h.1⟩
     .exact Mh (λa b=>Mg n a b) o h.2 k hk
theorem JT(n:Nat)(v:D):JS (kd n v)=false:=by
 cases n<;>cases v<;>rfl
theorem Og(v:D):eqN EQD (kd 19 v) (kd 19 v)=some true:=Uc 19 v EQD (by decide)
theorem M3(l:List α)(f:α->Int):eqN EQD (.lst (l.map λx=>D.int (f x))) (.lst (l.map λx=>D.int (f x)))=some true:=Fv (n:=1) (λx hx=>by
 obtain⟨y,_,rfl⟩:=un0.mp hx;exact Jr) EQD (by decide)
theorem Wu{g:Bool->Bool}{x:D}(hx:AI t.S 16 x=.lst vs)(hp:nvO 16 (.lst vs)=true)(h:P (.bl (g false)) t):L2.W (eqO g x (.str y)) t P:=
 ⟨_,_,by unfold eqO;rw[hx,Io 16 _ hp];rfl,h⟩
theorem Pj(a b:List Nat):(dW a b).all (λkv=>match Bf (dW a b) kv.1 with|some e=>alike1 S kv.2 e|none=>false)=true:=Rr a b
theorem Zx{w:Bool->List Nat}(hgl:gs.length<=9)(hsum:(w true).length+(w false).length<=2000){σ:Ls}(hE:End gs w σ)(hm:AllV σ.hd)(hl:σ.hd.length=gs.length)(hf:∀i,2*(σ.hd.getD i []).length<=σ.p true+σ.p false):nvO 6 (.lst (σ.hd.map D.lst))=true:=by
 have h1:=hE.inn true;have h2:=hE.inn false;exact Xw hm ∅ λi=>by have:=hf i;lia
theorem NK{T:Nat}{ts:List Nat}(h:HrdAt S T ts σ.hd)(hm:AllV σ.hd)(n:Nat):AI S (7+n) (.tup [.obj T,.tup [.int (σ.p true:Nat),.int (σ.p false:Nat)]])=tkD σ:=by
 have e:7+n=(4+n+2)+1:=by lia
 rw[e,AI,uk9,h.res8 hm n];rfl
def LRt(f:Fn):Prop:=∀(S:List Ob) (gs:List (List GS)) (w:Bool->List Nat) (K:Nat),Ok3 gs w->S[K]?=some (.dct (dW (w true) (w false)))->Wf f [gsD gs,gsD gs,.obj K] S λr S'=>r=.bl true/\Gr S S'
theorem XR{ck:Fn}(ht:Lb ct)(hl:Jz cl 7)(hk:LK8 ck 19)(hd:Rh cd):LRt (fnOf 3 11 (DV ct cl ck cd)):=by
 intro S gs w K ⟨hok,hsum,hB⟩ hK;have hL:LIM=100000:=rfl;have hg:=hok.1;have hgl:=hok.2.1;have hge:=Xv hg;rw[9,DV];refine(hd S gs w K hok hB hK).mono λdue S1 z9=>?_;clear 5 z9 G1 σ hE hlen hfw hdu;have K1:=G1.get hK;symm;rw[6,EH];rw[6,AE (AT K1) (lrF (λs=>.lst (wD (w s))) true)];rw[6,AE (AT K1) (lrF (λs=>.lst (wD (w s))) false)];refine⟨AS,?_⟩;obtain⟨Hd,hHd⟩:∃H,H=S1.length:=⟨_,rfl⟩;obtain⟨S2,hS2⟩:∃S2,S2=(S1++[Ob.dct []]).set S1.length (.dct (dW (w true) (w false))):=⟨_,rfl⟩;have l2:S2.length=S1.length+1:=by rw[hS2,uj1,ue8];rfl
 have H2:S2[Hd]?=some (.dct (dW (w true) (w false))):=by rw[hS2,hHd];exact AK AS
 have G2:Gr S1 S2:=by rw[hS2];exact Gr.app.set (un2 _)
 symm;show Wf ct [gsD gs,.obj S1.length] ((S1++[Ob.dct []]).set S1.length (.dct (dW (w true) (w false)))) _;rw[<-hS2,<-hHd];refine(ht S2 gs w Hd hok H2).mono λfound S3 z9=>?_;obtain⟨G3,τ,hE2,_,_,hto⟩:=z9;have heq:=hE2.eq hE;subst heq;have H3:=G3.get H2;have K3:=G3.get (G2.get K1);clear 5(hE.tk hg)hm hnl;have hn6:=Zx hgl hsum hE hm hlen hfw;have hnv:nvO 7 (tkD τ)=true:=OH hn6 rfl;have hV:∃V,nvO 7 V=true/\(∀n,AI S3 (7+n) found=V)/\∀n,AI S3 (7+n) due=V:=by
  unfold duD at hdu;unfold ltO at hto
  cases e:Dr gs w τ with
  |none=>
    rw[e] at hdu hto;obtain⟨T,ts,rfl,hT,_,_⟩:=hdu;obtain⟨fp,ho,_⟩:=hto;have G13:=G2.trans G3;exact⟨tkD τ,hnv,λn=>Jo _ ho (Ct hnv n),NK ⟨G13.get hT.ih,hT.hl,λi h hi=>G13.get (hT.hh i h hi)⟩ hm⟩
  |some x=>
    clear 5 x s j;rw[e] at hdu hto;have hdu:due=_:=hdu;have hto:found=_:=hto;have hv:nvO 7 (.tup [.str (Str.ofString "broken"),.int (j:Nat),.str (sd s)])=true:=rfl;exact⟨_,hv,λn=>by rw[hto];exact HK _ _ (Ct hv n),λn=>by rw[hdu];exact HK _ _ (Ct hv n)⟩
 clear 5 hV V hV hVf hVd;have kvV:kvB 19 V=true:=LR 19 V (Ct hV 12);have kvg:kvB 19 (gsD gs)=true:=LR 19 _ (K0 (Zw hg hgl) (by decide));have kf:=hk S3 found (by rw[hVf 12];exact kvV);have kdu:=hk S3 due (by rw[hVd 12];exact kvV);have kg:=hk S3 (gsD gs) (by rw[Hl 19 _ kvg];exact kvg);rw[hVf 12] at kf;rw[hVd 12] at kdu;rw[Hl 19 _ kvg] at kg;have hlw:(wD (w true)++wD (w false))=wD (w true++w false):=by unfold wD;rw[uj9]
 have kvw:kvB 19 (.lst (wD (w true++w false)))=true:=bq _ (by rw[ue8];lia) 18;have kw:=hk S3 (.lst (wD (w true++w false))) (by rw[Hl 19 _ kvw];exact kvw);rw[Hl 19 _ kvw] at kw;symm;rw[6,Tx (hVf 9) (hVd 9) (Ct hV 9)];rw[6,kf.use];rw[6,kdu.use];rw[6,D9 (JT _ _) (Og _)];rw[6,ac H3 K3 (Pj _ _)];rw[6,D9 rfl hge];rw[A6];symm;rw[gE rfl];symm;rw[6,AE H3 (lrF (λs=>.lst (wD (w s))) true)];rw[6,AE H3 (lrF (λs=>.lst (wD (w s))) false)];refine AO (by rw[AF,AF,hL];lia) ?_;rw[hlw];symm;refine kw.use ?_;rw[A6];symm;rw[gE rfl];symm;rw[6,AE K3 (lrF (λs=>.lst (wD (w s))) true)];rw[6,AE K3 (lrF (λs=>.lst (wD (w s))) false)];refine AO (by rw[AF,AF,hL];lia) ?_;rw[hlw];symm;refine kw.use ?_;rw[W_compL_nil];refine AO (by show 2<=_;rw[hL];decide) ?_;symm;rw[6,kg.use];rw[6,kg.use];rw[6,D9 (JT _ _) (Og _)];rw[6,D9 (JT _ _) (Og _)];show L2.W (ixD due (.int 0)) ⟨[vw (gsD gs),vw (gsD gs),vw (.obj K),vw due,vw (.obj Hd),vw found,vw (.lst [kd 19 (.lst (wD (w true++w false))),kd 19 (.lst (wD (w true++w false)))]),none,none,none,none],S3⟩ _;have G:Gr S S3:=G1.trans (G2.trans G3);clear kf kdu kg kw kvV kvg kvw hlw;unfold duD at hdu;unfold ltO at hto
 cases e:Dr gs w τ with
 |some x=>
   clear 5 x s j;rw[e] at hdu;have hdu:due=.tup [.str (Str.ofString "broken"),.int (j:Nat),.str (sd s)]:=hdu;subst hdu;symm;rw[6,Tx (d:=.str (Str.ofString "broken")) rfl rfl rfl];rw[6,D9 rfl hge];exact⟨rfl,G⟩
 |none=>
   rw[e] at hdu hto;clear 5 hdu T ts rfl hT hT1 hts;clear 5 hto fp ho hfp;have G13:=G2.trans G3;have hT3:HrdAt S3 T ts τ.hd:=⟨G13.get hT.ih,hT.hl,λi h hi=>G13.get (hT.hh i h hi)⟩;have hfl:fp.length<=2010:=by
    rw[OJ 7 ho hnv];have:=hE.inn true;have:=hE.inn false;lia
   have hnd:=SG ho;have hlt:=Mg 7 ho hnv;have hlt':∀k∈fp,∃ds,S3[k]?=some (.lst ds):=λk hk=>by obtain⟨ds,q,_⟩:=hlt k hk;exact⟨ds,q⟩
   have r16:AI S3 16 (.obj T)=.lst (τ.hd.map D.lst):=hT3.res8 hm 10;have n16:=Ct hn6 10;symm;rw[6,Wu r16 n16];rw[6,(hl S3 found (tkD τ) fp ho hnv ∅).use];refine(FI fp _ hlt').mono λxs t' z9=>?_;clear 5 z9 e1 e2;subst e1;clear 5 t' ev S3';have e2:S3'=S3:=e2;subst e2;refine AO (by rw[ui6,hL];lia) ?_;symm;refine(M8 fp S3' _ hnd hlt).mono ?_;rintro o t ⟨rfl,e9,S4,rfl,l4,o4,q4⟩;have hln:∀k∈fp,lnO S4 k=lnO S3' k+1:=λk hk=>by
    clear 5(q4 k hk)ds q q';rw[<-q'];unfold lnO;rw[q]
   have hmore:(fp.map λk=>D.int (lnO S4 k:Nat))=((fp.map (lnO S3')).map λn=>D.int ((n+1:Nat):Int)):=by
    rw[un1];exact ue2 λk hk=>by rw[hln k hk];rfl
   have hold:∀i,i<S2.length->S4[i]?=S3'[i]?:=λi hi=>o4 i λz=>by have:=hfp i z;lia
   have hT2:∀i,i<S1.length->i<S2.length:=λi hi=>by lia
   have H4:S4[Hd]?=some (.dct (dW (w true) (w false))):=by rw[hold Hd ∅];exact H3
   have hT4:HrdAt S4 T ts τ.hd:=⟨by rw[hold T (hT2 _ (Br hT.ih))];exact hT3.ih,hT3.hl,λi h hi=>by rw[hold h (hT2 _ (Br (hT.hh i h hi)))];exact hT3.hh i h hi⟩;have G4:Gr S S4:=⟨by rw[l4];exact G.1,λi hi=>by rw[hold i (by have:=G1.1;lia)];exact G.2 i hi⟩;symm;rw[show(fp.map λk=>D.int (lnO S3' k:Nat))=((fp.map (lnO S3')).map λn=>D.int (n:Nat)) by rw[un1];rfl];refine(Ko (S:=S4) (fp.map (lnO S3')) _).mono λxs t' z9=>?_;clear 5 z9 e1 e2;subst e1;clear 5 t' ev S4';have e2:S4'=S4:=e2;subst e2;refine AO (by rw[ui6,ui6,hL];lia) ?_;symm;refine(FI (S:=S4') fp _ λk hk=>by obtain⟨ds,q,_⟩:=q4 k hk;exact⟨ds,q⟩).mono λxs t' z9=>?_;clear 5 z9 e1 e2;subst e1;clear 5 t' ev S5;have e2:S5=S4':=e2;subst e2;refine AO (by rw[ui6,hL];lia) ?_;symm;rw[hmore];rw[6,D9 rfl (M3 _ _)];refine(ht S5 gs w Hd hok H4).mono λf2 S6 z9=>?_;obtain⟨G6,τ2,hE6,_,_,ht6⟩:=z9;have heq:=hE6.eq hE;subst heq;unfold ltO at ht6;rw[e] at ht6;obtain⟨fp6,ho6,_⟩:=ht6;have hT6:HrdAt S6 T ts τ2.hd:=⟨G6.get hT4.ih,hT4.hl,λi h hi=>G6.get (hT4.hh i h hi)⟩;symm;rw[6,Tx (d:=tkD τ2) (Jo 16 ho6 (Ct hnv 9)) (NK hT6 hm 9) (Ct hnv 9)];have hln6:∀k∈fp,∃ds,S6[k]?=some (.lst ds):=λk hk=>by obtain⟨ds,q,_⟩:=q4 k hk;exact⟨ds,G6.get q⟩
   have hmore6:(fp.map λk=>D.int (lnO S6 k:Nat))=((fp.map (lnO S3')).map λn=>D.int ((n+1:Nat):Int)):=by
    rw[<-hmore];refine ue2 λk hk=>?_;obtain⟨ds,q,_⟩:=q4 k hk;unfold lnO;rw[q,G6.get q]
   refine(FI (S:=S6) fp _ hln6).mono λxs t' z9=>?_;clear 5 z9 e1 e2;subst e1;clear 5 t' ev S7;have e2:S7=S6:=e2;subst e2;refine AO (by rw[ui6,hL];lia) ?_;symm;rw[hmore6];rw[6,D9 rfl (M3 _ _)];rw[6,D9 rfl hge];exact⟨rfl,G4.trans G6⟩
local macro_rules | `(tactic| walk_at"y1")=>`(tactic| first
 |walk_at"x1" |clear 31 Jw)
theorem Lz{a:Nat}:Cw (wD w) (some (a:Int)) none=wD (w.drop a):=by
 unfold Cw;rw[HT.VT,HT.Td];unfold wD;rw[fY,ui6,uc5 (by rw[uh2,ui6];lia)]
 by_cases h:a<=w.length
 .rw[Nat.min_eq_left h]
 .rw[Nat.min_eq_right ∅,ft (by rw[ui6];lia),ft (by rw[ui6];lia)]
structure Sp(K D r:Nat)(S0:List Ob)(v:Bool->List Nat)(S:List Ob):Prop where
 kp:Kp K S0 S
 st:∃s:Sx,S[K]?=some (.dct s.l)/\SxB r s
 d:S[D]?=some (.dct (dW (v true) (v false)))
 ne:D≠K
 le:S0.length<=D
theorem Sp.use{f:Fn}(h:DrawD f){K D r:Nat}{S0 S:List Ob}{v:Bool->List Nat}{m:Int}(many:Int)(d:Sp K D (r+1) S0 v S){P:L2.D->List Ob->Prop}(p:∀(i:Nat) S',(i:Int)<many->Sp K D r S0 v S'->P (.int (i:Nat)) S')(e:autoParam (m=many) q7T)(h1:autoParam (0<many) q1T)(h2:autoParam (many<4611686018427387904) q1T):Wf f [.obj K,.int m] S P:=by
 obtain⟨k,⟨s,e1,e2⟩,e3,e4,e5⟩:=d;refine h.use (r:=r) (S0:=S) many ⟨.refl,s,e1,e2⟩ (λi S' i0 i1 q=>?_) e h1 h2;clear 5(ub8 i0)j rfl;exact p j S' i1 ⟨k.trans q.1,q.2,q.1.get e3 e4,e4,e5⟩
theorem Sp.put{K D r:Nat}{S0:List Ob}{v:Bool->List Nat}(h:Sp K D r S0 v S)(s:Bool)(l:List Nat):Sp K D r S0 (BT v s l) (S.set D (.dct (dW (BT v s l true) (BT v s l false)))):=
 ⟨h.kp.set h.le,h.st.imp λs q=>⟨Ak q.1 h.ne,q.2⟩,AK h.d,h.ne,h.le⟩
theorem Sp.mono{K D r r':Nat}{S0 S:List Ob}{v:Bool->List Nat}(h:Sp K D r S0 v S)(e:r'<=r):Sp K D r' S0 v S:=⟨h.kp,h.st.imp λs q=>⟨q.1,q.2.mono e⟩,h.d,h.ne,h.le⟩
theorem OC{cd:Fn}(hd:DrawD cd){K D r:Nat}{S0:List Ob}{v:Bool->List Nat}:∀(l:List L2.D) (S:List Ob) (z:Option Sl),Sp K D (r+2*l.length) S0 v S->L2.W (Bl (As 0) Bk (Ah cd (Aa (Ab 1) (Aa (Ac (Av (AD (Aa (dr 256) (Aa (dr 3) Ad)))) (Ah cd (Aa (Ab 1) (Aa (dr 2) Ad))) ixD) Ad))) l) ⟨[z,vw (.obj K)],S⟩ λq t'=>∃m:List Nat,q=wD m/\m.length=l.length/\B256 m/\Sp K D r S0 v t'.S
 |[],S,z,h=>W_compL_nil.mpr ⟨[],rfl,rfl,(λ_ h=>nomatch h),h⟩
 |d::l,S,z,h=>by
   rw[ug9] at h;rw[A6];refine B6 (Et ?_);rw[gE rfl];symm;refine Sp.use hd (r:=r+2*l.length+1) 2 h λi S1 hi p1=>?_;obtain⟨m,hm,h1,h2,h3⟩:∃m:Int,atI [L2.D.int 256,L2.D.int 3] (i:Int)=some (.int m)/\0<m/\m<4611686018427387904/\m<=256:=by
    have:i=0\/i=1:=by lia
    rcases this with rfl|rfl
    .exact⟨256,rfl,by decide,by decide,by decide⟩
    .exact⟨3,rfl,by decide,by decide,by decide⟩
   rw[6,AM hm];refine Sp.use hd (r:=r+2*l.length) m p1 (λx S2 hx p2=>?_) rfl h1 h2;refine(OC hd l S2 _ p2).mono λq t' z9=>?_;clear 5 z9 m' e1 e2 e3 e4;subst e1;refine⟨x::m',rfl,by rw[ug9,ug9,e2],λy hy=>?_,e4⟩;rcases uk8.mp hy with rfl|hy
   .lia
   .exact e3 y hy
def szW(v:Bool->List Nat):Nat:=(v true).length+(v false).length
theorem Wl(v:Bool->List Nat)(s:Bool)(l:List Nat):szW (BT v s l)+(v s).length=szW v+l.length:=by
 unfold szW BT
 cases s
 .rw[gG (by decide),gE rfl];lia
 .rw[gE rfl,gG (by decide)];lia
theorem Rt{v:Bool->List Nat}(h:∀s,B256 (v s))(s:Bool){l:List Nat}(hl:B256 l):∀t,B256 (BT v s l t):=λt=>by
 unfold BT
 split
 .exact hl
 .exact h t
theorem B256.take{a:List Nat}(h:B256 a)(n:Nat):B256 (a.take n):=λx hx=>h x (List.mem_of_mem_take hx)
theorem B256.drop{a:List Nat}(h:B256 a)(n:Nat):B256 (a.drop n):=λx hx=>h x (List.mem_of_mem_drop hx)
theorem B256.one{b:Nat}(h:b<256):B256 [b]:=λx hx=>by rw[uf0] at hx;lia
abbrev spT(W K D:Nat)(e3 e4 e5 e6 e7 e8:Option Sl)(S:List Ob):T:=⟨[vw (.obj W),vw (.obj K),vw (.obj D),e3,e4,e5,e6,e7,e8],S⟩
set_option tactic.hygienic true in
theorem Wj(hd:DrawD cd){W K D r:Nat}{S0 S:List Ob}{v:Bool->List Nat}{e3 e4 e5 e6 e7 e8:Option Sl}(h:Sp K D (r+60) S0 v S)(hv:szW v<=1600)(hB:∀s,B256 (v s)) :
 L2.W (spB cd) (spT W K D e3 e4 e5 e6 e7 e8 S) λo t=>o=.next/\XN7 λv' S' e4 e5 e6 e7 e8=>AN4 (t=spT W K D e3 e4 e5 e6 e7 e8 S') (Sp K D r S0 v' S') (szW v'<=szW v+20) (∀s,B256 (v' s)):=by
 have hL:LIM=100000:=rfl;unfold spB;symm;refine Sp.use hd (r:=r+59) 2 h λi S1 hi p1=>?_;obtain⟨s,hs⟩:∃s,atI [L2.D.str (Str.ofString "left"),L2.D.str (Str.ofString "right")] (i:Int)=some (.str (sd s)):=by
  have:i=0\/i=1:=by lia
  rcases this with rfl|rfl
  .exact⟨true,rfl⟩
  .exact⟨false,rfl⟩
 rw[6,AM hs];refine AE p1.d (lrF (λs=>.lst (wD (v s))) s) ?_;have hls:(v s).length<=szW v:=by unfold szW;cases s<;>lia
 have hBs:=hB s;symm;rw[AF];refine Sp.use hd (r:=r+58) (((v s).length:Int)+1) p1 (λa S2 ha p2=>?_) rfl ∅ ∅;symm;refine Sp.use hd (r:=r+57) 256 p2 λb1 S3 hb1 p3=>?_;symm;refine Sp.use hd (r:=r+56) 4 p3 λb2 S4 hb2 p4=>?_;symm;refine Sp.use hd (r:=r+55) 4 p4 λb3 S5 hb3 p5=>?_;obtain⟨b,hb,hb4⟩:∃b:Nat,atI [L2.D.int (b1:Nat),L2.D.int (b2:Nat),L2.D.int 255,L2.D.int 37] (b3:Int)=some (.int (b:Nat))/\b<256:=by
  have:b3=0\/b3=1\/b3=2\/b3=3:=by lia
  rcases this with rfl|rfl|rfl|rfl
  .exact⟨b1,rfl,by lia⟩
  .exact⟨b2,rfl,by lia⟩
  .exact⟨255,rfl,by lia⟩
  .exact⟨37,rfl,by lia⟩
 rw[6,AM hb];refine Sp.use hd (r:=r+54) 6 p5 λway S6 hway p6=>?_;symm;rw[E1,<-HS];have ht:((v s).take a).length<=a:=by rw[uh1];lia
 have hdr:∀n,((v s).drop n).length<=(v s).length-n:=λn=>by rw[uh2];lia
 have hla:a<=(v s).length:=by lia
 refine AO (by rw[AF,hL];show _+1<=_;lia) ?_;symm;rw[show((a:Int)+1)=((a+1:Nat):Int) by lia,Lz];have cat3:∀x y:List Nat,wD x++[L2.D.int (b:Nat)]++wD y=wD (x++[b]++y):=λx y=>by unfold wD;rw[uj9,uj9];rfl
 have cat2:∀x y:List Nat,wD x++wD y=wD (x++y):=λx y=>by unfold wD;rw[uj9]
 refine AO (by rw[ue8,AF,AF,hL];have:=hdr (a+1);show _+1+_<=_;lia) ?_;symm;refine BG p6.d (by show 2<100000;decide) ?_;rw[cat3,DY];have p7:=p6.put s ((v s).take a++[b]++(v s).drop (a+1));have hB1:B256 ((v s).take a++[b]++(v s).drop (a+1)):=((hBs.take a).app (.one hb4)).app (hBs.drop (a+1));have hl1:((v s).take a++[b]++(v s).drop (a+1)).length<=(v s).length+1:=by
  rw[ue8,ue8];have:=hdr (a+1);show _+1+_<=_;lia
 generalize (v s).take a++[b]++(v s).drop (a+1)=l1 at p7 hB1 hl1⊢;have fin:∀(l2:List Nat) (S':List Ob) (e4 e5 e6 e7 e8:Option Sl),Sp K D r S0 (BT v s l2) S'->B256 l2->l2.length<=(v s).length+20->XN7 λv' S'' f4 f5 f6 f7 f8=>AN4 (spT W K D e3 e4 e5 e6 e7 e8 S'=spT W K D e3 f4 f5 f6 f7 f8 S'') (Sp K D r S0 v' S'') (szW v'<=szW v+20) (∀s,B256 (v' s)):=λl2 S' e4 e5 e6 e7 e8 p q1 q2=>⟨_,S',e4,e5,e6,e7,e8,rfl,p,by have:=Wl v s l2;lia,Rt hB s q1⟩;show FU _ _ Out.next (spT W K D e3 (vw (.str (sd s))) (vw (.lst (wD (v s)))) (vw (.int (a:Nat))) (vw (.int (b:Nat))) (vw (.int (way:Nat))) (S6.set D (.dct (dW (BT v s l1 true) (BT v s l1 false)))));generalize S6.set D (.dct (dW (BT v s l1 true) (BT v s l1 false)))=S7 at p7⊢;have hw6:way=0\/way=1\/way=2\/way=3\/way=4\/way=5:=by lia
 rcases hw6 with rfl|rfl|rfl|rfl|rfl|rfl
 .symm;exact⟨rfl,fin l1 _ _ _ _ _ _ (p7.mono ∅) hB1 ∅⟩
 .symm;rw[E1,<-HS];refine AO (by rw[AF,hL];show _+1<=_;lia) ?_;symm;rw[Lz];refine AO (by rw[ue8,AF,AF,hL];have:=hdr a;show _+1+_<=_;lia) ?_;symm;refine BG p7.d (by show 2<100000;decide) ?_;rw[cat3,DY,Cl];have p8:=p7.put s ((v s).take a++[b]++(v s).drop a);rw[Cl] at p8;symm;exact⟨rfl,fin _ _ _ _ _ _ _ (p8.mono ∅) (((hBs.take a).app (.one hb4)).app (hBs.drop a)) (by rw[ue8,ue8];have:=hdr a;show _+1+_<=_;lia)⟩
 .symm;rw[show((a:Int)+1)=((a+1:Nat):Int) by lia,E1,<-HS,Lz];refine AO (by rw[AF,AF,hL];have:=hdr (a+1);lia) ?_;symm;refine BG p7.d (by show 2<100000;decide) ?_;rw[cat2,DY,Cl];have p8:=p7.put s ((v s).take a++(v s).drop (a+1));rw[Cl] at p8;symm;exact⟨rfl,fin _ _ _ _ _ _ _ (p8.mono ∅) ((hBs.take a).app (hBs.drop (a+1))) (by rw[ue8];have:=hdr (a+1);lia)⟩
 .symm;rw[E1,<-HS];refine BG p7.d (by show 2<100000;decide) ?_;rw[DY,Cl];have p8:=p7.put s ((v s).take a);rw[Cl] at p8;symm;exact⟨rfl,fin _ _ _ _ _ _ _ (p8.mono ∅) (hBs.take a) ∅⟩
 .symm;refine Sp.use hd (r:=r+53) 7 (p7.mono ∅) λc S8 hc p8=>?_;symm;refine Dm (Bx ∅ ∅) ?_;have hrl:(AQ 0 ((c:Nat):Int).toNat).length=c:=by rw[DM,uf9]
  refine(OC hd (AQ 0 ((c:Nat):Int).toNat) S8 _ (p8.mono (r':=r+20+2*(AQ 0 ((c:Nat):Int).toNat).length) (by rw[hrl];lia))).mono λq t' z9=>?_;clear 5 z9 m e1 e2 e3' e4';subst e1;clear 5 t' ev S9;have p9:Sp K D (r+20) S0 (BT v s l1) S9:=e4';rw[hrl] at e2;refine AO (by rw[AF,hL];lia) ?_;symm;refine AO (by rw[AF,AF,hL];lia) ?_;symm;refine BG p9.d (by show 2<100000;decide) ?_;rw[cat2,DY,Cl];have p10:=p9.put s (v s++m);rw[Cl] at p10;symm;exact⟨rfl,fin _ _ _ _ _ _ _ (p10.mono ∅) (hBs.app e3') (by rw[ue8];lia)⟩
 .symm;refine Sp.use hd (r:=r+53) 20 (p7.mono ∅) λc S8 hc p8=>?_;symm;refine Dm (Bx ∅ ∅) ?_;have hrl:(AQ 0 ((c:Nat):Int).toNat).length=c:=by rw[DM,uf9]
  refine(OC hd (AQ 0 ((c:Nat):Int).toNat) S8 _ (p8.mono (r':=r+15+2*(AQ 0 ((c:Nat):Int).toNat).length) (by rw[hrl];lia))).mono λq t' z9=>?_;clear 5 z9 m e1 e2 e3' e4';subst e1;clear 5 t' ev S9;have p9:Sp K D (r+15) S0 (BT v s l1) S9:=e4';rw[hrl] at e2;refine AO (by rw[AF,hL];lia) ?_;symm;refine BG p9.d (by show 2<100000;decide) ?_;rw[DY,Cl];have p10:=p9.put s m;rw[Cl] at p10;symm;exact⟨rfl,fin _ _ _ _ _ _ _ (p10.mono ∅) e3' ∅⟩
def WJ(f:Fn):Prop:=∀(S:List Ob) (v:Bool->List Nat) (W K r:Nat),szW v<=1500->(∀s,B256 (v s))->S[W]?=some (.dct (dW (v true) (v false)))->(∃s:Sx,S[K]?=some (.dct s.l)/\SxB (r+130) s)->Wf f [.obj W,.obj K] S λq S'=>∃D v',q=.obj D/\Sp K D r S v' S'/\szW v'<=1600/\∀s,B256 (v' s)
theorem Vd(hd:DrawD cd):WJ (fnOf 2 9 (DB cd)):=by
 intro S v W K r hv hB hW ⟨st,hK,hs⟩;have hL:LIM=100000:=rfl;have hKl:=Br hK;rw[9,DB];rw[6,EH];rw[6,AE (AT hW) (lrF (λs=>.lst (wD (v s))) true)];rw[6,AE (AT hW) (lrF (λs=>.lst (wD (v s))) false)];refine⟨AS,?_⟩;have p0:Sp K S.length (r+130) S v ((S++[Ob.dct []]).set S.length (.dct (dW (v true) (v false)))):=⟨Kp.refl.app.set (un2 _),⟨st,Ak (AT hK) ∅,hs⟩,AK AS,by lia,un2 _⟩;generalize (S++[Ob.dct []]).set S.length (.dct (dW (v true) (v false)))=S1 at p0;symm;refine Sp.use hd (r:=r+129) 3 p0 λn S2 hn p1=>?_;symm;refine Dm (Bx ∅ ∅) ?_;have hrl:(AQ 0 ((n:Nat):Int).toNat).length=n:=by rw[DM,uf9]
 refine Dn (λl t=>XN8 λ(v':Bool->List Nat) (S':List Ob) (e3 e4 e5 e6 e7 e8:Option Sl)=>AN5 (l.length<=2) (t=spT W K S.length e3 e4 e5 e6 e7 e8 S') (Sp K S.length (r+60*l.length) S v' S') (szW v'+20*l.length<=1540) (∀s,B256 (v' s))) _ _ ⟨v,S2,none,none,none,none,none,none,by lia,rfl,p1.mono ∅,by lia,hB⟩ ?_ ?_
 .rintro d l t ⟨v',S',e3,e4,e5,e6,e7,e8,hl,rfl,p,hsz,hb⟩ _;rw[ug9] at hl hsz p;refine B6 ?_;refine(Wj hd (r:=r+60*l.length) p ∅ hb).mono ?_;rintro o t ⟨rfl,v2,S3,f4,f5,f6,f7,f8,rfl,p3,h3,h4⟩;exact⟨v2,S3,_,_,_,_,_,_,by lia,rfl,p3,by lia,h4⟩
 .rintro t ⟨v',S',e3,e4,e5,e6,e7,e8,hl,rfl,p,hsz,hb⟩;symm;exact⟨S.length,v',rfl,p,by lia,hb⟩
theorem Zt{csp csd cbo cg:Fn}(hgr:Rg cg)(hs:TL csd)(hb:TK cbo)(ht:Eb ct)(hsp:WJ csp)(hr:LRt cr){ns:List Int}(hn:ns.length<=63):Wf (fnOf 1 6 (Ha cr csp ct csd cbo cg)) [.scr ns] [] λq _=>q=.bl true:=by
 clear 5(hgr ns hn)gs g1 g9 hgn hgd;have hg:∀g∈gs,GOk g:=λg h=>(hgn g h).ok;have ok3:∀v:Bool->List Nat,szW v<=1600->(∀s,B256 (v s))->Ok3 gs v:=λv h1 h2=>⟨⟨hg,g9,λs=>by unfold szW at h1;cases s<;>lia⟩,by unfold szW at h1;lia,h2⟩
 rw[9,Ha];refine(hgd _).mono λq S1 z9=>?_;clear 5 z9 e1 G1;subst e1;symm;refine(hgd _).mono λq S2 z9=>?_;clear 5 z9 e1 G2;subst e1;symm;refine(hs ns gs S2 hn hg g1 g9).mono λq S3 z9=>?_;clear 5 z9 G3 hh ds n e1 hsd h15;subst e1;symm;refine(hb gs hh ds n S3 hg g9 hsd h15).mono λq S4 z9=>?_;clear 5 z9 e1 G4 w hw hwb hW;subst e1;obtain⟨Wd,hWd⟩:∃W,W=S3.length:=⟨_,rfl⟩;rw[<-hWd] at hW⊢;have hw1:szW w<=1500:=hw;symm;refine(hr S4 gs w Wd (ok3 w ∅ hwb) hW).mono λq S5 z9=>?_;clear 5 z9 e1 G5;subst e1;symm;refine Dn (λl t=>XN3 λ(S':List Ob) (e4 e5:Option Sl)=>AN3 ((∀d∈l,∃k:Nat,d=D.int (k:Nat)/\k<8)) (S'[Wd]?=some (.dct (dW (w true) (w false)))) (t=⟨[vw (.scr ns),vw (gsD gs),vw (gsD gs),vw (.obj Wd),e4,e5],S'⟩)) _ _ ⟨S5,none,none,λd hd=>by
  clear 5(Mq hd)k rfl hk;exact⟨k,by rw[um9],hk⟩,G5.get hW,rfl⟩ ?_ ?_
 .rintro d l t ⟨S',e4,e5,hmem,hW',rfl⟩ _;clear 5(hmem d ue4)k rfl hk;symm;obtain⟨m,hm,hix⟩:∃m:Nat,m<=1000/\atI [D.int 1,D.int (55+(k:Int))] (if decide (55<(ns.length:Int))=true then 1 else 0)=some (.int (m:Nat)):=by
   by_cases q:55<(ns.length:Int)
   .rw[uk6 q,gE rfl];exact⟨55+k,by lia,by show some (D.int (55+(k:Int)))=_;rw[show(55+(k:Int))=((55+k:Nat):Int) by lia]⟩
   .rw[uk1 q,gG (by decide)];exact⟨1,by lia,rfl⟩
  clear 5(ht ns m hn hm)st hbd hst;rw[6,AM hix];refine(hst S').mono λq S6 z9=>?_;clear 5 z9 e1 e2;subst e1 e2;have c0:(S'++[Ob.dct st.l])[S'.length]?=some (.dct st.l):=AS;have W0:(S'++[Ob.dct st.l])[Wd]?=some (.dct (dW (w true) (w false))):=AT hW';have hne:Wd≠S'.length:=by have:=Br hW';lia
  symm;rw[6,AE c0 ME];rw[6,Dx (B9 (by decide) (by decide))];refine BG c0 (by show 3<100000;decide) ?_;rw[show kvPut (Sx.l st) (.inr (Str.ofString "count")) (.int (st.cnt+50*(k:Int)))=Sx.l ⟨st.rest,st.dig,st.cnt+50*(k:Int)⟩ from NU];have c1:((S'++[Ob.dct st.l]).set S'.length (.dct (Sx.l ⟨st.rest,st.dig,st.cnt+50*(k:Int)⟩)))[S'.length]?=some (.dct (Sx.l ⟨st.rest,st.dig,st.cnt+50*(k:Int)⟩)):=AK c0;have W1:((S'++[Ob.dct st.l]).set S'.length (.dct (Sx.l ⟨st.rest,st.dig,st.cnt+50*(k:Int)⟩)))[Wd]?=some (.dct (dW (w true) (w false))):=Ak W0 (Ne.symm hne);have hsx:SxB (0+130) ⟨st.rest,st.dig,st.cnt+50*(k:Int)⟩:=by
   clear 5 hbd h1 h2;exact⟨by show 0<=st.cnt+50*(k:Int);lia,by show st.cnt+50*(k:Int)+_<=_;lia⟩
  symm;refine(hsp _ w Wd S'.length 0 hw1 hwb W1 ⟨_,c1,hsx⟩).mono λq S6 z9=>?_;clear 5 z9 D v' e1 p h1 h2;subst e1;symm;refine(hr S6 gs v' D (ok3 v' h1 h2) p.d).mono λq S7 z9=>?_;clear 5 z9 e1 G7;subst e1;symm;exact⟨S7,_,_,λd hd=>hmem d (ud3 _ hd),G7.get (p.kp.get W1 hne),rfl⟩
 .rintro t ⟨S',e4,e5,_,hW',rfl⟩;symm;rw[6,EH];refine⟨AS,?_⟩;have h0:((S'++[Ob.dct []]).set S'.length (.dct (lr (.lst []) (.lst []))))[S'.length]?=some (.dct (dW ((λ_=>[]) true) ((λ_=>[]) false))):=AK AS;symm;refine(hr _ gs (λ_=>[]) S'.length (ok3 _ (by show 0+0<=_;decide) (λ_ _ z=>nomatch z)) h0).mono λq S6 z9=>?_;obtain⟨e1,_⟩:=z9;subst e1;symm;rfl
end LW
namespace L2
open PySem PySem.Spec PySem.W
theorem SC{k:Kd}{P:eT}{w:eU}{K:eh}{mg:Str->Option eo}{base:Heap}{n:Nat}{fa:eR}{fd:eV}{ps:List Str}:okK k P w K mg base n fa fd ps (λ_ _=>none):=by
 cases k<;>exact⟨λvs H Q E h=>(by obtain⟨c,ds,S,_,_,r,S',e,_⟩:=h;cases e),λA' outer s H args us vs Q E _ _ _ _ h=>(by obtain⟨c,ds,S,_,_,r,S',e,_⟩:=h;cases e)⟩
theorem us0{n:Nat}:∀{us:List eo},us.length=n+1->∃a vs,us=a::vs/\vs.length=n
 |_::_,h=>⟨_,_,rfl,gi h⟩
section
variable{us:List eo}
theorem us1(h:us.length=1):∃a,us=[a]:=by
 clear 5(us0 h)a vs rfl q;exact⟨a,by rw[ua2 q]⟩
theorem us2(h:us.length=2):∃a b,us=[a,b]:=by
 obtain⟨_,vs,rfl,q⟩:=us0 h;obtain⟨_,rfl⟩:=us1 q;exact⟨_,_,rfl⟩
theorem us3(h:us.length=3):∃a b c,us=[a,b,c]:=by
 obtain⟨_,vs,rfl,q⟩:=us0 h;obtain⟨_,_,rfl⟩:=us2 q;exact⟨_,_,_,rfl⟩
theorem us4(h:us.length=4):∃a b c d,us=[a,b,c,d]:=by
 obtain⟨_,vs,rfl,q⟩:=us0 h;obtain⟨_,_,_,rfl⟩:=us3 q;exact⟨_,_,_,_,rfl⟩
theorem us5(h:us.length=5):∃a b c d e,us=[a,b,c,d,e]:=by
 obtain⟨_,vs,rfl,q⟩:=us0 h;obtain⟨_,_,_,_,rfl⟩:=us4 q;exact⟨_,_,_,_,_,rfl⟩
theorem us6(h:us.length=6):∃a b c d e f,us=[a,b,c,d,e,f]:=by
 obtain⟨_,vs,rfl,q⟩:=us0 h;obtain⟨_,_,_,_,_,rfl⟩:=us5 q;exact⟨_,_,_,_,_,_,rfl⟩
theorem us7(h:us.length=7):∃a b c d e f g,us=[a,b,c,d,e,f,g]:=by
 obtain⟨_,vs,rfl,q⟩:=us0 h;obtain⟨_,_,_,_,_,_,rfl⟩:=us6 q;exact⟨_,_,_,_,_,_,_,rfl⟩
end
end L2
namespace K68
open PySem L2 LW
inductive Fx where
 |Dc|D2|BO|Dd|Bo|Ch|Bt|B3|CL|Dk|CJ|CK|B2|BB|BC|Bn|Bc|BK|BL|Cc|Bu|CB|Bi|Bv|BJ|BA|Bq|CA|Cz|Ci|Cv|Cd|B0|BH|BI|BU|law_|Az|Au|An|Ax
noncomputable def top(i:Nat):Stmt:=PySem.Challenge.pw_wireparley_k68_talks_read_beside.main.body.getD i (.Pass ⟨0,0,0,0⟩)
noncomputable abbrev nm:Fx->Str
 |.Dc=>"is_sign"
 |.D2=>"is_end"
 |.BO=>"width_up_to"
 |.Dd=>"leading"
 |.Bo=>"read_value"
 |.Ch=>"byte_at"
 |.Bt=>"byte_up_to"
 |.B3=>"read_number"
 |.CL=>"read_text"
 |.Dk=>"sign_at"
 |.CJ=>"read_list"
 |.CK=>"read_pair"
 |.B2=>"read_choice"
 |.BB=>"read_message"
 |.BC=>"talks_beside"
 |.Bn=>"_law_state"
 |.Bc=>"_law_draw"
 |.BK=>"_law_shape"
 |.BL=>"_law_value"
 |.Cc=>"_law_many"
 |.Bu=>"_law_bytes"
 |.CB=>"_law_sign"
 |.Bi=>"_law_read_number"
 |.Bv=>"_law_read_many"
 |.BJ=>"_law_read"
 |.BA=>"_law_grammar"
 |.Bq=>"_law_grammars"
 |.CA=>"_law_said"
 |.Cz=>"_law_both"
 |.Ci=>"_law_front"
 |.Cv=>"_law_due"
 |.Cd=>"_law_told"
 |.B0=>"_law_spoilt"
 |.BH=>"_law_kinds"
 |.BI=>"_law_lists"
 |.BU=>"_law_right"
 |.law_=>"law"
 |.Az=>"__init__"
 |.Au=>"read_wire"
 |.An=>"next_if_whole"
 |.Ax=>"next_of"
abbrev ql:Fx->Str
 |.Az=>"Listener.__init__"
 |.Au=>"Listener.read_wire"
 |.An=>"Listener.next_if_whole"
 |.Ax=>"Listener.next_of"
 |x=>nm x
noncomputable abbrev me:Fx->Bool
 |.Az=>true
 |.Au=>true
 |.An=>true
 |.Ax=>true
 |_=>false
noncomputable abbrev ow:Fx->Str
 |.Az=>"Listener"
 |.Au=>"Listener"
 |.An=>"Listener"
 |.Ax=>"Listener"
 |_=>""
abbrev st:Fx->Stmt
 |.Dc=>top 13
 |.D2=>top 15
 |.BO=>top 18
 |.Dd=>top 19
 |.Bo=>top 20
 |.Ch=>top 21
 |.Bt=>top 22
 |.B3=>top 23
 |.CL=>top 24
 |.Dk=>top 25
 |.CJ=>top 26
 |.CK=>top 27
 |.B2=>top 28
 |.BB=>top 30
 |.BC=>top 32
 |.Bn=>top 35
 |.Bc=>top 36
 |.BK=>top 37
 |.BL=>top 38
 |.Cc=>top 39
 |.Bu=>top 40
 |.CB=>top 41
 |.Bi=>top 42
 |.Bv=>top 43
 |.BJ=>top 44
 |.BA=>top 45
 |.Bq=>top 46
 |.CA=>top 47
 |.Cz=>top 48
 |.Ci=>top 49
 |.Cv=>top 50
 |.Cd=>top 51
 |.B0=>top 52
 |.BH=>top 53
 |.BI=>top 54
 |.BU=>top 55
 |.law_=>top 56
 |.Az=>CS (top 33) 0
 |.Au=>CS (top 33) 1
 |.An=>CS (top 33) 2
 |.Ax=>CS (top 33) 3
noncomputable abbrev ps:Fx->List Str
 |.Dc=>["number"]
 |.D2=>["state"]
 |.BO=>["most"]
 |.Dd=>["number", "cut"]
 |.Bo=>["s", "wire", "at"]
 |.Ch=>["wire", "at"]
 |.Bt=>["most", "wire", "at"]
 |.B3=>["s", "wire", "at"]
 |.CL=>["s", "wire", "at"]
 |.Dk=>["wire", "at"]
 |.CJ=>["s", "wire", "at"]
 |.CK=>["s", "wire", "at"]
 |.B2=>["s", "wire", "at"]
 |.BB=>["state", "wire", "at"]
 |.BC=>["grammars", "left", "right"]
 |.Bn=>["script", "k"]
 |.Bc=>["state", "many"]
 |.BK=>["state", "deep"]
 |.BL=>["state", "s"]
 |.Cc=>["span"]
 |.Bu=>["s", "value"]
 |.CB=>["byte"]
 |.Bi=>["s", "wire", "at"]
 |.Bv=>["shapes", "wire", "at"]
 |.BJ=>["s", "wire", "at"]
 |.BA=>["script", "start", "many"]
 |.Bq=>["script"]
 |.CA=>["script", "grammars", "start"]
 |.Cz=>["grammars", "said"]
 |.Ci=>["grammars", "here", "side", "wire", "at"]
 |.Cv=>["grammars", "wires"]
 |.Cd=>["grammars", "wires"]
 |.B0=>["wires", "state"]
 |.BH=>["thing"]
 |.BI=>["thing"]
 |.BU=>["grammars", "own", "wires"]
 |.law_=>["script"]
 |.Az=>["self", "grammars", "left", "right"]
 |.Au=>["self", "side"]
 |.An=>["self", "side"]
 |.Ax=>["self", "side"]
noncomputable abbrev ns:Fx->List Str
 |.Dc=>["number"]
 |.D2=>["state"]
 |.BO=>["most"]
 |.Dd=>["number", "cut"]
 |.Bo=>["s", "wire", "at", "kind"]
 |.Ch=>["wire", "at"]
 |.Bt=>["most", "wire", "at", "byte"]
 |.B3=>["s", "wire", "at", "most", "width", "number", "k"]
 |.CL=>["s", "wire", "at", "length", "place", "text", "k"]
 |.Dk=>["wire", "at", "number"]
 |.CJ=>["s", "wire", "at", "length", "place", "things", "k", "part"]
 |.CK=>["s", "wire", "at", "first", "second"]
 |.B2=>["s", "wire", "at", "k", "part"]
 |.BB=>["state", "wire", "at", "word", "read", "e"]
 |.BC=>["grammars", "left", "right", "listener"]
 |.Bn=>["script", "k", "rest"]
 |.Bc=>["state", "many", "found", "x"]
 |.BK=>["state", "deep", "kind", "low", "inner"]
 |.BL=>["state", "s", "kind", "many", "signs", "k"]
 |.Cc=>["span", "many"]
 |.Bu=>["s", "value", "kind", "rest", "found", "k", "one"]
 |.CB=>["byte", "signs"]
 |.Bi=>["s", "wire", "at", "many", "number", "k", "least", "left"]
 |.Bv=>["shapes", "wire", "at", "found", "shape", "told"]
 |.BJ=>["s", "wire", "at", "kind", "told", "first", "k"]
 |.BA=>["script", "start", "many", "names", "g", "h", "state", "side", "off", "words", "k", "then"]
 |.Bq=>["script", "state", "many", "room"]
 |.CA=>["script", "grammars", "start", "here", "said", "room", "k", "state", "number", "side", "words", "name", "shape", "then", "value"]
 |.Cz=>["grammars", "said", "wires", "here", "number", "side", "name", "value", "words", "place"]
 |.Ci=>["grammars", "here", "side", "wire", "at", "k", "words", "name", "shape", "then", "told"]
 |.Cv=>["grammars", "wires", "here", "talks", "places", "fronts", "again", "side"]
 |.Cd=>["grammars", "wires", "caught", "found", "e", "others"]
 |.B0=>["wires", "state", "found", "turn", "side", "wire", "at", "byte", "way"]
 |.BH=>["thing"]
 |.BI=>["thing", "found", "one"]
 |.BU=>["grammars", "own", "wires", "due", "handed", "found", "both", "lists", "sizes", "some", "more"]
 |.law_=>["script", "grammars", "own", "wires", "k", "state"]
 |.Az=>["self", "grammars", "left", "right"]
 |.Au=>["self", "side", "start", "read", "k"]
 |.An=>["self", "side"]
 |.Ax=>["self", "side", "wire", "at", "state"]
def body(Φ:Fx->Fn):Fx->Fn
 |.Dc=>fnOf 1 1 (G9)
 |.D2=>fnOf 1 1 (Ii)
 |.BO=>fnOf 1 1 (EX)
 |.Dd=>fnOf 2 2 (Hb)
 |.Bo=>fnOf 3 4 (Ek (Φ .B2) (Φ .CK) (Φ .CJ) (Φ .CL) (Φ .B3))
 |.Ch=>fnOf 2 2 (Fj)
 |.Bt=>fnOf 3 4 (Ee (Φ .Ch))
 |.B3=>fnOf 3 7 (CH (Φ .Dd) (Φ .Ch) (Φ .BO))
 |.CL=>fnOf 3 7 (Dv (Φ .Dk) (Φ .Bt))
 |.Dk=>fnOf 2 3 (Fl (Φ .Dc) (Φ .Ch))
 |.CJ=>fnOf 3 8 (Dt (Φ .Bo) (Φ .Bt))
 |.CK=>fnOf 3 5 (Du (Φ .Bo))
 |.B2=>fnOf 3 5 (CG (Φ .Bo) (Φ .Bt))
 |.BB=>fnOf 3 6 (EC (Φ .Bo))
 |.BC=>fnOf 3 4 (ED (Φ .Ax) (Φ .Au) (Φ .Az))
 |.Bn=>fnOf 2 3 (CF)
 |.Bc=>fnOf 2 4 (C5)
 |.BK=>fnOf 2 5 (Bb (Φ .Bc) (Φ .BK))
 |.BL=>fnOf 2 6 (DW (Φ .BL) (Φ .Bc))
 |.Cc=>fnOf 1 2 (Fk)
 |.Bu=>fnOf 2 7 (DR (Φ .Bu) (Φ .Cc))
 |.CB=>fnOf 1 2 (Ei)
 |.Bi=>fnOf 3 8 (C3 (Φ .Cc))
 |.Bv=>fnOf 3 6 (BR (Φ .BJ))
 |.BJ=>fnOf 3 7 (Eg (Φ .CB) (Φ .Bv) (Φ .BJ) (Φ .Bi))
 |.BA=>fnOf 3 12 (Df (Φ .Bc) (Φ .BK) (Φ .Bn))
 |.Bq=>fnOf 1 4 (DS (Φ .Bc) (Φ .BA) (Φ .Bn))
 |.CA=>fnOf 3 15 (Eh (Φ .Bu) (Φ .BL) (Φ .Bc) (Φ .Bn))
 |.Cz=>fnOf 2 10 (Ef (Φ .Bu))
 |.Ci=>fnOf 5 11 (EW (Φ .BJ))
 |.Cv=>fnOf 2 8 (EB (Φ .Ci))
 |.Cd=>fnOf 2 6 (Ej (Φ .BC))
 |.B0=>fnOf 2 9 (DB (Φ .Bc))
 |.BH=>fnOf 1 1 (DT (Φ .BH))
 |.BI=>fnOf 1 3 (DU (Φ .BI))
 |.BU=>fnOf 3 11 (DV (Φ .Cd) (Φ .BI) (Φ .BH) (Φ .Cv))
 |.law_=>fnOf 1 6 (Ha (Φ .BU) (Φ .B0) (Φ .Bn) (Φ .CA) (Φ .Cz) (Φ .Bq))
 |.Az=>fnOf 4 4 (DA)
 |.Au=>fnOf 2 5 (CD (Φ .An))
 |.An=>fnOf 2 2 (B1 (Φ .Ax))
 |.Ax=>fnOf 2 5 (De (Φ .BB) (Φ .D2))
def run:Nat->Fx->Fn
 |0=>λ_ _ _=>none
 |n+1=>body (run n)
structure Md(K:eh)(mg:Str->Option eo)(A:Fx->eR)(fd:Fx->eV):Prop where
 fn:∀x,Fun K (nm x) (ql x) (st x) (A x) (fd x)
 mgs:∀x,me x=false->mg (nm x)=some (.ref (A x))
 bd:∀x,Binds K (fd x) (ps x) []
 cm:CM K
 II:∃C,PySem.W.nsIn K mainGlobals "Listener" = some (some (.ref C))/\mg "Listener" = some (.ref C)/\Mk K C (A .Az)/\Meth K C "read_wire" (A .Au)/\Meth K C "next_if_whole" (A .An)/\Meth K C "next_of" (A .Ax)
 dC:mg "ValueError" = none
 dN:mg "bool" = none
 dY:mg "int" = none
 d8:mg "isinstance" = none
 eA:mg "len" = none
 dL:mg "list" = none
 dZ:mg "min" = none
 eC:mg "ord" = none
 dJ:mg "range" = none
 eB:mg "str" = none
 dI:mg "tuple" = none
 dA:∃tk,mg "FIRST_SIGN" = some (.int 32 tk)
 dB:∃tk,mg "LAST_SIGN" = some (.int 126 tk)
 d9:∃tk,mg "PERCENT_SIGN" = some (.int 37 tk)
 dE:∃tk,mg "SIGNS" = some (.str " !\"#$ &'()*+,-./0123456789:;<=>?@ABCDEFGHIJKLMNOPQRSTUVWXYZ[\\]^_`abcdefghijklmnopqrstuvwxyz{|}~" tk)
 xm:∃(P:eR) (ca:Str->eR),XM K mg P ca/\XF2 K (ca "Broken") P "Broken.__init__" (CS (top 4) 0)/\∀n∈(["Short"]:List Str),XN0 K (ca n)
noncomputable abbrev kd:Fx->Kd
 |.Dc=>.pl
 |.D2=>.pl
 |.BO=>.pl
 |.Dd=>.pl
 |.Bo=>.ex
 |.Ch=>.ex
 |.Bt=>.ex
 |.B3=>.ex
 |.CL=>.ex
 |.Dk=>.ex
 |.CJ=>.ex
 |.CK=>.ex
 |.B2=>.ex
 |.BB=>.er
 |.BC=>.er
 |.Bn=>.pl
 |.Bc=>.pl
 |.BK=>.pl
 |.BL=>.pl
 |.Cc=>.pl
 |.Bu=>.pl
 |.CB=>.pl
 |.Bi=>.pl
 |.Bv=>.pl
 |.BJ=>.pl
 |.BA=>.pl
 |.Bq=>.pl
 |.CA=>.pl
 |.Cz=>.pl
 |.Ci=>.pl
 |.Cv=>.pl
 |.Cd=>.pl
 |.B0=>.pl
 |.BH=>.pl
 |.BI=>.pl
 |.BU=>.pl
 |.law_=>.pl
 |.Az=>.pl
 |.Au=>.pl
 |.An=>.pl
 |.Ax=>.er
theorem Ud:FnScope ["self", "at", "side"] ["self", "at", "side"] (Ap (CS (top 4) 0)):=⟨rfl,rfl,rfl,by decide +kernel,rfl,by decide +kernel,by decide +kernel⟩
section
variable{P:eT}{w:eU}{K:eh}{mg:Str->Option eo}{base:Heap}{A:Fx->eR}{fd:Fx->eV}{n:Nat}
theorem Me{a:Kd}(k:Kd){P:eT}{w:eU}{K:eh}{mg:Str->Option eo}{base:Heap}{n:Nat}{fa:eR}{fd:eV}{ps:List Str}{f:Fn}(h:okK a P w K mg base n fa fd ps f)(e:a=k):okK k P w K mg base n fa fd ps f:=e ▸ h
section
variable{X:Cx}{A:Fx->eR}{fd:Fx->eV}{n k:Nat}{x:Fx}{s:Str}{e:Expr}{es:List Expr}{f:M (List D)}{p pos:Pos}{E:L2.St->XK}
theorem cP(M:Md X.K X.mg A fd)(ih:∀x,okK (kd x) X.prog X.w X.K X.mg X.base k (A x) (fd x) (ps x) (run n x))(hr:Room k X.A)(ha:PA X (e::es) (RA X.K f))(hk:kd x=.pl)(hm:me x=false)(hs:nm x=s)(hg:Gl X s)(h1:A4 e=false)(h2:A9 es=true)(hd:(s==("__debug__":Str))=false):PE X (.Call (.Name s p) (e::es) [] pos) (RE X.K (Ah (run n x) f)):=by subst hs;exact RL (Me .pl (ih x) hk) hr hg (M.mgs x hm) (Fun.kp (M.fn x)) (M.bd x) ha hd h1 h2
theorem xer(M:Md X.K X.mg A fd)(ih:∀x,okK (kd x) X.prog X.w X.K X.mg X.base k (A x) (fd x) (ps x) (run n x))(hr:Room k X.A)(hp:Co (CX1 false X.prog X.w) X E)(ha:PA X (e::es) (RA X.K f))(hk:kd x=.er)(hm:me x=false)(hs:nm x=s)(hg:Gl X s)(h1:A4 e=false)(h2:A9 es=true)(hd:(s==("__debug__":Str))=false):PE X (.Call (.Name s p) (e::es) [] pos) (RX X.K E (Ah (run n x) f)):=by subst hs;exact Ng (Me .er (ih x) hk) hr hg (M.mgs x hm) (Fun.kp (M.fn x)) (M.bd x) hp ha hd h1 h2
theorem xex(M:Md X.K X.mg A fd)(ih:∀x,okK (kd x) X.prog X.w X.K X.mg X.base k (A x) (fd x) (ps x) (run n x))(hr:Room k X.A)(hp:Co (CX1 true X.prog X.w) X E)(ha:PA X (e::es) (RA X.K f))(hk:kd x=.ex)(hm:me x=false)(hs:nm x=s)(hg:Gl X s)(h1:A4 e=false)(h2:A9 es=true)(hd:(s==("__debug__":Str))=false):PE X (.Call (.Name s p) (e::es) [] pos) (RX X.K E (Ah (run n x) f)):=by subst hs;exact Ng (Me .ex (ih x) hk) hr hg (M.mgs x hm) (Fun.kp (M.fn x)) (M.bd x) hp ha hd h1 h2
end
seal PH PE PA PSs PS PT PG PIf PI PPf PGs PW PO
theorem sc(x:Fx):FnScope (ns x) (ps x) (Ap (st x)):=by
 cases x<;>exact⟨rfl,rfl,rfl,by decide +kernel,rfl,by decide +kernel,by decide +kernel⟩
local macro_rules | `(tactic| clear 30 $t)=>`(tactic| with_reducible refine(?_ : $t))
seal FG
theorem step(M:Md K mg A fd)(ih0:∀x,okK (kd x) P w K mg base (2*n+2) (A x) (fd x) (ps x) (run n x))(y:Fx):okK (kd y) P w K mg base (2*n+2+1+1) (A y) (fd y) (ps y) (run (n+1) y):=by
 have ih:=λx=>X0 (ih0 x);obtain⟨_,dA⟩:=M.dA;obtain⟨_,dB⟩:=M.dB;obtain⟨_,d9⟩:=M.d9;clear 5 M.xm P' ca x xt x0;have xb:XN2 P w K mg base (ca "Broken") P':=Sf rfl Ud rfl rfl rfl xt;obtain⟨_,dE⟩:=M.dE;have xh:Ro P w K mg base (ca "Broken") P':=P1 rfl Ud rfl rfl rfl xt;clear 5 M.II Listener_ d7 eP eN eM eG eQ;have eO:MAt K "Listener" "next_of" Listener_ (A .Ax):=⟨by decide,d7,eQ,by decide⟩;have eJ:MAt K "Listener" "read_wire" Listener_ (A .Au):=⟨by decide,d7,eM,by decide⟩;have eE:MAt K "Listener" "next_if_whole" Listener_ (A .An):=⟨by decide,d7,eG,by decide⟩;have sy:=sc y;have nd:=sy.nd;have mf:=M.fn y
 cases y<;>first|(clear 30 (okK .pl ..);refine YB (g:=fnOf _ _ _) rfl (Xn rfl rfl mf sy (λcdv A' outer s H E hr=>?_)))|(clear 30 (okK .ex ..);refine NM (g:=fnOf _ _ _) rfl (M7 rfl rfl mf sy (λcdv A' outer s H E hr hp hq ho=>?_)))|(clear 30 (okK .er ..);refine NM (g:=fnOf _ _ _) rfl (UN rfl rfl mf sy (λcdv A' outer s H E hr hp hq ho ht=>?_)))
 all_goals repeat' first
  | (clear 30 (PH ..);first
    |(clear 30 (PH _ _ (.ExceptHandler (some (.Name _ _)) (some _) [.Raise (some (.Call (.Name _ _) [_,_] [] _)) (some _) _] _::_) (RH _ _ (μX _ _) (hAs _ _ (Cu _ _) _)));refine Zk x xh rfl rfl (hr.mono (by omega)) rfl (x.ms "Broken" (by decide)) (x.cl "Broken" (by decide)) (λ_ hn=>x.subE hn (by decide)) nd rfl rfl ht rfl (λy=>?_) U5 ?_)
    |exact Xk
    |(clear 30 (PH _ _ (.ExceptHandler (some (.Name _ _)) none (_::_) _::_) (RH _ _ _ (hNo _ _ _)));refine TX x rfl (x.ms "Short" (by decide)) (x.cl "Short" (by decide)) (λ_ hn=>x.subE hn (by decide)) (λy=>?_) ?_)
    |(clear 30 (PH _ _ (.ExceptHandler (some (.Name _ _)) (some _) (_::_) _::_) (RH _ _ _ (hAs _ _ _ _)));refine Zj x rfl x.pm x.pc (λ_ hn=>x.subP hn) nd rfl rfl (λy=>?_) ?_)
    |(clear 30 (PH _ _ (.ExceptHandler (some (.Name _ _)) none (_::_) _::_) (RH _ _ _ (hNo _ _ _)));refine TX x rfl (x.ms "Broken" (by decide)) (x.cl "Broken" (by decide)) (λ_ hn=>x.subE hn (by decide)) (λy=>?_) ?_))
  | (clear 30 (PE ..);first
    | (clear 30 (PE _ (.Name ..) ..);first
      |(clear 30 (PE _ _ (RE _ (Ab _)));exact(Xg _))
      |(clear 30 (PE _ (.Name _ _) (RE _ (fC (.ty _))));exact(KY rfl M.dL M0))
      |(clear 30 (PE _ (.Name _ _) (RE _ (fC (.int _))));exact(JP rfl dA))
      |(clear 30 (PE _ (.Name _ _) (RE _ (fC (.ty _))));exact(KY rfl M.dI Lk))
      |(clear 30 (PE _ (.Name _ _) (RE _ (fC (.int _))));exact(JP rfl dB))
      |(clear 30 (PE _ (.Name _ _) (RE _ (fC (.int _))));exact(JP rfl d9))
      |(clear 30 (PE _ _ (RE _ (fC (.str _))));exact(RN rfl dE))
      |(clear 30 (PE _ (.Name _ _) (RE _ (fC (.ty _))));exact(KY rfl M.dN Up))
      |(clear 30 (PE _ (.Name _ _) (RE _ (fC (.ty _))));exact(KY rfl M.eB WW)))
    | (clear 30 (PE _ (.Constant ..) ..);first
      |(clear 30 (PE _ _ (RE _ (fC (.int _))));exact W9)
      |(clear 30 (PE _ _ (RE _ (fC (.str _))));exact Xe)
      |(clear 30 (PE _ _ (RE _ (fC .non)));exact Xa)
      |(clear 30 (PE _ _ (RE _ (fC (.bl _))));exact Ze))
    | (clear 30 (PE _ (.Subscript ..) ..);first
      |(clear 30 (PE _ _ (RE _ (Ac _ _ ixD)));refine TV XB YF ?_ ?_ (λ_ _=>rfl))
      |(clear 30 (PE _ _ (RE _ (Ac _ _ AG)));refine TV Xz QU ?_ ?_ (λ_ _=>rfl))
      |(clear 30 (PE _ _ (RE _ (fSl _ _ _ En)));refine RW sl3 V9 ?_ ?_ ?_)
      |(clear 30 (PE _ _ (RE _ (EM _ _)));refine RV 3 ?_ (λ_ _=>rfl)))
    | (clear 30 (PE _ (.Call ..) ..);first
      |(clear 30 (PE _ _ (RE _ (Ah (run _ _) _)));refine @cP _ _ _ _ _ _ _ _ _ _ _ _ M ih hr ?_ (by rfl) (by rfl) (by rfl) (by rfl) (by rfl) (by rfl) (by decide))
      |(clear 30 (PE _ _ (RE _ (fB _ AH)));refine IU Ry VZ rfl M.eA WT ?_)
      |(clear 30 (PE _ (.Call (.Name _ _) _ _ _) (RX _ _ (Ah (run _ _) _)));refine @xex _ _ _ _ _ _ _ _ _ _ _ _ _ M ih hr hp ?_ (by rfl) (by rfl) (by rfl) (by rfl) (by rfl) (by rfl) (by decide))
      |(clear 30 (PE _ _ (RE _ (fB _ Fp)));refine IU (Pq rfl) V2 rfl M.dZ WU ?_)
      |(clear 30 (PE _ _ (RE _ (objM BN _ _)));refine Pz ?_ ?_)
      |(clear 30 (PE _ _ (RF _ (fBF _ FT)));refine Zh Lu V0 rfl M.dL M0 ?_)
      |(clear 30 (PE _ _ (RE _ (fB _ FR)));refine IU Rx Ti rfl M.d8 CP ?_)
      |(clear 30 (PE _ _ (RX _ _ (Dq _ (run _ .Ax) _ _)));refine UV M.cm eO (ih .Ax) hr (M.bd .Ax) hp ?_ ?_)
      |(clear 30 (PE _ _ (RE _ (fB _ GX)));refine TU Pn VX rfl M.dY WS ?_)
      |(clear 30 (PE _ _ (RE _ (Dq _ (run _ .Au) _ _)));refine M5 M.cm eJ (ih .Au) hr (M.bd .Au) ?_ ?_)
      |(clear 30 (PE _ _ (RE _ (fB _ Iy)));refine TU KK Wb rfl M.dI Lk ?_)
      |(clear 30 (PE _ _ (RE _ (joinM _ _)));refine UG ?_ ?_)
      |(clear 30 (PE _ (.Call (.Name _ _) _ _ _) (RX _ _ (Ah (run _ _) _)));refine @xer _ _ _ _ _ _ _ _ _ _ _ _ _ M ih hr hp ?_ (by rfl) (by rfl) (by rfl) (by rfl) (by rfl) (by rfl) (by decide))
      |(clear 30 (PE _ _ (RE _ (fB _ Gp)));refine IU Po Th rfl M.d8 CP ?_)
      |(clear 30 (PE _ _ (RE _ (Dq _ (run _ .An) _ _)));refine M5 M.cm eE (ih .An) hr (M.bd .An) ?_ ?_)
      |(clear 30 (PE _ _ (RE _ (fUn _ IG)));refine PC ?_)
      |(clear 30 (PE _ _ (RE _ (KW _ _ _)));refine UH (by decide) d7 eN (ih0 .Az) hr rfl eP (M.bd .Az) ?_)
      |(clear 30 (PE _ _ (RE _ (fB _ JX)));refine IU Rz V6 rfl M.eC WV ?_)
      |(clear 30 (PE _ _ (RE _ (idxM _ _)));refine RU ?_ ?_)
      |(clear 30 (PE _ _ (RE _ (bnd _ (HC _))));refine UD x rfl M.d8 CP (Ex (n:="NoName") x (by decide) rfl (Ex (n:="NoRow") x (by decide) rfl (Ex (n:="NoTalk") x (by decide) rfl (Ex (n:="NoText") x (by decide) rfl (Ex (n:="NoValue") x (by decide) rfl (Ex (n:="Short") x (by decide) rfl UA)))))) ?_)
      |(clear 30 (PE _ _ (RE _ (bnd _ (FS _))));refine UE x rfl M.d8 CP rfl M.dC KJ ?_)
      |(clear 30 (PE _ _ (RE _ (bnd _ (FS ("Broken":Str)))));refine UF (n:="Broken") x (by decide) rfl M.d8 CP rfl ?_))
    | (clear 30 (PE _ (.BinOp ..) ..);first
      |(clear 30 (PE _ _ (RE _ (Ac _ _ Ar)));refine E3 NC Mu ?_ ?_)
      |(clear 30 (PE _ _ (RE _ (Ac _ _ BE)));refine E3 X7 Wa ?_ ?_)
      |(clear 30 (PE _ _ (RE _ (Ac _ _ Dg)));refine E3 Vs Tj ?_ ?_)
      |(clear 30 (PE _ _ (RE _ (Ac _ _ EE)));refine E3 X4 V3 ?_ ?_)
      |(clear 30 (PE _ _ (RE _ (Ac _ _ E2)));refine E3 Vr Tg ?_ ?_)
      |(clear 30 (PE _ _ (RE _ (Ac _ _ Hj)));refine E3 X5 V7 ?_ ?_)
      |(clear 30 (PE _ _ (RE _ (Ac _ _ Ik)));refine E3 Vu Tk ?_ ?_)
      |(clear 30 (PE _ (.BinOp _ .Mult _ _) (RF _ _));refine TW Qx Tl ?_ ?_)
      |(clear 30 (PE _ _ (RX _ _ (Hw _ _ Ar)));refine Zp NC Mu ?_ ?_)
      |(clear 30 (PE _ _ (RE _ (Ac _ _ Hz)));refine E3 SD QV ?_ ?_)
      |(clear 30 (PE _ _ (RE _ (Ac _ _ MA)));refine E3 X6 V8 ?_ ?_)
      |(clear 30 (PE _ (.BinOp _ .Add _ _) (RF _ _));refine TW Qr Te ?_ ?_))
    | (clear 30 (PE _ (.Tuple ..) ..);first
      |refine @Xf _ _ _ _ _ ?_)
    | (clear 30 (PE _ (.List ..) ..);first
      |refine @Xi _ _ _ _ ?_)
    | (clear 30 (PE _ (.Attribute ..) ..);first
      |(clear 30 (PE _ _ (RE _ (CZ _ _)));refine W8 M.cm (by decide) ?_ rfl)
      |(clear 30 (PE _ (.Attribute _ _ _) (RE _ (bnd _ (Gg _))));refine PB x x.na ?_ rfl)
      |(clear 30 (PE _ (.Attribute _ _ _) (RE _ (bnd _ (Gg _))));refine PB x x.nd ?_ rfl))
    | (clear 30 (PE _ (.Dict ..) ..);first
      |(clear 30 (PE _ _ (RE _ (Dp _)));refine UC ?_)
      |(clear 30 (PE _ _ (RE _ (Fh [])));exact PD))
    | (clear 30 (PE _ (.Compare ..) ..);first
      |(clear 30 (PE _ (.Compare _ [.Eq] [_] _) (RE _ (Ac _ _ (eqS _))));refine IV (Qs hr.units) (HN (g:=id)) ?_ ?_ (Ce _))
      |(clear 30 (PE _ _ (RE _ (Ac _ _ gtA)));refine IV Qu NQ ?_ ?_ (Ce _))
      |(clear 30 (PE _ _ (RE _ (Ac _ _ geA)));refine IV Qt NO ?_ ?_ (Ce _))
      |(clear 30 (PE _ _ (RE _ (DI _ _ _ _ _)));refine RM Hf Hf F9 F9 ?_ ?_ ?_)
      |(clear 30 (PE _ (.Compare _ [.NotEq] [_] _) (RE _ (Ac _ _ (eqS _))));refine IV (Mf hr.units) (HN (g:=λb=>!b)) ?_ ?_ (Ce _)))
    | (clear 30 (PE _ (.ListComp ..) ..);first
      |(clear 30 (PE _ (.ListComp _ [⟨(.Name ("g":Str) _),_,_,0⟩] _ _) (RF _ (AN _ [] _ _ _ _)));refine CW (Cb ["g"] [] rfl rfl rfl rfl rfl) rfl ?_ (λ_ _ _ _ _=>?_) (λ_ _ _ _ _=>?_) (λ_ _ _ _ _=>?_))
      |(clear 30 (PE _ _ (RF _ (AN _ [1] _ _ _ _)));refine CW (Cb ["k"] [(1, "state")] rfl rfl rfl rfl rfl) rfl ?_ (λ_ _ _ _ _=>?_) (λ_ _ _ _ _=>?_) (λ_ _ _ _ _=>?_))
      |(clear 30 (PE _ (.ListComp _ [⟨(.Name ("some":Str) _),_,_,0⟩] _ _) (RF _ (AN _ [] _ _ _ _)));refine CW (Cb ["some"] [] rfl rfl rfl rfl rfl) rfl ?_ (λ_ _ _ _ _=>?_) (λ_ _ _ _ _=>?_) (λ_ _ _ _ _=>?_))
      |(clear 30 (PE _ (.ListComp _ [⟨(.Name ("k":Str) _),_,_,0⟩] _ _) (RF _ (AN _ [0,1] _ _ _ _)));refine CW (Cb ["k"] [(0, "state"),(1, "deep")] rfl rfl rfl rfl rfl) rfl ?_ (λ_ _ _ _ _=>?_) (λ_ _ _ _ _=>?_) (λ_ _ _ _ _=>?_))
      |(clear 30 (PE _ _ (RF _ (AN _ [4,0] _ _ _ _)));refine CW (Cb ["k"] [(4, "signs"),(0, "state")] rfl rfl rfl rfl rfl) rfl ?_ (λ_ _ _ _ _=>?_) (λ_ _ _ _ _=>?_) (λ_ _ _ _ _=>?_))
      |(clear 30 (PE _ (.ListComp _ [⟨(.Name ("k":Str) _),_,_,0⟩] _ _) (RF _ (AN _ [0,1] _ _ _ _)));refine CW (Cb ["k"] [(0, "state"),(1, "s")] rfl rfl rfl rfl rfl) rfl ?_ (λ_ _ _ _ _=>?_) (λ_ _ _ _ _=>?_) (λ_ _ _ _ _=>?_))
      |(clear 30 (PE _ (.ListComp _ [⟨(.Name ("sign":Str) _),_,_,0⟩] _ _) (RF _ (AN _ [] _ _ _ _)));refine CW (Cb ["sign"] [] rfl rfl rfl rfl rfl) rfl ?_ (λ_ _ _ _ _=>?_) (λ_ _ _ _ _=>?_) (λ_ _ _ _ _=>?_))
      |(clear 30 (PE _ (.ListComp _ [⟨(.Name ("byte":Str) _),_,_,0⟩] _ _) (RF _ (AN _ [] _ _ _ _)));refine CW (Cb ["byte"] [] rfl rfl rfl rfl rfl) rfl ?_ (λ_ _ _ _ _=>?_) (λ_ _ _ _ _=>?_) (λ_ _ _ _ _=>?_))
      |(clear 30 (PE _ _ (RF _ (AN _ [0,3,1] _ _ _ _)));refine CW (Cb ["k"] [(0, "script"),(3, "room"),(1, "state")] rfl rfl rfl rfl rfl) rfl ?_ (λ_ _ _ _ _=>?_) (λ_ _ _ _ _=>?_) (λ_ _ _ _ _=>?_))
      |(clear 30 (PE _ (.ListComp _ [⟨(.Name ("word":Str) _),_,_,0⟩] _ _) (RF _ (AN _ [] _ _ _ _)));refine CW (Cb ["word"] [] rfl rfl rfl rfl rfl) rfl ?_ (λ_ _ _ _ _=>?_) (λ_ _ _ _ _=>?_) (λ_ _ _ _ _=>?_))
      |(clear 30 (PE _ _ (RF _ (GV _ _ _ _ _ _)));refine RY (Cb ["one"] [] rfl rfl rfl rfl rfl) rfl ?_ (λ_ _ _ _ _=>?_) (λ_ _ _ _ _=>?_) (λ_ _ _ _ _=>?_)))
    | (clear 30 (PE _ (.BoolOp ..) ..);first
      |(clear 30 (PE _ _ (RE _ _));refine Xd ?_)
      |(clear 30 (PE _ _ (RE _ (Hv _ _)));refine W7 ?_ ?_)
      |(clear 30 (PE _ _ (RE _ (JO _ _)));refine Zf ?_ ?_))
    | (clear 30 (PE _ (.IfExp ..) ..);first
      |refine RQ ?_ ?_ ?_)
    | (clear 30 (PE _ (.UnaryOp ..) ..);first
      |(clear 30 (PE _ _ (RE _ (fUn _ L5)));refine Zg YU V5 ?_)
      |(clear 30 (PE _ _ (RE _ (Hx _)));refine Xb ?_))
    |(clear 30 (PE _ _ (RE _ (Av _)));refine UI ?_)
    |(clear 30 (PE _ _ (RE _ (Dz _)));refine Xc ?_))
  | (clear 30 (PA ..);first
    |refine @RK _ _ _ _ _ ?_ ?_ rfl
    |exact W6)
  | (clear 30 (PSs ..);first
    |refine @R9 _ _ _ _ _ _ ?_ ?_
    |refine @Nf _ _ _ _ ?_
    |exact UT
    |refine Sa ?_
    |exact(Nf Na))
  | (clear 30 (PS ..);first
    | (clear 30 (PS _ (.Assign ..) ..);first
      |(clear 30 (PS _ _ (RSg _ _ (Al _ (Dz (AN _ [] _ _ _ _)))));refine US (Cb ["g"] [] rfl rfl rfl rfl rfl) rfl nd rfl rfl ?_ (λ_ _ _ _ _=>?_) (λ_ _ _ _ _=>?_) (λ_ _ _ _ _=>?_))
      |(clear 30 (PS _ (.Assign [.Name _ _] _ _) (RSg _ _ (Al _ _)));refine LJ nd rfl (.inl rfl) ?_)
      |(clear 30 (PS _ _ (RSg _ _ (BP _ _)));refine Xo ?_ ?_)
      |(clear 30 (PS _ _ (RSg _ (μX _ _) (Dj _ _)));refine HL (Nd nd rfl (.inl rfl) ?_))
      |(clear 30 (PS _ _ (RSg _ _ (DC _ _)));refine Xq nd rfl (.inl rfl) ?_)
      |(clear 30 (PS _ _ (RSg _ _ (EO _ _ _)));refine Xp M.cm (by decide) ?_ ?_)
      |(clear 30 (PS _ _ (RSX _ _ (Dj _ _)));refine Nd nd rfl (.inl rfl) ?_)
      |(clear 30 (PS _ (.Assign [.Name _ _] _ _) (RSg _ _ (Al _ _)));refine LJ nd rfl (.inr rfl) ?_)
      |(clear 30 (PS _ (.Assign [.Name _ _] (.ListComp _ [⟨(.Name ("some":Str) _),_,_,0⟩] _ _) _) (RSg _ _ (Al _ (Av (AN _ [] _ _ _ _)))));refine Nc (Cb ["some"] [] rfl rfl rfl rfl rfl) rfl nd rfl rfl ?_ (λ_ _ _ _ _=>?_) (λ_ _ _ _ _=>?_) (λ_ _ _ _ _=>?_))
      |(clear 30 (PS _ (.Assign [.Name _ _] _ _) (RSg _ _ (Al _ _)));refine LJ nd rfl (.inr rfl) ?_)
      |(clear 30 (PS _ (.Assign [.Name _ _] (.ListComp _ [⟨(.Name ("size":Str) _),_,_,0⟩] _ _) _) (RSg _ _ (Al _ (Av (AN _ [] _ _ _ _)))));refine Nc (Cb ["size"] [] rfl rfl rfl rfl rfl) rfl nd rfl rfl ?_ (λ_ _ _ _ _=>?_) (λ_ _ _ _ _=>?_) (λ_ _ _ _ _=>?_)))
    | (clear 30 (PS _ (.If ..) ..);first
      |refine Zm ?_ ?_ ?_)
    | (clear 30 (PS _ (.Return ..) ..);first
      |(clear 30 (PS _ _ (RSg _ (μR _) (Ao _)));refine PV ?_)
      |(clear 30 (PS _ _ (RSg _ (μX _ _) (Ao (nxD _))));refine Nb ?_)
      |(clear 30 (PS _ _ (RSg _ (μX _ _) (Ao _)));refine HL (JQ ?_))
      |(clear 30 (PS _ _ (RSX _ _ (Ao _)));refine JQ ?_))
    | (clear 30 (PS _ (.For ..) ..);first
      |(clear 30 (PS _ (.For _ _ _ [] _) (RSg _ _ (BF (fEnum _) _ _)));refine fs_for2 fT rfl ?_ ?_ ?_)
      |(clear 30 (PS _ (.For _ _ _ [] _) (RSg _ _ (BF _ _ _)));refine PQ fT rfl ?_ ?_ ?_)
      |(clear 30 (PS _ (.For _ _ _ [] _) (RSg _ _ (BF _ _ _)));refine PQ ho rfl ?_ ?_ ?_)
      |(clear 30 (PS _ _ (RSg _ _ (IZ _ _ _)));refine UR fT rfl ?_ ?_ ?_))
    | (clear 30 (PS _ (.Raise ..) ..);first
      |(clear 30 (PS _ _ (RSg _ (μX _ _) (Cu _ _)));refine HL (PU x xb (hr.mono (by omega)) rfl hq rfl ?_))
      |(clear 30 (PS _ _ (RSg _ (μX _ _) (Hk ("Short":Str) _)));refine HL (PR (n:="Short") x (by decide) rfl (x0 "Short" (by decide)) rfl hq rfl ?_)))
    | (clear 30 (PS _ (.Expr ..) ..);first
      |(clear 30 (PS _ _ (RSg _ _ (ownM _ BN _)));refine On _ ?_)
      |(clear 30 (PS _ _ (RSg _ _ (EK _)));refine M9 ?_)
      |(clear 30 (PS _ _ (RSg _ (μX _ _) (IS _)));refine HL (R8 ?_)))
    |exact Na
    | (clear 30 (PS _ (.While ..) ..);first
      |(clear 30 (PS _ (.While _ _ [] _) _);refine LK fT ?_ ?_)
      |(clear 30 (PS _ (.While _ _ [] _) (RSg _ _ (FD _ _)));refine LK ho ?_ ?_))
    | (clear 30 (PS _ (.Try ..) ..);first
      |(clear 30 (PS _ _ (RSg _ (μR _) (Eo _ _)));refine PX (qx:=false) x XU rfl rfl (λpn E hp=>?_) ?_)
      |(clear 30 (PS _ _ (RSg _ (μX _ _) (Eo _ _)));refine PX (qx:=true) x XV rfl rfl (λpn E hp=>?_) ?_))
    |refine PV ?_
    |refine Nb ?_
    |refine HL (JQ ?_)
    |refine M9 ?_)
  | (clear 30 (PT ..);first
    | (clear 30 (PT _ (.Compare ..) ..);first
      |(clear 30 (PT _ (.Compare _ [.Eq] [_] _) (RT _ (Aj (Ac _ _ (eqS _)))));refine Db (Qs hr.units) (HN (g:=id)) ?_ ?_ (Ce _))
      |(clear 30 (PT _ (.Compare _ [.NotEq] [_] _) (RT _ (Aj (Ac _ _ (eqS _)))));refine Db (Mf hr.units) (HN (g:=λb=>!b)) ?_ ?_ (Ce _))
      |(clear 30 (PT _ _ (RT _ (Aj (Ac _ _ geA))));refine Db Qt NO ?_ ?_ (Ce _))
      |(clear 30 (PT _ _ (RT _ (Aj (Ac _ _ gtA))));refine Db Qu NQ ?_ ?_ (Ce _))
      |(clear 30 (PT _ _ (RT _ (Aj (Ac _ _ (eqO _)))));refine Db (Mf hr.units) (VW (g:=λb=>!b)) ?_ ?_ (Ce _))
      |(clear 30 (PT _ _ (RT _ (Aj (Ac _ _ ltA))));refine Db X3 V1 ?_ ?_ (Ce _))
      |(clear 30 (PT _ _ (RT _ (Aj (DI _ _ _ _ _))));refine Sb Hf Hf F9 F9 ?_ ?_ ?_)
      |(clear 30 (PT _ _ (RT _ (Aj (Ac _ _ leA))));refine Db Hf F9 ?_ ?_ (Ce _))
      |(clear 30 (PT _ _ (RT _ (Aj (Ac _ _ isC))));refine Db X2 YE ?_ ?_ (Ce _))
      |(clear 30 (PT _ _ (RT _ (Aj (Ac _ _ (inD _)))));refine Db Qv YD ?_ ?_ (by with_unfolding_all rfl))
      |(clear 30 (PT _ _ (RT _ (Aj (Ac _ _ (JN _)))));refine Db (Vv hr.units) (Tf (b:=false)) ?_ ?_ (Ce _))
      |(clear 30 (PT _ _ (RT _ (Aj (Ac _ _ FZ))));refine Db Qw QW ?_ ?_ (Ce _)))
    | (clear 30 (PT _ (.BoolOp ..) ..);first
      |refine Zn ?_)
    | (clear 30 (PT _ (.UnaryOp ..) ..);first
      |refine Xr ?_)
    |(clear 30 (PT _ _ (RT _ (Aj _)));refine Xs ?_))
  | (clear 30 (PG ..);first
    | (clear 30 (PG _ (.Name ..) ..);first
      |(clear 30 (PG _ (.Name _ _) (RG _ (As _)));exact(BW nd rfl (.inl rfl)))
      |(clear 30 (PG _ (.Name _ _) (RG _ (As _)));exact(BW (by show List.Nodup [("some":Str)] ;decide +kernel) rfl (.inl rfl)))
      |(clear 30 (PG _ (.Name _ _) (RG _ (As _)));exact(BW (by show List.Nodup [("g":Str)] ;decide +kernel) rfl (.inl rfl)))
      |(clear 30 (PG _ (.Name _ _) (RG _ (As _)));exact(BW (by show List.Nodup [("k":Str),("state":Str)] ;decide +kernel) rfl (.inl rfl)))
      |(clear 30 (PG _ (.Name _ _) (RG _ (As _)));exact(BW (by show List.Nodup [("k":Str),("state":Str),("deep":Str)] ;decide +kernel) rfl (.inl rfl)))
      |(clear 30 (PG _ (.Name _ _) (RG _ (As _)));exact(BW (by show List.Nodup [("k":Str),("signs":Str),("state":Str)] ;decide +kernel) rfl (.inl rfl)))
      |(clear 30 (PG _ (.Name _ _) (RG _ (As _)));exact(BW (by show List.Nodup [("k":Str),("state":Str),("s":Str)] ;decide +kernel) rfl (.inl rfl)))
      |(clear 30 (PG _ (.Name _ _) (RG _ (As _)));exact(BW (by show List.Nodup [("sign":Str)] ;decide +kernel) rfl (.inl rfl)))
      |(clear 30 (PG _ (.Name _ _) (RG _ (As _)));exact(BW (by show List.Nodup [("byte":Str)] ;decide +kernel) rfl (.inl rfl)))
      |(clear 30 (PG _ (.Name _ _) (RG _ (As _)));exact(BW (by show List.Nodup [("k":Str),("script":Str),("room":Str),("state":Str)] ;decide +kernel) rfl (.inl rfl)))
      |(clear 30 (PG _ (.Name _ _) (RG _ (As _)));exact(BW (by show List.Nodup [("word":Str)] ;decide +kernel) rfl (.inl rfl)))
      |(clear 30 (PG _ (.Name _ _) (RG _ (As _)));exact(BW (by show List.Nodup [("one":Str)] ;decide +kernel) rfl (.inl rfl)))
      |(clear 30 (PG _ (.Name _ _) (RG _ (As _)));exact(BW (by show List.Nodup [("size":Str)] ;decide +kernel) rfl (.inl rfl))))
    | (clear 30 (PG _ (.Subscript ..) ..);first
      |(clear 30 (PG _ _ (RG _ (Cm _ _)));refine PJ ?_ ?_)
      |(clear 30 (PG _ _ (RG _ (GB _ _)));refine PK 3 ?_)
      |(clear 30 (PG _ _ (RG _ (stD _ _)));refine Xj ?_ ?_))
    | (clear 30 (PG _ (.Tuple ..) ..);first
      |refine Zi rfl ?_))
  | (clear 30 (PIf ..);first
    |exact UL)
  | (clear 30 (PI ..);first
    | (clear 30 (PI _ _ (.Call ..) ..);first
      |(clear 30 (PI _ _ _ (RI _ (Bs _)));refine Oi rfl M.dJ ?_)
      |(clear 30 (PI _ _ _ (RI _ (Gm _)));refine Oj rfl M.dJ ?_))
    |(clear 30 (PI _ _ _ (RI _ (BZ _)));refine Xl ?_)
    |(clear 30 (PI _ _ _ (RIG _ (LF _)));refine UK ?_))
  | (clear 30 (PPf ..);first
    |refine R7 ?_ ?_
    |exact UQ)
  | (clear 30 (PGs ..);first
    |refine RZ ?_ ?_
    |exact UJ)
  | (clear 30 (PW ..);first
    |(clear 30 (PW _ (.BoolOp .Or (_::_::_) _) (RT _ (fOr _ _)));refine Zo ?_ ?_)
    |(clear 30 (PW _ (.BoolOp .Or [_] _) (RT _ _));refine Xu ?_)
    |(clear 30 (PW _ (.BoolOp .And (_::_::_) _) (RT _ (Ic _ _)));refine Xt ?_ ?_)
    |(clear 30 (PW _ (.BoolOp .And [_] _) (RT _ _));refine UU ?_))
  | (clear 30 (PO ..);first
    |refine UP ?_
    |exact UO)
theorem all_ok(M:Md K mg A fd):∀(n:Nat) (x:Fx),okK (kd x) P w K mg base (2*n+2) (A x) (fd x) (ps x) (run n x)
 |0,x=>SC
 |n+1,x=>by
   have ih:=all_ok M n;exact step M ih x
end
abbrev fno(x:Fx)(kV dc pm:eo)(an:Option eR)(cd ct:eo):eV:=PySem.W.fnOf (nm x) (ql x) (D1 (st x)) (Bp (st x)) (Ap (st x)) .none kV dc pm an cd ct
structure At(K:eh)(x:Fx)(f:eR)(fd:eV):Prop where
 a:me x=false->PySem.W.nsIn K mainGlobals (nm x)=some (some (.ref f))
 m:me x=true->∃C,PySem.W.nsIn K mainGlobals (ow x)=some (some (.ref C))/\PySem.W.findIn K (.ref C) (nm x)=some (some (.ref f))/\PySem.W.isFn K (.ref f)=true
 fn:Fun K (nm x) (ql x) (st x) f fd
 bd:Binds K fd (ps x) []
 eq:∃kV dc pm an cd ct,fd=fno x kV dc pm an cd ct
theorem at_mk{K:eh}{x:Fx}{f:eR}{od an:Option eR}{sl:Array (Option eo)}{oc kV dc pm cd ct:eo}(e:me x=false)(a:PySem.W.nsIn K mainGlobals (nm x)=some (some (.ref f)))(l:K.lookup f=some ⟨oc,od,.func (fno x kV dc pm an cd ct),sl⟩)(c:PySem.W.codeIn K cd (ql x)=true)(k:PySem.W.keepIn K (.ref f)=true):∃p:eR×eV,At K x p.1 p.2:=by
 refine⟨(f,fno x kV dc pm an cd ct),λ_=>a,λz=>(by rw[e] at z;cases z),FY (st:=st x) l c k,(FY (st:=st x) l c k).binds (ps:=ps x) λ_ _ _ _ _ _ us hl=>?_,_,_,_,_,_,_,rfl⟩
 cases x<;>first|(obtain rfl:=ua2 hl;rfl)|(obtain⟨_,rfl⟩:=us1 hl;rfl)|(obtain⟨_,_,rfl⟩:=us2 hl;rfl)|(obtain⟨_,_,_,rfl⟩:=us3 hl;rfl)|(obtain⟨_,_,_,_,rfl⟩:=us4 hl;rfl)|(obtain⟨_,_,_,_,_,rfl⟩:=us5 hl;rfl)|(obtain⟨_,_,_,_,_,_,rfl⟩:=us6 hl;rfl)|(obtain⟨_,_,_,_,_,_,_,rfl⟩:=us7 hl;rfl)
theorem WQ{K:eh}{x:Fx}{f C:eR}{od an:Option eR}{sl:Array (Option eo)}{oc kV dc pm cd ct:eo}(e:me x=true)(hc:PySem.W.nsIn K mainGlobals (ow x)=some (some (.ref C)))(a:PySem.W.findIn K (.ref C) (nm x)=some (some (.ref f)))(l:K.lookup f=some ⟨oc,od,.func (fno x kV dc pm an cd ct),sl⟩)(c:PySem.W.codeIn K cd (ql x)=true)(k:PySem.W.keepIn K (.ref f)=true)(t:PySem.W.isFn K (.ref f)=true):∃p:eR×eV,At K x p.1 p.2:=by
 refine⟨(f,fno x kV dc pm an cd ct),λz=>(by rw[e] at z;cases z),λ_=>⟨C,hc,a,t⟩,FY (st:=st x) l c k,(FY (st:=st x) l c k).binds (ps:=ps x) λ_ _ _ _ _ _ us hl=>?_,_,_,_,_,_,_,rfl⟩
 cases x<;>first|(obtain rfl:=ua2 hl;rfl)|(obtain⟨_,rfl⟩:=us1 hl;rfl)|(obtain⟨_,_,rfl⟩:=us2 hl;rfl)|(obtain⟨_,_,_,rfl⟩:=us3 hl;rfl)|(obtain⟨_,_,_,_,rfl⟩:=us4 hl;rfl)|(obtain⟨_,_,_,_,_,rfl⟩:=us5 hl;rfl)|(obtain⟨_,_,_,_,_,_,rfl⟩:=us6 hl;rfl)|(obtain⟨_,_,_,_,_,_,_,rfl⟩:=us7 hl;rfl)
theorem xm_all{K:eh}{h:Heap}{mg:Str->Option eo}{P c1 c2 c3 c4 c5 c6 c7:eR}{f2:eR}{od2 an2:Option eR}{sl2:Array (Option eo)}{oc2 kV2 dc2 pm2 cd2 ct2:eo}(X:K.In h)(G:h.Ns mainGlobals mg)(p:PySem.W.nsIn K mainGlobals "ParleyError" = some (some (.ref P)))(a1:PySem.W.nsIn K mainGlobals "NoValue" = some (some (.ref c1)))(a2:PySem.W.nsIn K mainGlobals "Short" = some (some (.ref c2)))(a3:PySem.W.nsIn K mainGlobals "Broken" = some (some (.ref c3)))(a4:PySem.W.nsIn K mainGlobals "NoTalk" = some (some (.ref c4)))(a5:PySem.W.nsIn K mainGlobals "NoName" = some (some (.ref c5)))(a6:PySem.W.nsIn K mainGlobals "NoText" = some (some (.ref c6)))(a7:PySem.W.nsIn K mainGlobals "NoRow" = some (some (.ref c7)))(q:Pc K P [c1,c2,c3,c4,c5,c6,c7]=true)(nd:[P,c1,c2,c3,c4,c5,c6,c7].Nodup)(fi2:PySem.W.findIn K (.ref c3) "__init__" = some (some (.ref f2)))(l2:K.lookup f2=some ⟨oc2,od2,.func (PySem.W.fnOf "__init__" "Broken.__init__" (D1 (CS (top 4) 0)) (Bp (CS (top 4) 0)) (Ap (CS (top 4) 0)) .none kV2 dc2 pm2 an2 cd2 ct2),sl2⟩)(ii2:LP K c3 f2=true)(hf2:PySem.W.isFn K (.ref f2)=true)(hs2:PySem.W.findIn K (.ref c3) "__setattr__" = some (some (.builtin "object.__setattr__")))(cc2:PySem.W.codeIn K cd2 "Broken.__init__" = true)(k2:PySem.W.keepIn K (.ref f2)=true)(n2:L7 K c2=true):∃(P:eR) (ca:Str->eR),XM K mg P ca/\XF2 K (ca "Broken") P "Broken.__init__" (CS (top 4) 0)/\∀n∈(["Short"]:List Str),XN0 K (ca n):=by
 have x:=aK X G p a1 a2 a3 a4 a5 a6 a7 q nd;refine⟨P,_,x,Y7 (C:=c3) (st:=(CS (top 4) 0)) ⟨x.cl "Broken" (by decide),x.kp "Broken" (by decide),x.gt "Broken" (by decide),x.gc "Broken" (by decide),x.na "Broken" (by decide),x.nd "Broken" (by decide)⟩ ii2 hf2 hs2 l2 cc2 k2 (λ_ _ _ _ _ _ us hl=>by match us,hl with|[_,_,_],_=>rfl),?_⟩;intro n hn;simp only[uk8,uh9,gA] at hn;rcases hn with rfl
 .exact Y8 n2
theorem fin_mk{K:eh}{h:Heap}{mg:Str->Option eo}{fa:eR}(X:K.In h)(G:h.Ns mainGlobals mg)(hmg:mg "law" = some (.ref fa))(H:∀x:Fx,∃p:eR×eV,At K x p.1 p.2)(dC:PySem.W.nsIn K mainGlobals "ValueError" = some none)(dN:PySem.W.nsIn K mainGlobals "bool" = some none)(dY:PySem.W.nsIn K mainGlobals "int" = some none)(d8:PySem.W.nsIn K mainGlobals "isinstance" = some none)(eA:PySem.W.nsIn K mainGlobals "len" = some none)(dL:PySem.W.nsIn K mainGlobals "list" = some none)(dZ:PySem.W.nsIn K mainGlobals "min" = some none)(eC:PySem.W.nsIn K mainGlobals "ord" = some none)(dJ:PySem.W.nsIn K mainGlobals "range" = some none)(eB:PySem.W.nsIn K mainGlobals "str" = some none)(dI:PySem.W.nsIn K mainGlobals "tuple" = some none){dS:Tok}(dA:PySem.W.nsIn K mainGlobals "FIRST_SIGN" = some (some (.int 32 dS))){dU:Tok}(dB:PySem.W.nsIn K mainGlobals "LAST_SIGN" = some (some (.int 126 dU))){dM:Tok}(d9:PySem.W.nsIn K mainGlobals "PERCENT_SIGN" = some (some (.int 37 dM))){eI:Tok}(dE:PySem.W.nsIn K mainGlobals "SIGNS" = some (some (.str " !\"#$ &'()*+,-./0123456789:;<=>?@ABCDEFGHIJKLMNOPQRSTUVWXYZ[\\]^_`abcdefghijklmnopqrstuvwxyz{|}~" eI)))(xm:∃(P:eR) (ca:Str->eR),XM K mg P ca/\XF2 K (ca "Broken") P "Broken.__init__" (CS (top 4) 0)/\∀n∈(["Short"]:List Str),XN0 K (ca n)){dR:eR}(eF:PySem.W.nsIn K mainGlobals "Reader" = some none)(eK:PySem.W.nsIn K mainGlobals "Side" = some none)(dX:PySem.W.nsIn K mainGlobals "Lasting" = some none)(eD:PySem.W.nsIn K mainGlobals "Parley" = some none)(eH:PySem.W.nsIn K mainGlobals "Relay" = some none)(eL:PySem.W.nsIn K mainGlobals "Desk" = some none)(d7:PySem.W.nsIn K mainGlobals "Listener" = some (some (.ref dR)))(dQ:Of K dR=true)(dO:Oy K dR=true):∃(A:Fx->eR) (fd:Fx->eV),Md K mg A fd/\A .law_=fa/\∀(s:eS) (u:eo),BindsTo s (fd .law_) ⟨[u],[]⟩ [("script",u)]:=by
 clear 5(Classical.axiomOfChoice H)F hF;have fm:∀x,me x=true->∀C,PySem.W.nsIn K mainGlobals (ow x)=some (some (.ref C))->PySem.W.findIn K (.ref C) (nm x)=some (some (.ref (F x).1))/\PySem.W.isFn K (.ref (F x).1)=true:=λx hx C h=>by
  clear 5((hF x).m hx)C e1 e2 e3;have e4:=e1.symm.trans h
  cases e4
  exact⟨e2,e3⟩
 have dG:=fm .Az rfl _ d7;have dF:=fm .Au rfl _ d7;have dD:=fm .An rfl _ d7;have dH:=fm .Ax rfl _ d7;have cm:CM K:=Zb λn hn=>by
  simp only[JL,uk8,uh9,gA] at hn;rcases hn with rfl|rfl|rfl|rfl|rfl|rfl|rfl
  .exact .inl eF
  .exact .inl eK
  .exact .inl dX
  .exact .inl eD
  .exact .inr ⟨_,d7,dQ⟩
  .exact .inl eH
  .exact .inl eL
 refine⟨λx=>(F x).1,λx=>(F x).2,{fn:=λx=>(hF x).fn,mgs:=λx e=>ul6 X G ((hF x).a e),bd:=λx=>(hF x).bd,cm:=cm,II:=⟨_,d7,ul6 X G d7,Zu dO dG.1 dG.2,⟨dF.1,dF.2,Fun.kp (hF .Au).fn⟩,⟨dD.1,dD.2,Fun.kp (hF .An).fn⟩,⟨dH.1,dH.2,Fun.kp (hF .Ax).fn⟩⟩,xm:=xm,dC:=uf4 X G dC,dN:=uf4 X G dN,dY:=uf4 X G dY,d8:=uf4 X G d8,eA:=uf4 X G eA,dL:=uf4 X G dL,dZ:=uf4 X G dZ,eC:=uf4 X G eC,dJ:=uf4 X G dJ,eB:=uf4 X G eB,dI:=uf4 X G dI,dA:=⟨dS,ul6 X G dA⟩,dB:=⟨dU,ul6 X G dB⟩,d9:=⟨dM,ul6 X G d9⟩,dE:=⟨eI,ul6 X G dE⟩ },?_,λs u=>?_⟩
 .have e:=hmg.symm.trans (ul6 X G ((hF .law_).a rfl))
  cases e
  rfl
 .obtain⟨_,_,_,_,_,_,e⟩:=(hF .law_).eq;show BindsTo s (F .law_).2 _ _;rw[e];exact .of_eq rfl
theorem walk{l:PySem.W.OpenLaw}{q:eT}{loose:List Str}{XP:(Str->Option eo)->Heap->Prop}{YP:eU->Heap->Prop}{d:DefRec}{K:Params->eh}(m:Nat)(hm:Room (2*m+2) callerA)(hn:l.most=some 63)(hdf:d.params.defaults=[])
 (hY:∀(w:eU) (h:Heap),YP w h->(K w.params).In h) (lt:∀ns:List Int,ns.length<=63->∃S',run m .law_ [.scr ns] []=some (.bl true,S'))
 (F:∀(w:eU) (mg:Str->Option eo) (fa:eR) (h:Heap),(K w.params).In h->h.Ns mainGlobals mg->mg d.name=some (.ref fa)->
   ∃(A:Fx->eR) (fd:Fx->eV),Md (K w.params) mg A fd/\A .law_=fa/\∀(s:eS) (u:eo),BindsTo s (fd .law_) ⟨[u],[]⟩ [("script",u)]) :
 PySem.W.WalkO q loose XP YP l.row.toRowW d [] (λf vs=>PySem.call f vs):=
 L2.WB (n:=63) (k:=2*m+2) (x:="script") (CX:=λ_=>CX0) (sp:=λw=>spF (K w.params) (run m .law_)) hn (by decide) hdf hm hY
  (λw mg fa h KX G hmg=>by clear 5(F w mg fa h KX G hmg)A fd M e b;subst e;exact⟨fd .law_,b,λbase _ _=>all_ok M m .law_⟩)
  (λw H a ns hl hO hS=>by clear 5(lt ns hl)S' e;exact P9 hO hS e) λ_ _ _ _ _ z=>z
theorem To(k:Nat):Ld (run (k+1) .Dc):=Os
theorem Sj(k:Nat):IC (run (k+1) .Dd):=U9
theorem WD(k:Nat):Ge (run (k+1) .BO):=TD
theorem Ll(k:Nat):BX (run (k+1) .Ch):=Za
theorem YV(k:Nat):UX (run (k+2) .Bt):=ZZ (Ll k)
theorem YL(k:Nat):SX (run (k+2) .Dk):=ZP (To k) (Ll k)
theorem Mo:∀(n k:Nat),2*n+4<=k->KP (run k .Bo) n
 |0,k,_=>λs hs=>absurd s.depth_pos ∅
 |n+1,k,h=>by
   obtain⟨j,rfl⟩:∃j,k=j+5:=fh ∅;exact QK rfl rfl rfl rfl rfl (YV (j+1)) (YL (j+1)) (Sj (j+2)) (Ll (j+2)) (WD (j+2)) (Mo n (j+3) ∅)
theorem Vh(k:Nat):Ri (run (k+11) .BB):=Vf (Mo 3 (k+10) ∅)
theorem P5(k:Nat):Jy (run (k+1) .D2):=P3
theorem Jh(k:Nat):Hs (run (k+12) .Ax):=MT (Vh k) (P5 (k+10))
theorem Qo(k:Nat):Lc (run (k+13) .An):=OF (Jh k)
theorem OR(k:Nat):GJ (run (k+14) .Au):=KN (Qo k)
theorem Qd(k:Nat):La (run (k+1) .Az):=Qc
theorem N9(k:Nat):Jx (run (k+15) .BC):=N8 (Jh (k+2)) (OR k) (Qd (k+13))
theorem Tu(k:Nat):Lb (run (k+16) .Cd):=Qi (N9 k)
theorem JU:∀(n k:Nat),2*n+3<=k->LRD (run k .BJ) n
 |0,k,_=>Ss
 |n+1,k,h=>by
   obtain⟨j,rfl⟩:∃j,k=j+3:=fh ∅;exact XN XS (JU n (j+2) ∅) (JU n (j+1) ∅) (XQ Nv) rfl
theorem Uw(k:Nat):Rh (run (k+12) .Cv):=U8 (Qa (JU 3 (k+10) ∅))
theorem Qf:∀(n k:Nat),n+1<=k->LK8 (run k .BH) n
 |0,k,h=>by
   obtain⟨j,rfl⟩:∃j,k=j+1:=fh ∅;exact Qe (.inl rfl)
 |n+1,k,h=>by
   obtain⟨j,rfl⟩:∃j,k=j+1:=fh ∅;exact Qe (.inr (Qf n j ∅))
theorem LU:∀(n k:Nat),n+1<=k->Jz (run k .BI) n
 |0,k,h=>by
   obtain⟨j,rfl⟩:∃j,k=j+1:=fh ∅;exact Nq (.inl rfl)
 |n+1,k,h=>by
   obtain⟨j,rfl⟩:∃j,k=j+1:=fh ∅;exact Nq (.inr (LU n j ∅))
theorem QM:LRt (run 99 .BU):=XR (Tu 82) (LU 7 98 (by decide)) (Qf 19 98 (by decide)) (Uw 86)
theorem Ew(k:Nat):DrawD (run (k+1) .Bc):=RJ
theorem FN(k:Nat):Eb (run (k+1) .Bn):=QY
theorem KF:∀(n k:Nat),n+2<=k->C7 (run k .BK) n
 |0,k,_=>λd s r hd=>absurd hd ∅
 |n+1,k,h=>by
   obtain⟨j,rfl⟩:∃j,k=j+2:=fh ∅;exact QX (LC (Ew j)) (.inr (KF n (j+1) ∅))
theorem NY:∀(n k:Nat),n+2<=k->Le (run k .BL) n
 |0,k,_=>λs K r S0 S hs=>absurd s.depth_pos ∅
 |n+1,k,h=>by
   obtain⟨j,rfl⟩:∃j,k=j+2:=fh ∅;exact Wo (Ew j) (.inr (NY n (j+1) ∅))
theorem JE:∀(n k:Nat),n+2<=k->DZ (run k .Bu) n
 |0,k,_=>λs hs=>absurd s.depth_pos ∅
 |n+1,k,h=>by
   obtain⟨j,rfl⟩:∃j,k=j+2:=fh ∅;exact Ox (JE n (j+1) ∅) (Nv)
theorem U1:N1 (run 98 .BA):=U0 (LC (Ew 96)) (KF 3 97 (by decide)) (FN 96)
theorem U3:Rg (run 99 .Bq):=U2 (Ew 97) U1 (FN 97)
theorem law_true(ns:List Int)(h:ns.length<=63):∃S',run 100 .law_ [.scr ns] []=some (.bl true,S'):=by
 clear 5(Zt U3 (Su (JE 3 98 (by decide)) (NY 3 98 (by decide)) (Ew 97) (FN 97)) (Si (JE 3 98 (by decide))) (FN 98) (Vd (Ew 97)) QM h)r S' e p;subst p;exact⟨S',e⟩
end K68
structure PySem.W.Fast:Prop where(tw1017922790891436318 tw10271552111291155534 tw10281593979343333564 tw10338041634638237803 tw10367061555064156887 tw10451520224720438448 tw10504641092208464587 tw10566553681279402193 tw10657612244803074702 tw10738304822305836036 tw10738373563158314270 tw10747745044653309442 tw10789298164923064489 tw10856217699030692733 tw10903346453775174347 tw10956184153960761779 tw11004847832857178434 tw11045714878817686778 tw11163592166037528124 tw11166200089014356656 tw11263361973605705930 tw11307239289294147765 tw11431048009210418905 tw1144704183957394145 tw11507169606666969288 tw11518430990015205944 tw1152201268482073343 tw11541853593005257158 tw11628671742090436683 tw11635190385552059546 tw11646552386692959044 tw1167410039947492143 tw11716259698865761701 tw11800989918179669821 tw1184917931962135611 tw11869959484573591344 tw11940102504749625058 tw11943573169375868562 tw11995261241385434333 tw12044084568022360702 tw12057267508288285242 tw1209493449809874 tw12199026933877901364 tw12221910503397368040 tw12274748029370043236 tw12298978572077357638 tw12321001492809490476 tw12331114081530631909 tw12340500394596714988 tw12389924863108132386 tw12428786960825781231 tw12474402299766464135 tw12530721503225252817 tw12534106147720710634 tw12556466947139856672 tw12577191674415739628 tw12632017693953262958 tw12643230729930743668 tw12713626418672520140 tw12722398277591089292 tw12736419344373966081 tw12946980855273086095 tw13056347873329936704 tw13115370174185787937 tw13154262145193973886 tw13247318049078976015 tw13258581284284206415 tw13293698494502774292 tw1330145468215289778 tw13355302944205602507 tw13429880913919049839 tw13472884101817622551 tw13478167568694751514 tw13625059818867512203 tw13695416507539472626 tw13760393856445625617 tw13868537571881581378 tw13913921034053029759 tw13965806887367177385 tw14053661222381188853 tw14079044826114907105 tw14099069951470877544 tw14120240034966865064 tw14132461894555447185 tw14160787118308863338 tw14210509026925208887 tw14389798152716585705 tw14457277709817852991 tw14494458112131554518 tw1450898676281303933 tw1454794703823006550 tw14555268048913022557 tw14566219814044036066 tw14569406053198499739 tw14611274407903052727 tw14626304667668825015 tw14708972573621025123 tw14711316096157853271 tw14759546302378150381 tw14762407586060204304 tw14803429063075424840 tw1489985842433969194 tw14902724366624625376 tw14938045633024101431 tw149520091592821415 tw15005398430932648620 tw15006547962881386583 tw15085200759028433270 tw1511191988314620421 tw15177311262469446159 tw15188742841385491231 tw15292992424054897584 tw15361798925338807566 tw15371214790059216576 tw15401920156917660784 tw1541994248626569674 tw15428357926155494166 tw15445173345091658456 tw15448873951393703221 tw15484615462689094379 tw15534475408407726889 tw15571542441894079652 tw1575206063499273768 tw15793262017196224324 tw15834061517047106635 tw15842089613860840499 tw15954539476740183063 tw15966514847657189932 tw16026909606484836510 tw16043011668349597958 tw16059133372774503479 tw16076484854993314232 tw16139073626825282471 tw16148257757492910926 tw16149096182517544831 tw16171088812872438827 tw16172408947206223256 tw16238533376329533734 tw16264631631406522741 tw16279127138704828592 tw16311583366033279244 tw16327264672740176821 tw16343557169908951513 tw16436016374600784322 tw16458853249771165982 tw16499908961987885393 tw16561217497933173439 tw1656528501721086261 tw16566290176191682790 tw16572435255599155519 tw16589766351846167515 tw16646180837004417351 tw16657727533911273377 tw16657791007240678717 tw16739057329032414248 tw16750190679515721317 tw16765732419153038812 tw16790433407125952322 tw16844204658171988934 tw16858732443781791826 tw16888664283431827914 tw1694393642294205284 tw16946410710794042571 tw17014600074738156017 tw17065740085530463387 tw17148869300035279888 tw17158791387764410700 tw17191718257585991392 tw17196424843244465190 tw17243019700996766801 tw17270590999996638743 tw17290318476983274207 tw17311892767487531308 tw1731855795043796768 tw17328554811284074737 tw17357938481087814733 tw17373186211803400884 tw17398066219138048935 tw17479002424622660256 tw1750516959510944445 tw1755224130766437570 tw17562654502239100107 tw17576572746100700710 tw17614701047353635239 tw1761921623704911410 tw1761993630738928685 tw17710770347228542256 tw17778005598819180464 tw1778250401019745631 tw17835118176682257505 tw17949036291191798419 tw17980914358116256372 tw18025079971777952221 tw18046389638889425161 tw18102625682092419465 tw18142253329172274709 tw18184949174043344059 tw1818727739281536385 tw18258945851350245594 tw18287140021353622615 tw18351525130313654362 tw18353078428946707666 tw18364734782349027325 tw18389745621935316174 tw1839789579656337055 tw1913409812250013214 tw2059721087908263710 tw2124063520206965283 tw2156699050991990521 tw215989415489599287 tw2204304301989261574 tw2309917162137868596 tw2377514982785498339 tw2452121068357145403 tw2463338395770563575 tw2470834560990985789 tw2593414513155322069 tw260154720728428471 tw2611475934193065321 tw2620988278073761561 tw2624407464318624691 tw2687207667048964650 tw2797703156073181319 tw2831007343871950760 tw2906314039970091260 tw2947688239994416363 tw2964674104296033329 tw3027713315001947054 tw3070195247455179347 tw3080581202107760959 tw3093564008199844254 tw3101887376089776703 tw3131904650261381806 tw3147855153634223496 tw3186430832899921913 tw3206699067136574736 tw3215995532286663447 tw3265234404225139648 tw332184837301643487 tw3330064149618078617 tw3362462011392694014 tw3437446283883623545 tw3519610386115124037 tw3537236349445562141 tw3596684528889641180 tw365397440446888717 tw3655125061847004527 tw3663422330023462267 tw3667177561975720251 tw374353021324496314 tw3803146810100393826 tw3804809034933293437 tw3894835348898031776 tw3914131775376489933 tw396076938758614389 tw4006007403483387756 tw4010063779337452495 tw4060779717602613472 tw4117067718267874674 tw4126387058037228103 tw4136379145590220658 tw4186867992031326419 tw4222306424433980007 tw427862291135135275 tw433763358232198250 tw4481055915414825619 tw4499118926742024740 tw450202548996826144 tw4513029327876352678 tw4556385047210378565 tw4599934893158871286 tw4640092617467599696 tw4642515584140755594 tw4670686308198339020 tw4850516318655088643 tw4872446641088372492 tw4892257947720698185 tw4902912884161565831 tw4903436933190928547 tw502821849396028869 tw503722603528019711 tw5058315815552389067 tw509377819756965095 tw5233896680727387960 tw5332614773545632059 tw535884469387164356 tw5470265319433525443 tw5471304581374024587 tw5506291349687078047 tw5507070639743881918 tw5544607159977077927 tw5558997940691599471 tw5586436770177286448 tw5721804578362887352 tw5727808424873069604 tw5759395785360851562 tw5762921184326469922 tw5821988851071260369 tw5868624558477022974 tw5896250142485350540 tw5898954173541682338 tw5911352092234701654 tw5936910692434321526 tw5957138623865961506 tw5984157748656366166 tw6004020796881522404 tw6021163713949922019 tw6024744292205363849 tw6064037789684356390 tw6100621551116757349 tw6112699364260809882 tw6118911313068368468 tw6149722724440473719 tw6162007694509352602 tw6227829864462113646 tw6234457515040316374 tw6286468680301998962 tw6287536495120900497 tw6354859758293561996 tw6427219659807074950 tw6792671792755659637 tw6869066060577508179 tw7024053669209941841 tw711400492232062876 tw7117947542457813048 tw7132680899972559590 tw7180526688082693742 tw7234846878437433474 tw7243593344908417776 tw7334020044690164143 tw736874663600628922 tw7392107243843598185 tw7439883938489322655 tw748511033927557134 tw7602170982889666286 tw7633687810667893536 tw7730353741896665327 tw7794937462995018642 tw7842143579861805730 tw786428029970220150 tw7878437237451125836 tw790315338195811663 tw7944484220323150165 tw7956034164260856638 tw7991362457350520516 tw8023161540301553337 tw8042360168805363486 tw8085803397105550097 tw8156322950843869441 tw8203646023955252717 tw8237355572404514550 tw8307605830822416852 tw8319556253827628862 tw833939225306486860 tw8411140273299217293 tw8466059993237807026 tw853432379291234283 tw8574355030705894645 tw8594342736241901654 tw8646018481293987198 tw8724835926188544782 tw8761982682926086025 tw8764266640073548235 tw8794394438558070679 tw8819686574829456407 tw8820530177066093698 tw8887122993835968555 tw8957324947267160521 tw9110049844414223063 tw9168562046196384009 tw9209365396223061697 tw9215144742666889729 tw9326912285754833942 tw9340117779863338050 tw9393579873155383245 tw9393746686039317921 tw9402721539885176657 tw9412062382179903732 tw942596235079881813 tw9509762360095034978 tw9538971792055256421 tw9548637898776044498 tw9571808614576657821 tw9593492812987500599 tw9603328972635711941 tw9654344586428607953 tw9669072900363405545 tw9745255736823645696 tw9755067745525387726 tw9859287969976219434 tw9903611697875904377 tw998100500204458426:True)
open PySem PySem.W PyProof.Rows
set_option tactic.hygienic true in
set_option maxRecDepth 100000 in
set_option maxHeartbeats 0 in
theorem PySem.Challenge.cw_wireparley_k68_talks_read_beside_holds : PySem.Challenge.rw_wireparley_k68_talks_read_beside.Holds := by
 w_on;o_law;k_head;(case hw=>w_witness2)
 k_fill
 refine K68.walk (l:=PySem.Challenge.rw_wireparley_k68_talks_read_beside) 100 ⟨rfl,by decide,by decide⟩ rfl rfl (λw h Y=>PySem.W.kIn_of Y) K68.law_true ?F
 case F=>
  intro w mg fa h KX G hmg;refine' K68.fin_mk KX G hmg ?H ?dC ?dN ?dY ?d8 ?eA ?dL ?dZ ?eC ?dJ ?eB ?dI ?dA ?dB ?d9 ?dE ?xm ?eF ?eK ?dX ?eD ?eH ?eL ?d7 ?dQ ?dO
  (case H=>intro x;cases x<;>first|(refine' K68.at_mk rfl ?a ?l ?c ?k;(case a=>k_is);(case l=>k_is);(case c=>k_is);(case k=>k_is))|(refine' K68.WQ rfl ?h ?a ?l ?c ?k ?t;(case h=>k_is);(case a=>k_is);(case l=>k_is);(case c=>k_is);(case k=>k_is);(case t=>k_is)))
  (case eF=>k_is)
  (case eK=>k_is)
  (case dX=>k_is)
  (case eD=>k_is)
  (case eH=>k_is)
  (case eL=>k_is)
  (case d7=>k_is)
  (case dQ=>kernel_rfl)
  (case dO=>kernel_rfl)
  (case dC=>k_is)
  (case dN=>k_is)
  (case dY=>k_is)
  (case d8=>k_is)
  (case eA=>k_is)
  (case dL=>k_is)
  (case dZ=>k_is)
  (case eC=>k_is)
  (case dJ=>k_is)
  (case eB=>k_is)
  (case dI=>k_is)
  (case dA=>k_is)
  (case dB=>k_is)
  (case d9=>k_is)
  (case dE=>k_is)
  (case xm=>refine' K68.xm_all KX G ?x_p ?x_a1 ?x_a2 ?x_a3 ?x_a4 ?x_a5 ?x_a6 ?x_a7 ?x_q ?x_nd ?y_fi ?y_l ?y_ii ?y_hf ?y_hs ?y_cc ?y_k ?x_n2;(case x_p=>k_is);(case x_a1=>k_is);(case x_a2=>k_is);(case x_a3=>k_is);(case x_a4=>k_is);(case x_a5=>k_is);(case x_a6=>k_is);(case x_a7=>k_is);(case x_q=>kernel_rfl);(case x_nd=>decide);(case y_fi=>k_is);(case y_l=>k_is);(case y_ii=>kernel_rfl);(case y_hf=>k_is);(case y_hs=>k_is);(case y_cc=>k_is);(case y_k=>k_is);(case x_n2=>kernel_rfl))
