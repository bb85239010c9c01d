import PyProof.Rows.All
import Wide.All
import OpenK.AllK
import PySem.Challenge.RW_wireparley_k96_whole_one_talk_everywhere
set_option bootstrap.genMatcherCode false
set_option genSizeOf false
noncomputable section
abbrev gk:=PySem.Value
abbrev gm:=PySem.Addr
abbrev gn:=PySem.Shared
abbrev gq:=PySem.Program
abbrev gu:=PySem.World
abbrev gy:=PySem.FuncData
def gz:=@PySem.plainObj_wpAny_Assign_Attribute
def ia:=@PySem.Calls.Name_function_global
def ib:=@Int.fdiv_eq_ediv_of_nonneg
def ic:=@PySem.F.excBase_ValueError
def ie:=@PySem.wpAny_check_type_call_sub
def ig:=@PySem.codeAny_call_builtin_code
def ij:=@Array.getElem?_eq_getElem
def im:=@List.findIdx?_eq_none_iff
def ir:=@PySem.F.slot_list_extend
def iu:=@PySem.F.type_list_extend
def iy:=@List.eq_of_mem_replicate
def iz:=@Nat.exists_eq_add_of_le'
def iX:=@List.getElem?_cons_succ
def iY:=@decide_eq_false_iff_not
def iZ:=@PyProof.noPylong_small
def ja:=@PySem.W.cellsFrom_some
def jb:=@List.range_succ_eq_map
def jc:=@List.drop_eq_nil_of_le
def jd:=@Nat.le_of_ble_eq_true
def je:=@PySem.Obj.isFreed_of_fields
def jf:=@List.take_eq_take_min
def jg:=@List.singleton_append
def jh:=@PySem.codeAny_call_builtin
def ji:=@beq_eq_false_iff_ne
def jj:=@PySem.mem_of_lookup
def jk:=@PySem.wpAny_isSubtype_exc
def jl:=@PyProof.Rows.assignInOrder_cons
def jm:=@PySem.wpAny_Call_Name_kw
def jn:=@PySem.Code.quiet_builtin
def jo:=@PySem.wpAny_truthy_bool
def jp:=@PySem.wpAny_newObj_type
def jq:=@PySem.wpAny_pyIter_list
def jr:=@PySem.wpAny_loadPart_at
def jt:=@PySem.wpAny_execs_nil
def ju:=@PySem.wpAny_passesOwn
def jv:=@PySem.wpAny_specialOf
def jw:=@PySem.wpAny_updateSeq
def jx:=@PySem.PassesOwn.never
def jy:=@PySem.wpAny_bindName
def jz:=@List.take_succ
def jA:=@PySem.wpAny_setField
def jB:=@PySem.wpAny_standAt
def jC:=@List.map_drop
def jD:=@Bool.not_true
def jE:=@Prod.mk.injEq
def jF:=@Nat.le_of_lt
def jG:=@Nat.le_of_eq
def jH:=@PySem.codeAny_mono
def jI:=@PySem.wpAny_typeOf
def jJ:=@Nat.mul_comm
def jK:=@Nat.pow_zero
def jL:=@Nat.lt_or_ge
def jM:=@Nat.sub_zero
def jN:=@PySem.sizeLine_eq
def jO:=@PySem.wpAny_rule
def jP:=@beq_iff_eq
def jQ:=@PySem.wpAny_call
def jR:=@PySem.typeIs_int
def jS:=@PySem.call_meets
def jT:=@congrArg
def jU:=@if_false
def jV:=@or_false
def jW:=@if_true
def jX:=@Iff.rfl
def jY:=@if_pos
def jZ:=@if_neg
local macro_rules|`(tactic|clear 5 $t $[$a:ident]*)=>`(tactic|obtain⟨$[$a:ident],*⟩:=$t)
abbrev gi:=PySem.W.Frag
def ua0:=@List.findIdx?_eq_some_iff_getElem
def ua1:=@List.take_succ_eq_append_getElem
def ua2:=@PyProof.Rows.slot_tuple_getitem
def ua3:=@List.eq_nil_of_length_eq_zero
def ua4:=@PyProof.Rows.callWith_type1
def ua5:=@PySem.F.slot_int_bit_length
def ua6:=@List.getElem?_append_right
def ua7:=@List.getD_eq_getElem?_getD
def ua8:=@Array.getElem?_eq_some_iff
def ua9:=@List.getElem?_eq_some_iff
def ub0:=@List.getElem?_append_left
def ub1:=@List.drop_eq_getElem_cons
def ub2:=@List.getElem?_eq_none_iff
def ub3:=@List.getElem?_eq_getElem
def ub4:=@List.getElem?_replicate
def ub5:=@PySem.F.plainAttrs_list
def ub6:=@Int.eq_ofNat_of_zero_le
def ub7:=@List.getElem?_set_self
def ub8:=@PySem.Heap.get?_push_of_some
def ub9:=@PySem.Heap.get?_update_other
def uc0:=@Option.map_eq_some_iff
def uc1:=@List.take_of_length_le
def uc2:=@Nat.div_div_eq_div_mul
def uc3:=@Nat.le_of_succ_le_succ
def uc4:=@List.drop_of_length_le
def uc5:=@List.mem_append_right
def uc6:=@PySem.W.methodCall_KW
def uc7:=@List.length_replicate
def uc8:=@List.length_singleton
def uc9:=@PySem.Heap.get?_update_self
def ud0:=@List.getElem?_eq_none
def ud1:=@List.take_append_drop
def ud2:=@List.mem_cons_of_mem
def ud3:=@List.getElem?_set_ne
def ud4:=@List.mem_of_getElem?
def ud5:=@List.filterMap_cons
def ud6:=@Array.length_toList
def ud7:=@PySem.Heap.get?_push_size
def ud8:=@PySem.W.plainGet_of
def ud9:=@List.replicate_succ
def ue0:=@List.map_congr_left
def ue1:=@List.take_succ_cons
def ue2:=@Int.toNat_of_nonneg
def ue3:=@Nat.lt_of_lt_of_le
def ue4:=@List.mem_cons_self
def ue5:=@Bool.false_ne_true
def ue6:=@Array.find?_toList
def ue7:=@PySem.W.callWith_K
def ue8:=@List.length_append
def ue9:=@Bool.false_eq_true
def uf0:=@List.mem_singleton
def uf1:=@List.getElem?_take
def uf2:=@Int.emod_lt_of_pos
def uf3:=@PySem.W.mg_none_of
def uf4:=@List.size_toArray
def uf5:=@List.getElem?_map
def uf6:=@Int.toNat_natCast
def uf7:=@List.flatten_cons
def uf8:=@List.append_assoc
def uf9:=@Bool.eq_false_iff
def ug0:=@Nat.lt_succ_of_lt
def ug1:=@List.getElem?_set
def ug2:=@Option.some.injEq
def ug3:=@List.reverse_cons
def ug4:=@decide_eq_true_eq
def ug5:=@of_decide_eq_true
def ug6:=@List.getElem_inj
def ug7:=@List.length_cons
def ug8:=@Nat.lt_succ_self
def ug9:=@List.length_take
def uh0:=@List.length_drop
def uh1:=@Bool.and_eq_true
def uh2:=@List.lookup_cons
def uh3:=@List.drop_length
def uh4:=@Nat.le_add_right
def uh5:=@List.all_eq_true
def uh6:=@List.not_mem_nil
def uh7:=@List.getElem_mem
def uh8:=@List.cons_append
def uh9:=@List.take_length
def ui0:=@List.mem_flatten
def ui1:=@beq_self_eq_true
def ui2:=@List.mem_append
def ui3:=@Option.some.inj
def ui4:=@List.length_map
def ui5:=@PySem.W.kia_one
def ui6:=@List.append_nil
def ui7:=@List.nodup_cons
def ui8:=@List.of_mem_zip
def ui9:=@List.foldl_cons
def uj0:=@List.nil_append
def uj1:=@List.find?_cons
def uj2:=@List.length_nil
def uj3:=@Option.map_some
def uj4:=@Bool.or_eq_true
def uj5:=@List.range_succ
def uj6:=@List.map_append
def uj7:=@Nat.le_add_left
def uj8:=@List.length_set
def uj9:=@Nat.min_eq_left
def uk0:=@Int.emod_nonneg
def uk1:=@decide_eq_false
def uk2:=@List.mem_range
def uk3:=@Bool.false_and
def uk4:=@PySem.Heap.size_push
def uk5:=@Bool.and_false
def uk6:=@List.drop_zero
def uk7:=@decide_eq_true
def uk8:=@Nat.lt_irrefl
def uk9:=@List.mem_cons
def ul0:=@List.map_cons
def ul1:=@Bool.or_false
def ul2:=@List.any_cons
def ul3:=@List.all_cons
def ul4:=@List.map_take
def ul5:=@Bool.false_or
def ul6:=@Bool.and_true
def ul7:=@Bool.true_and
def ul8:=@Nat.add_assoc
def ul9:=@Bool.and_self
def um0:=@PySem.W.mg_of
def um1:=@PySem.wpAny_holding
def um2:=@PySem.Heap.lt_size
def um3:=@Nat.ne_of_lt
def um4:=@Nat.le_trans
def um5:=@Nat.ne_of_gt
def um6:=@List.map_nil
def um7:=@Nat.add_zero
def um8:=@Nat.pow_succ
def um9:=@List.mem_map
def un0:=@List.map_map
def un1:=@Int.zero_add
def un2:=@Nat.sub_self
def un3:=@Nat.zero_add
def un4:=@Nat.le_refl
def un5:=@Nat.zero_le
def un6:=@Nat.le_succ
def un7:=@PySem.wpAny_field
def un8:=@PySem.wpAny_bind
def un9:=@PySem.wpAny_pure
def uo0:=@PySem.wpAny_mono
set_option Elab.async false
set_option linter.all false
set_option maxRecDepth 100000
set_option maxHeartbeats 4000000
local macro_rules | `(tactic| walk_at"h") => `(tactic| first|exact Or.inl rfl|exact Or.inr rfl|exact Or.inr (Or.inl rfl)|exact Or.inr (Or.inr rfl)|assumption)
namespace L2
open PySem PySem.Spec PyProof.Rows
abbrev Key:=Sum Int Str
noncomputable def Jb:Key->gk->Bool
 |.inl k,v=>Value.isInt k v
 |.inr x,v=>Value.isStrOf x v
noncomputable def dS(w:gu):Key->Int
 |.inl k=>hashInt k
 |.inr x=>hashStr w x
theorem BZ:∀{k:Key}{v:gk},Jb k v=true->(∃i t,k=Sum.inl i/\v=Value.int i t)\/(∃x t,k=Sum.inr x/\v=Value.str x t)
 |.inl i,v,h=>by
   clear 5(Value.isInt_shape (k:=i) (v:=v) h)t e;exact .inl ⟨i,t,rfl,e⟩
 |.inr x,v,h=>by
   clear 5(Value.isStrOf_shape (x:=x) (v:=v) h)t e;exact .inr ⟨x,t,rfl,e⟩
theorem Rx(i:Int)(t:Tok):Jb (.inl i) (.int i t)=true:=by simp[Jb,Value.isInt]
theorem Ry(x:Str)(t:Tok):Jb (.inr x) (.str x t)=true:=by simp[Jb,Value.isStrOf]
theorem Zc(a b:Int):decide ((Sum.inl a:Key)=Sum.inl b)=(a==b):=by
 by_cases e:a=b
 .subst e;simp
 .have h:¬(Sum.inl a:Key)=Sum.inl b:=λq=>e (Sum.inl.inj q);rw[uk1 h];exact(ji.mpr e).symm
theorem Zf(a b:Str):decide ((Sum.inr a:Key)=Sum.inr b)=decide (a=b):=by
 by_cases e:a=b
 .subst e;simp
 .have h:¬(Sum.inr a:Key)=Sum.inr b:=λq=>e (Sum.inr.inj q);rw[uk1 h,uk1 e]
theorem Zd(a:Int)(b:Str):decide ((Sum.inl a:Key)=Sum.inr b)=false:=uk1 (λq=>nomatch q)
theorem Ze(a:Str)(b:Int):decide ((Sum.inr a:Key)=Sum.inl b)=false:=uk1 (λq=>nomatch q)
def BT(prog:gq)(w:gu):PySem.KeyKind prog w Key where
 is:=Jb
 hash:=dS w
 inj:=λv a b ha hb=>by
  rcases BZ ha with⟨i,t,rfl,rfl⟩|⟨x,t,rfl,rfl⟩
  .rcases BZ hb with⟨j,u,rfl,e⟩|⟨y,u,rfl,e⟩
   .injection e with e1 _;rw[e1]
   .exact nomatch e
  .rcases BZ hb with⟨j,u,rfl,e⟩|⟨y,u,rfl,e⟩
   .exact nomatch e
   .injection e with e1 _;rw[e1]
 byValue:=λk v h=>by
  rcases BZ h with⟨i,t,rfl,rfl⟩|⟨x,t,rfl,rfl⟩<;>rfl
 pyHash:=λhv h=>by
  rcases BZ hv with⟨i,t,rfl,rfl⟩|⟨x,t,rfl,rfl⟩
  .exact wpAny_pyHash_int h
  .exact wpAny_pyHash_str h
 eqBool:=λhu hv h=>by
  rcases BZ hu with⟨i,t,rfl,rfl⟩|⟨x,t,rfl,rfl⟩
  .rcases BZ hv with⟨j,u,rfl,rfl⟩|⟨y,u,rfl,rfl⟩
   .rw[Zc] at h;exact wpAny_eqBool_int h
   .rw[Zd] at h;exact SeqAt.EqAt.int_str i t y u _ _ _ _ h
  .rcases BZ hv with⟨j,u,rfl,rfl⟩|⟨y,u,rfl,rfl⟩
   .rw[Ze] at h;exact SeqAt.EqAt.str_int x t j u _ _ _ _ h
   .rw[Zf] at h;exact wpAny_eqBool_str h
 «strs»:=λk x t v h=>by
  rcases BZ h with⟨i,u,rfl,e⟩|⟨y,u,rfl,e⟩
  .exact nomatch e
  .injection e with e1 _
   subst e1
   cases v<;>rfl
theorem Ox(prog:gq)(w:gu)(i:Int)(t:Tok):(BT prog w).is (.inl i) (.int i t)=true:=Rx i t
theorem Oy(prog:gq)(w:gu)(x:Str)(t:Tok):(BT prog w).is (.inr x) (.str x t)=true:=Ry x t
inductive V where
 |non|bl (b:Bool)|int (i:Int)|str (x:Str)|byt (b:Array UInt8)|flt (b:UInt64)|ref (a:gm)|ty (n:String)
 deriving DecidableEq
noncomputable def RelV:V->gk->Prop
 |.non,u=>u=Value.none
 |.bl b,u=>u=Value.bool b
 |.int i,u=>∃t,u=Value.int i t
 |.str x,u=>∃t,u=Value.str x t
 |.byt b,u=>∃t,u=Value.bytes b t
 |.flt b,u=>∃t,u=Value.float b t
 |.ref a,u=>u=Value.ref a
 |.ty n,u=>u=Value.type n
abbrev Vals:List V->List gk->Prop:=Paired RelV
theorem Vals.length{xs:List V}{us:List gk}(r:Vals xs us):xs.length=us.length:=Paired.length r
theorem Vals.get:∀{xs:List V}{us:List gk}{i:Nat}{x:V},Vals xs us->xs[i]?=some x->∃u,us[i]?=some u/\RelV x u
 |_,_,_,_,.nil,e=>by simp at e
 |_,_,0,_,.cons r _,e=>by simp at e;subst e;exact⟨_,rfl,r⟩
 |_,_,i+1,x,.cons _ t,e=>by
   clear 5(Vals.get (i:=i) (x:=x) t (by simpa using e))u h1 h2;exact⟨u,by simpa using h1,h2⟩
theorem Vals.append{xs ys:List V}{us ws:List gk}(r:Vals xs us)(s:Vals ys ws):Vals (xs++ys) (us++ws):=by
 cases r with
 |nil=>exact s
 |cons r t=>exact .cons r (Vals.append t s)
theorem Vals.take:∀{xs:List V}{us:List gk} (n:Nat),Vals xs us->Vals (xs.take n) (us.take n)
 |_,_,0,_=>.nil
 |_,_,_+1,.nil=>.nil
 |_,_,n+1,.cons r t=>.cons r (Vals.take n t)
theorem Vals.drop:∀{xs:List V}{us:List gk} (n:Nat),Vals xs us->Vals (xs.drop n) (us.drop n)
 |_,_,0,r=>r
 |_,_,_+1,.nil=>.nil
 |_,_,n+1,.cons _ t=>Vals.drop n t
def RelO:Option V->Option gk->Prop
 |some v,some u=>RelV v u
 |none,none=>True
 |_,_=>False
def KV{κ:Type}:List (κ×V)->List (κ×gk)->Prop:=Paired λ(p:κ×V) (q:κ×gk)=>p.1=q.1/\RelV p.2 q.2
noncomputable def kV:Key->V
 |.inl i=>.int i
 |.inr x=>.str x
set_option genInjectivity false in inductive HO where
 /-- a list -/
 |lst (xs:List V)
 /-- a tuple (never changes) -/
 |tup (xs:List V)
 /-- a dict whose keys are ints and texts;one whose keys are tuples of ints and texts (the empty one is both) -/
 |dK (kvs:List (Key×V))|dT (kvs:List (List Key×V))
 /-- a set of ints: its members,its size -/
 |set (S:Int->Bool) (n:Nat)
 /-- an instance of the class at C,its dict at dx,its attributes -/
 |ins (C dx:gm) (fs:List (Str×V))
 /-- the dict of the instance at x -/
 |own (x:gm)
 /-- the dict of an exception -/
 |xd (fs:List (Str×V))
 /-- a bound method,f of x -/
 |met (f x:gm)
 /-- a range object lo,lo+1,.. below hi -/
 |rng (lo hi:Int)
 /-- a thing that is known to the object (the script;a dict while a loop walks it): read,never written while it is so -/
 |frz (o:Obj) (u:HO)
 /-- a code object's table -/
 |tbl (ps:Array gk)
 /-- any other thing,by what is true of its one object (a def of one's own: SetO a S n:=HO.ext λh=>..) -/
 |ext (φ:Heap->Prop)
abbrev Hp:=gm->Option HO
noncomputable def upd(H:Hp)(a:gm)(o:HO):Hp:=λb=>if b=a then some o else H b
section
variable{H:Hp}{a:gm}{o:HO}
theorem AC:upd H a o a=some o:=by unfold upd;rw[jY rfl]
variable{b:gm}
theorem Aq(h:b≠a):upd H a o b=H b:=by unfold upd;rw[jZ h]
theorem XX{u:HO}:upd (upd H a o) a u=upd H a u:=by
 funext b;unfold upd;split<;>rfl
theorem AH(h:H a=some o)(h':H b=none):a≠b:=by
 intro e;subst e;rw[h] at h';cases h'
section
variable(P:gq)(w:gu)
def ObjOk(H:Hp)(h:Heap)(a:gm):HO->Prop
 |.lst xs=>xs.length<=sizeLine/\∃(its:List gk) (n:Nat),Vals xs its/\h.get? a=some {cls:=.type "list",data:=.seq its.toArray n}
 |.tup xs=>xs.length<=sizeLine/\∃its:List gk,Vals xs its/\IsTup h a its.toArray
 |.dK kvs=>kvs.length<=sizeLine/\(a==sysModules)=false/\∃vs,KV kvs vs/\h.DictOf (BT P w) a vs
 | .dT kvs=>kvs.length<=sizeLine/\(a == sysModules)=false/\∃xs:List (List Key×gm×gk),
    Paired (λ(p:List Key×V) (q:List Key×gm×gk)=>p.1=q.1/\H q.2.1=some (.tup (p.1.map kV))/\RelV p.2 q.2.2) kvs xs/\
    ∃o es ep,h.get? a=some o/\o.ExactDict/\o.data=.dict es ep/\es.toList=xs.map (entryOfKey (tupleKind (BT P w)))/\(xs.map (·.1)).Nodup
 |.set S n=>h.SetOf (intKind P w) a S n
 | .ins C dx fs=>H dx=some (.own a)/\fs.length<=1000/\dx≠a/\h.get? a=some (PySem.W.instObj C dx)/\
    ∃mA,h.Ns1 dx mA/\(∀f,RelO (fs.lookup f) (mA f))/\PySem.Within mA (fs.map (·.1))
 |.own _=>∃o,h.get? a=some o
 |.xd fs=>∃mA,h.Ns1 a mA/\∀f,RelO (fs.lookup f) (mA f)
 |.rng lo hi=>∃t u v,h.get? a=some {cls:=.type "range",data:=.fields #[.int lo t,.int hi u,.int 1 v]}
 |.frz o u=>h.get? a=some o/\ObjOk H h a u
 |.tbl ps=>h.get? a=some {cls:=.none,data:=.fields ps}
 |.met f x=>h.get? a=some (PySem.W.methodObj (.ref f) (.ref x))
 |.ext φ=>φ h/\(∃o,h.get? a=some o)/\∀h1 h2:Heap,φ h1->(∀o,h1.get? a=some o->h2.get? a=some o)->φ h2
def HOk(H:Hp)(h:Heap):Prop:=∀a o,H a=some o->ObjOk P w H h a o
end
section
variable{P:gq}{w:gu}{H H':Hp}{h h':Heap}{a:gm}{o:HO}
theorem ObjOk.lt(x:ObjOk P w H h a o):a<h.objs.size:=by
 cases o with
 |lst xs=>obtain⟨_,_,_,_,e⟩:=x;exact um2 e
 |tup xs=>obtain⟨_,_,_,p⟩:=x;exact p.lt
 |dK kvs=>obtain⟨_,_,_,_,o,_,_,e,_⟩:=x;exact um2 e
 |dT kvs=>obtain⟨_,_,_,_,o,_,_,e,_⟩:=x;exact um2 e
 |set S n=>obtain⟨o,_,_,_,e,_⟩:=x;exact um2 e
 |ins C dx fs=>obtain⟨_,_,_,e,_⟩:=x;exact um2 e
 |own y=>obtain⟨_,e⟩:=x;exact um2 e
 |xd fs=>obtain⟨_,⟨_,_,_,e,_⟩,_⟩:=x;exact um2 e
 |rng lo hi=>obtain⟨_,_,_,e⟩:=x;exact um2 e
 |frz ob u=>obtain⟨e,_⟩:=x;exact um2 e
 |tbl ps=>exact um2 (show h.get? a=some _ from x)
 |met f y=>exact um2 (show h.get? a=some _ from x)
 |ext φ=>obtain⟨_,⟨_,e⟩,_⟩:=x;exact um2 e
theorem Paired.mapP{α β:Type}{F G:α->β->Prop}:∀{l₁:List α}{l₂:List β},Paired F l₁ l₂->(∀a b,F a b->G a b)->Paired G l₁ l₂
 |_,_,.nil,_=>.nil
 |_,_,.cons r t,f=>.cons (f _ _ r) (Paired.mapP t f)
theorem ObjOk.stay(x:ObjOk P w H h a o)(k:∀b u,(b=a\/H b=some (.own a))->h.get? b=some u->h'.get? b=some u)
 (ho:∀b,H b=some (.own a)->H' b=some (.own a)) (ht:∀b xs,H b=some (.tup xs)->H' b=some (.tup xs)):ObjOk P w H' h' a o:=by
 induction o with
 |lst xs=>clear 5 x z its n r e;exact⟨z,its,n,r,k _ _ (.inl rfl) e⟩
 |tup xs=>clear 5 x z its r ob e c;exact⟨z,its,r,ob,k _ _ (.inl rfl) e,c⟩
 |dK kvs=>clear 5 x z y vs r ob es ep e c;exact⟨z,y,vs,r,ob,es,ep,k _ _ (.inl rfl) e,c⟩
 |dT kvs=>
   clear 5 x z y xs r ob es ep e c;exact⟨z,y,xs,Paired.mapP r λp q z=>⟨z.1,ht _ _ z.2.1,z.2.2⟩,ob,es,ep,k _ _ (.inl rfl) e,c⟩
 |set S n=>clear 5 x ob es ep t e c;exact⟨ob,es,ep,t,k _ _ (.inl rfl) e,c⟩
 |ins C dx fs=>
   obtain⟨d,z,ne,e,mA,⟨od,es,ep,e2,c⟩,r⟩:=x;exact⟨ho _ d,z,ne,k _ _ (.inl rfl) e,mA,⟨od,es,ep,k _ _ (.inr d) e2,c⟩,r⟩
 |own y=>clear 5 x ob e;exact⟨ob,k _ _ (.inl rfl) e⟩
 |xd fs=>obtain⟨mA,⟨od,es,ep,e,c⟩,r⟩:=x;exact⟨mA,⟨od,es,ep,k _ _ (.inl rfl) e,c⟩,r⟩
 |rng lo hi=>clear 5 x t u v e;exact⟨t,u,v,k _ _ (.inl rfl) e⟩
 |frz ob u ih=>clear 5 x e q;exact⟨k _ _ (.inl rfl) e,ih q⟩
 |tbl ps=>
   have e:h.get? a=some {cls:=.none,data:=.fields ps}:=x;show h'.get? a=some {cls:=.none,data:=.fields ps};exact k a _ (.inl rfl) e
 |met f y=>
   have e:h.get? a=some (PySem.W.methodObj (.ref f) (.ref y)):=x;show h'.get? a=some (PySem.W.methodObj (.ref f) (.ref y));exact k a _ (.inl rfl) e
 |ext φ=>obtain⟨p,⟨o,e⟩,st⟩:=x;exact⟨st _ _ p λo q=>k _ _ (.inl rfl) q,⟨o,k _ _ (.inl rfl) e⟩,st⟩
theorem HOk.lt(x:HOk P w H h)(e:H a=some o):a<h.objs.size:=(x a o e).lt
theorem HOk.fresh(x:HOk P w H h)(e:h.objs.size<=a):H a=none:=by
 cases q:H a with
 |none=>rfl
 |some u=>exact absurd (ue3 (x.lt q) e) (uk8 _)
theorem HOk.kept(x:HOk P w H h)(k:∀b u,h.get? b=some u->h'.get? b=some u):HOk P w H h':=λa o e=>
 (x a o e).stay (λb u _ q=>k b u q) (λ_ q=>q) λ_ _ q=>q
theorem HOk.laid(x:HOk P w H h)(k:∀b u,h.get? b=some u->h'.get? b=some u)(hp:h.objs.size<=a)(new:ObjOk P w (upd H a o) h' a o):HOk P w (upd H a o) h':=λb u e=>by
 have hn:=x.fresh hp
 by_cases hb:b=a
 .subst hb;rw[AC] at e;cases e;exact new
 .rw[Aq hb] at e;exact(x b u e).stay (λc v _ q=>k c v q) (λc q=>by rw[Aq (AH q hn)];exact q) λc xs q=>by rw[Aq (AH q hn)];exact q
end
noncomputable def Rd(H:Hp)(a:gm)(u:HO):Prop:=H a=some u\/∃o,H a=some (.frz o u)
variable{P:gq}{w:gu}{h:Heap}
theorem Rd.ok{u:HO}(r:Rd H a u)(x:HOk P w H h):ObjOk P w H h a u:=by
 rcases r with r|⟨o,r⟩
 .exact x a u r
 .obtain⟨_,q⟩:=x a _ r;exact q
def Mut:Option HO->Prop
 |some (.lst _)=>True
 |some (.dK _)=>True
 |some (.dT _)=>True
 |some (.set _ _)=>True
 |some (.ins _ _ _)=>True
 |some (.ext _)=>True
 |_=>False
section
variable{P:gq}{w:gu}{H:Hp}{h h':Heap}{x e:gm}{o':HO}
theorem HOk.write(ok:HOk P w H h)(mu:Mut (H x))(he:e=x\/H e=some (.own x))(k:∀b u,b≠e->h.get? b=some u->h'.get? b=some u)(heo:∃u,h'.get? e=some u)
 (new:ObjOk P w (upd H x o') h' x o'):HOk P w (upd H x o') h':=λb u q=>by
 have nown:∀c y,H c=some (.own y)->c≠x:=λc y r z=>by subst z;rw[r] at mu;exact mu
 have ntup:∀c xs,H c=some (.tup xs)->c≠x:=λc xs r z=>by subst z;rw[r] at mu;exact mu
 by_cases hb:b=x
 .subst hb;rw[AC] at q;cases q;exact new
 .rw[Aq hb] at q
  by_cases hbe:b=e
  .have q':H b=some (.own x):=by
    rcases he with z|z
    .exact absurd (hbe.trans z) hb
    .rw[hbe];exact z
   rw[q] at q';cases q'
   clear 5 heo v hv;exact⟨v,by rw[hbe];exact hv⟩
  .refine(ok b u q).stay (λc v hc r=>k c v ?_ r) (λc r=>by rw[Aq (nown c b r)];exact r) λc xs r=>by rw[Aq (ntup c xs r)];exact r
   rcases hc with rfl|hc
   .exact hbe
   .rintro rfl;rcases he with z|z
    .exact nown c b hc z
    .rw[hc] at z;cases z;exact hb rfl
end
structure Un(fs ex:List gm)(H H':Hp)(h h':Heap):Prop where
 keep:∀b o,h.get? b=some o->H b=none->b∉fs->b∉ex->h'.get? b=some o
 slot:∀b o,h.get? b=some o->H b=none->b∈fs->b∉ex->∃sl,h'.get? b=some {o with slots:=sl}
 free:∀b o,h.get? b=some o->H b=none->b∉ex->H' b=none
 there:∀b o,h.get? b=some o->b∉ex->∃o',h'.get? b=some o'
 tups:∀b xs,H b=some (.tup xs)->H' b=some (.tup xs)
 frzs:∀b o u,H b=some (.frz o u)->H' b=some (.frz o u)
 tbls:∀b ps,H b=some (.tbl ps)->∃more,H' b=some (.tbl (ps++more))
section
variable{fs fs' ex ex':List gm}{H H1 H2:Hp}{h h1 h2 h':Heap}{a x e:gm}{o:HO}
theorem Un.any(u:Un fs ex H H1 h h1){b:gm}{ob:Obj}(q:h.get? b=some ob)(n:H b=none)(hx:b∉ex):∃sl,h1.get? b=some {ob with slots:=sl}:=by
 by_cases hb:b∈fs
 .exact u.slot b ob q n hb hx
 .exact⟨ob.slots,u.keep b ob q n hb hx⟩
theorem Un.kept(k:∀b u,h.get? b=some u->h'.get? b=some u):Un fs ex H H h h':=
 ⟨λb ob q _ _ _=>k b ob q,λb ob q _ _ _=>⟨ob.slots,k b ob q⟩,λ_ _ _ n _=>n,λb ob q _=>⟨ob,k b ob q⟩,λ_ _ q=>q,λ_ _ _ q=>q,λ_ ps q=>⟨#[],by rw[q];simp⟩⟩
theorem Un.refl:Un fs ex H H h h:=Un.kept λ_ _ q=>q
theorem Un.laid(k:∀b u,h.get? b=some u->h'.get? b=some u)(hp:h.objs.size<=a)(hn:H a=none):Un fs ex H (upd H a o) h h' where
 keep:=λb u q _ _ _=>k b u q
 slot:=λb u q _ _ _=>⟨u.slots,k b u q⟩
 free:=λb u q n _=>by rw[Aq (um3 (ue3 (um2 q) hp))];exact n
 there:=λb u q _=>⟨u,k b u q⟩
 tups:=λb xs q=>by rw[Aq (AH q hn)];exact q
 frzs:=λb u xs q=>by rw[Aq (AH q hn)];exact q
 tbls:=λb ps q=>⟨#[],by rw[Aq (AH q hn),q];simp⟩
theorem Un.write(mu:Mut (H x))(he:e=x\/H e=some (.own x))(k:∀b u,b≠e->h.get? b=some u->h'.get? b=some u)(heo:∃u,h'.get? e=some u):Un fs ex H (upd H x o) h h':=by
 have hx:∀b,H b=none->b≠x:=λb n z=>by subst z;rw[n] at mu;exact mu
 have hb:∀b,H b=none->b≠e:=λb n z=>by
  subst z;rcases he with r|r
  .exact hx b n r
  .rw[n] at r;cases r
 have hm:∀b u,H b=some u->¬Mut (some u)->b≠x:=λb u q nm z=>by subst z;rw[q] at mu;exact nm mu
 refine⟨λb u q n _ _=>k b u (hb b n) q,λb u q n _ _=>⟨u.slots,k b u (hb b n) q⟩,λb u q n _=>by rw[Aq (hx b n)];exact n,λb u q _=>?_,
  λb xs q=>by rw[Aq (hm b _ q λz=>z)];exact q,λb u xs q=>by rw[Aq (hm b _ q λz=>z)];exact q,λb ps q=>⟨#[],by rw[Aq (hm b _ q λz=>z),q];simp⟩⟩
 by_cases hbe:b=e
 .subst hbe;exact heo
 .exact⟨u,k b u hbe q⟩
end
noncomputable def trk(h:Heap)(H:Hp):List gm:=(List.range h.objs.size).filter λa=>(H a).isSome
def Hx(h:Heap)(H:Hp):Heap:=PySem.W.hideAll h (trk h H)
theorem Rl(h:Heap)(H:Hp):(Hx h H).objs.size=h.objs.size:=PySem.W.hideAll_size _ _
theorem T7{o:Obj}(e:h.get? b=some o)(n:H b=none):(Hx h H).get? b=some o:=
 PySem.W.hideAll_get _ e λhm=>by
  have q:(H b).isSome=true:=(List.mem_filter.mp hm).2;rw[n] at q;simp at q
theorem WQ{o:Obj}(e:(Hx h H).get? b=some o):h.get? b=some o/\H b=none:=by
 have e':h.get? b=some o:=PySem.W.of_hideAll (trk h H) e;refine⟨e',?_⟩
 cases q:H b with
 |none=>rfl
 |some x=>
   have hm:b∈trk h H:=List.mem_filter.mpr ⟨uk2.mpr (um2 e'),by simp[q]⟩;have z:(Hx h H).get? b=none:=PySem.W.hideAll_none (trk h H) hm;rw[z] at e;cases e
noncomputable def VN(g h:Heap)(L:gm):List (gm×Obj):=(List.range h.objs.size).filterMap λa=>if a=L\/(g.get? a).isSome=true then none else(h.get? a).map λo=>(a,o)
def rest(g h:Heap)(L d:gm):List (gm×Obj):=(VN g h L).filter λp=>decide (p.1≠d)
structure Mod(K:gi)(mg:Str->Option gk)(base:Heap):Prop where
 kin:K.In base
 glob:base.Ns mainGlobals mg
 blt:∃mb,base.Ns builtinsNs mb/\∀x:Str,x≠"__name__"->mb x=bootBuiltins x
 nolimit:base.NoLimit
structure Cx where
 prog:gq
 w:gu
 K:gi
 mg:Str->Option gk
 base:Heap
 A:Around
 N:List Str
 s₀:gn
 H₀:Hp
 env:Env
 outer:List Env
 stack:List Env
 ex:List gm
 fn:Str->Bool
 calm:Bool
 pn:List (gm×Obj)
 xe:gk->gn->Prop
noncomputable def frs(l:List Env):List gm:=l.filterMap (·.frame)
abbrev Cx.fs(X:Cx):List gm:=frs X.outer
def Vis(sc:Scope)(x:Str):Prop:=sc.names.lookup x=some .local\/sc.names.lookup x=some .cell\/sc.names.lookup x=some .free
def Loc(sc:Scope)(x:Str):Prop:=sc.names.lookup x=some .local\/sc.names.lookup x=some .cell
def de(env:Env)(h:Heap)(m:Str->Option gk)(x:Str)(u:gk):Prop:=
 (env.kindOf x=some .local/\m x=some u)\/((env.kindOf x=some .cell\/env.kindOf x=some .free)/\∃c,env.cells.lookup x=some c/\h.IsCell c (some u))
structure Cx.Ok(X:Cx):Prop where
 mod:Mod X.K X.mg X.base
 kind:X.env.scope.kind=.function
 glob:X.env.globals=mainGlobals
 blt:X.env.builtins=builtinsNs
 above:X.s₀.heap.objs.size<=X.env.locals
 inj:∀x y c,X.env.cells.lookup x=some c->X.env.cells.lookup y=some c->x=y
 has:∀x,(X.env.kindOf x=some .cell\/X.env.kindOf x=some .free)->∃c,X.env.cells.lookup x=some c
 cab:∀x c,X.fn x=true->X.env.cells.lookup x=some c->X.s₀.heap.objs.size<=c
 hd:X.calm=true->X.A.handled=none
 frames:X.A.frames=some X.stack
 stk:X.stack=X.outer\/(X.stack=X.env::X.outer/\X.env.frame=some X.env.locals)
 exf:∀b∈X.ex,b≠X.env.locals/\∀x c,X.env.cells.lookup x=some c->c≠b
 bs:∀b o,X.base.get? b=some o->X.s₀.heap.get? b=some o/\X.H₀ b=none
 bsz:X.base.objs.size<=X.s₀.heap.objs.size
 noex:∀b o,X.base.get? b=some o->b∉X.ex
 exfs:∀b∈X.ex,b∉X.fs
 funs:X.s₀.heap.FunFrames X.base X.outer
 frf:∀b∈X.fs,X.H₀ b=none
structure Inv(X:Cx)(gj:List (gm×Obj))(σ:List (Option V))(H:Hp)(s:gn):Prop where
 ok:X.Ok
 os:s.os=X.s₀.os
 bare:AllBare s.gens
 base:Un X.fs X.ex X.H₀ H X.s₀.heap s.heap
 loc:∃m,s.heap.Ns X.env.locals m/\∀(i:Nat) (x:Str) (v:V),X.N[i]?=some x->σ[i]?=some (some v)->Vis X.env.scope x->∃u,RelV v u/\de X.env s.heap m x u
 cell:∀x c,X.env.cells.lookup x=some c->∃v,s.heap.IsCell c v
 free:H X.env.locals=none
 freeC:∀x c,X.env.cells.lookup x=some c->H c=none
 pin:∀p∈X.pn++gj,s.heap.get? p.1=some p.2/\H p.1=none/\p.1≠X.env.locals/\p.1∉X.fs/\∀v,p.2.data≠.cell v
 hok:HOk X.prog X.w H s.heap
 len:σ.length=X.N.length
variable{t' i:Nat}{ch:List gm}{E:gk->gn->Prop}{x:Str}{v:V}{u:gk}{Q:Unit->gn->Prop}
section
variable{X:Cx}{gj:List (gm×Obj)}{σ:List (Option V)}{H H':Hp}{s:gn}{h':Heap}
theorem Cx.Ok.nofr(ok:X.Ok){b:gm}{o:Obj}(e:X.base.get? b=some o):b∉X.fs:=λhb=>by
 have:=(ok.funs.mem hb).1;rw[e] at this;cases this
theorem Inv.bs(I:Inv X gj σ H s):∀b o,X.base.get? b=some o->s.heap.get? b=some o/\H b=none:=λb o e=>
 ⟨I.base.keep b o (I.ok.bs b o e).1 (I.ok.bs b o e).2 (I.ok.nofr e) (I.ok.noex b o e),I.base.free b o (I.ok.bs b o e).1 (I.ok.bs b o e).2 (I.ok.noex b o e)⟩
theorem Inv.bk(I:Inv X gj σ H s):∀b o,X.base.get? b=some o->s.heap.get? b=some o:=λb o e=>(I.bs b o e).1
theorem Inv.mod(I:Inv X gj σ H s):Mod X.K X.mg X.base:=I.ok.mod
theorem Inv.kIn(I:Inv X gj σ H s):X.K.In s.heap:=I.ok.mod.kin.keeps I.bk
theorem Inv.lt(I:Inv X gj σ H s):X.env.locals<s.heap.objs.size:=let ⟨_,hn,_⟩:=I.loc;hn.lt
theorem Inv.sz(I:Inv X gj σ H s):X.s₀.heap.objs.size<=s.heap.objs.size:=um4 I.ok.above (jF I.lt)
theorem Inv.nofs(I:Inv X gj σ H s){a:gm}(h:s.heap.objs.size<=a):a∉X.fs:=λhb=>by
 obtain⟨_,o,ho,_⟩:=I.ok.funs.mem hb;exact absurd (ue3 (um2 ho) (um4 I.sz h)) (uk8 _)
theorem Inv.cne(I:Inv X gj σ H s):∀x c,X.env.cells.lookup x=some c->c≠X.env.locals:=λx c e z=>by
 clear 5(I.cell x c e)v o ho hd;obtain⟨m,⟨o',es,ep,ho',hd',_⟩,_⟩:=I.loc;rw[z,ho'] at ho;cases ho;rw[hd'] at hd;cases hd
theorem Inv.funs(I:Inv X gj σ H s):s.heap.FunFrames X.base X.outer:=by
 have all:∀(l:List Env),(∀b∈frs l,b∈X.fs)->X.s₀.heap.FunFrames X.base l->s.heap.FunFrames X.base l:=by
  intro l
  induction l with
  |nil=>intro _ _;trivial
  |cons env r ih=>
    intro hs hl;obtain⟨hk,⟨L,o,hf,hn,ho,hd⟩,hr⟩:=hl;have hL:L∈X.fs:=hs L (by unfold frs;rw[ud5,hf];exact ue4);obtain⟨sl,e⟩:=I.base.slot L o ho (I.ok.frf L hL) hL λz=>I.ok.exfs L z hL;exact⟨hk,⟨L,_,hf,hn,e,hd⟩,ih (λb hb=>hs b (by unfold frs;rw[ud5,hf];exact ud2 _ hb)) hr⟩
 exact all X.outer (λ_ hb=>hb) I.ok.funs
theorem Inv.stack(I:Inv X gj σ H s):s.heap.FunFrames X.base X.stack:=by
 rcases I.ok.stk with e|⟨e,hf⟩
 .rw[e];exact I.funs
 .rw[e];obtain⟨m,hn,_⟩:=I.loc;refine .cons (by rw[I.ok.kind];decide) hf hn ?_ I.funs;exact Heap.get?_none_of_le (um4 I.ok.bsz I.ok.above)
theorem Inv.stkSub(I:Inv X gj σ H s):∀b∈frs X.stack,b∈X.env.locals::X.fs:=λb hb=>by
 rcases I.ok.stk with e|⟨e,hf⟩
 .rw[e] at hb;exact ud2 _ hb
 .rw[e] at hb;unfold frs at hb;rw[ud5,hf] at hb;exact hb
theorem Inv.stkFree(I:Inv X gj σ H s):∀b∈frs X.stack,H b=none:=λb hb=>by
 rcases uk9.mp (I.stkSub b hb) with e|hb
 .rw[e];exact I.free
 .obtain⟨_,o,ho,_⟩:=I.ok.funs.mem hb;exact I.base.free b o ho (I.ok.frf b hb) λz=>I.ok.exfs b z hb
theorem Inv.step{g':Array GenState}{d':Drawn}(I:Inv X gj σ H s)
 (hch:∀b∈ch,(b∈X.ex\/X.s₀.heap.objs.size<=b)/\b≠X.env.locals/\(∀x c,X.env.cells.lookup x=some c->c≠b)/\∀p∈X.pn++gj,p.1≠b)
 (keep:∀b o,b≠X.env.locals->b∉X.fs->b∉ch->s.heap.get? b=some o->H b=none->h'.get? b=some o)
 (slot:∀b o,b≠X.env.locals->b∈X.fs->b∉ch->s.heap.get? b=some o->H b=none->∃sl,h'.get? b=some {o with slots:=sl}) (free:∀b o,b∉ch->s.heap.get? b=some o->H b=none->H' b=none)
 (there:∀b o,b∉ch->s.heap.get? b=some o->∃o',h'.get? b=some o')
 (tups:∀b xs,H b=some (.tup xs)->H' b=some (.tup xs)) (frzs:∀b o u,H b=some (.frz o u)->H' b=some (.frz o u)) (tbls:∀b ps,H b=some (.tbl ps)->∃more,H' b=some (.tbl (ps++more)))
 (ns:∀m,s.heap.Ns X.env.locals m->h'.Ns X.env.locals m) (hok:HOk X.prog X.w H' h') (hg:AllBare g') :
 Inv X gj σ H' {s with heap:=h',gens:=g',drawn:=d',toks:=t'}:=by
 have neL:∀b o,X.s₀.heap.get? b=some o->b≠X.env.locals:=λb o e=>um3 (ue3 (um2 e) I.ok.above);have neC:∀b o,X.s₀.heap.get? b=some o->b∉X.ex->b∉ch:=λb o e hx hb=>by
  rcases (hch b hb).1 with z|z
  .exact hx z
  .exact absurd (ue3 (um2 e) z) (uk8 _)
 have cellK:∀x c,X.env.cells.lookup x=some c->∀v,s.heap.IsCell c v->h'.IsCell c v:=λx c e v z9=>by
  clear 5 z9 o ho hd;have nch:c∉ch:=λz=>(hch c z).2.2.1 x c e rfl
  by_cases hc:c∈X.fs
  .clear 5(slot c o (I.cne x c e) hc nch ho (I.freeC x c e))sl q;exact⟨_,q,hd⟩
  .exact⟨o,keep c o (I.cne x c e) hc nch ho (I.freeC x c e),hd⟩
 refine⟨I.ok,I.os,hg,⟨λb o e n hb hx=>?_,λb o e n hb hx=>?_,λb o e n hx=>?_,λb o e hx=>?_,λb xs e=>tups b xs (I.base.tups b xs e),λb o xs e=>frzs b o xs (I.base.frzs b o xs e),λb ps e=>?_⟩,?_,λx c e=>?_,?_,λx c e=>?_,λp hp=>?_,hok,I.len⟩
 .exact keep b o (neL b o e) hb (neC b o e hx) (I.base.keep b o e n hb hx) (I.base.free b o e n hx)
 .clear 5(I.base.slot b o e n hb hx)sl e1;clear 5(slot b _ (neL b o e) hb (neC b o e hx) e1 (I.base.free b o e n hx))sl' e2;exact⟨sl',e2⟩
 .clear 5(I.base.there b o e hx)o' e1;exact free b o' (neC b o e hx) e1 (I.base.free b o e n hx)
 .clear 5(I.base.there b o e hx)o' e1;exact there b o' (neC b o e hx) e1
 .clear 5(I.base.tbls b ps e)m1 e1;clear 5(tbls b _ e1)m2 e2;exact⟨m1++m2,by rw[e2,Array.append_assoc]⟩
 .clear 5 I.loc m hn hl;refine⟨m,ns m hn,λi x v e1 e2 e3=>?_⟩;clear 5(hl i x v e1 e2 e3)u r l;refine⟨u,r,?_⟩;rcases l with l|⟨k,c,e,z⟩
  .exact .inl l
  .exact .inr ⟨k,c,e,cellK x c e _ z⟩
 .clear 5(I.cell x c e)v z;exact⟨v,cellK x c e v z⟩
 .obtain⟨m,⟨o,_,_,ho,_⟩,_⟩:=I.loc;exact free _ o (λz=>(hch _ z).2.1 rfl) ho I.free
 .clear 5(I.cell x c e)v o ho hd;exact free c o (λz=>(hch c z).2.2.1 x c e rfl) ho (I.freeC x c e)
 .clear 5(I.pin p hp)e n ne nf d;have nch:p.1∉ch:=λz=>(hch p.1 z).2.2.2 p hp rfl;exact⟨keep p.1 p.2 ne nf nch e n,free p.1 p.2 nch e n,ne,nf,d⟩
theorem Inv.un(I:Inv X gj σ H s)(u:Un X.fs [] H H' s.heap h')(hok:HOk X.prog X.w H' h'):Inv X gj σ H' {s with heap:=h',toks:=t'}:=by
 obtain⟨m,⟨o,es,ep,ho,r⟩,_⟩:=id I.loc;clear 5(u.any ho I.free (by simp))sl hL;exact I.step (g':=s.gens) (d':=s.drawn) (ch:=[]) (λ_ z=>nomatch z) (λb o _ hb _ e n=>u.keep b o e n hb (by simp)) (λb o _ hb _ e n=>u.slot b o e n hb (by simp)) (λb o _ e n=>u.free b o e n (by simp)) (λb o _ e=>u.there b o e (by simp)) u.tups u.frzs u.tbls (λm' hm=>by
  clear 5 hm o' es' ep' ho' r';rw[ho] at ho';cases ho'
  exact⟨_,es',ep',hL,r'⟩) hok I.bare
theorem Inv.call{g':Array GenState}{d':Drawn}(I:Inv X gj σ H s)(u:Un (frs X.stack) ch H H' s.heap h')(hok:HOk X.prog X.w H' h')(hg:AllBare g')
 (hch:∀b∈ch,(b∈X.ex\/X.s₀.heap.objs.size<=b)/\b≠X.env.locals/\(∀x c,X.env.cells.lookup x=some c->c≠b)/\∀p∈X.pn++gj,p.1≠b) :
 Inv X gj σ H' {s with heap:=h',gens:=g',drawn:=d',toks:=t'}:=by
 obtain⟨m,⟨o,es,ep,ho,r⟩,_⟩:=id I.loc;obtain⟨sl,hL⟩:=u.any ho I.free λz=>(hch _ z).2.1 rfl;exact I.step (ch:=ch) hch (λb o hL hb hc e n=>u.keep b o e n (λz=>(uk9.mp (I.stkSub b z)).elim hL hb) hc) (λb o _ _ hc e n=>u.any e n hc) (λb o hc e n=>u.free b o e n hc) (λb o hc e=>u.there b o e hc) u.tups u.frzs u.tbls (λm' hm=>by
  clear 5 hm o' es' ep' ho' r';rw[ho] at ho';cases ho'
  exact⟨_,es',ep',hL,r'⟩) hok hg
theorem Inv.turned{it:gm}(I:Inv X gj σ H s)(k:∀b o,b≠it->s.heap.get? b=some o->h'.get? b=some o)(hn:H it=none)(hL:it≠X.env.locals)
 (h1:it∈X.ex\/X.s₀.heap.objs.size<=it) (h2:∀x c,X.env.cells.lookup x=some c->c≠it) (h3:∀p∈X.pn++gj,p.1≠it):Inv X gj σ H {s with heap:=h',toks:=t'}:=by
 have nit:∀b u,H b=some u->b≠it:=λb u e z=>by rw[z,hn] at e;cases e
 refine I.step (g':=s.gens) (d':=s.drawn) (ch:=[it]) (λb hb=>?_) (λb o _ _ hc e _=>k b o (λz=>hc (by simp[z])) e) (λb o _ _ hc e _=>⟨o.slots,k b o (λz=>hc (by simp[z])) e⟩) (λ_ _ _ _ n=>n)
  (λb o hc e=>⟨o,k b o (λz=>hc (by simp[z])) e⟩) (λ_ _ e=>e) (λ_ _ _ e=>e) (λb ps e=>⟨#[],by rw[e];simp⟩) (λm hm=>?_) (λb u e=>?_) I.bare
 .have e:b=it:=by simpa using hb
  subst e;exact⟨h1,hL,h2,h3⟩
 .clear 5 hm o es ep ho r;exact⟨o,es,ep,k _ o (Ne.symm hL) ho,r⟩
 .refine(I.hok b u e).stay (λc v hc q=>k c v ?_ q) (λ_ q=>q) λ_ _ q=>q;rcases hc with z|z
  .rw[z];exact nit b u e
  .exact nit c _ z
theorem Inv.tok(I:Inv X gj σ H s)(t:Nat):Inv X gj σ H {s with toks:=t}:=I.un (h':=s.heap) (t':=t) Un.refl I.hok
theorem Inv.kept{t':Nat}(I:Inv X gj σ H s)(k:∀b u,s.heap.get? b=some u->h'.get? b=some u):Inv X gj σ H {s with heap:=h',toks:=t'}:=I.un (Un.kept k) (I.hok.kept k)
theorem Inv.laid{a:gm}{o:HO}{t':Nat}(I:Inv X gj σ H s)(k:∀b u,s.heap.get? b=some u->h'.get? b=some u)(hp:s.heap.objs.size<=a)(new:ObjOk X.prog X.w (upd H a o) h' a o) :
 Inv X gj σ (upd H a o) {s with heap:=h',toks:=t'}:=I.un (Un.laid k hp (I.hok.fresh hp)) (I.hok.laid k hp new)
theorem Inv.write{x e:gm}{o:HO}{t':Nat}(I:Inv X gj σ H s)(mu:Mut (H x))(he:e=x\/H e=some (.own x))(k:∀b u,b≠e->s.heap.get? b=some u->h'.get? b=some u)(heo:∃u,h'.get? e=some u)
 (new:ObjOk X.prog X.w (upd H x o) h' x o):Inv X gj σ (upd H x o) {s with heap:=h',toks:=t'}:=I.un (Un.write mu he k heo) (I.hok.write mu he k heo new)
theorem Inv.pins_of{pins':List (gm×Obj)}(I:Inv X gj σ H s)(h:∀p∈pins',s.heap.get? p.1=some p.2/\H p.1=none/\p.1≠X.env.locals/\p.1∉X.fs/\∀v,p.2.data≠.cell v):Inv X pins' σ H s:=
 ⟨I.ok,I.os,I.bare,I.base,I.loc,I.cell,I.free,I.freeC,λp hp=>(ui2.mp hp).elim (λz=>I.pin p (List.mem_append_left _ z)) (h p),I.hok,I.len⟩
theorem JN{N:List Str}(hN:N.Nodup){i j:Nat}{x:Str}(a:N[i]?=some x)(b:N[j]?=some x):i=j:=by
 clear 5(ua9.mp a)h1 e1;clear 5(ua9.mp b)h2 e2;exact(ug6 hN).mp (e1.trans e2.symm)
theorem Ms{M:Model}{A:Around}(I:Inv X gj σ H s)(hN:X.N.Nodup)(hi:X.N[i]?=some x)(hx:Loc X.env.scope x)(r:RelV v u)
 (h:∀s',Inv X gj (σ.set i (some v)) H s'->(∃a,Heap.SameBut a s.heap s'.heap/\(a=X.env.locals\/X.env.cells.lookup x=some a))->Q () s') (hf:X.fn x=true\/X.env.scope.names.lookup x=some .local:=by walk_at"h"):wpAny M A (storeName X.env x u) Q E s:=by
 clear 5(id I.loc)m hn hl;have hcls:(X.env.scope.kind==.class||(X.env.scope.kind==.module&&X.env.locals != X.env.globals))=false:=by rw[I.ok.kind];rfl
 have hiσ:i < σ.length:=by rw[I.len];exact(ua9.mp hi).1
 have cne:=I.cne;have tracked:∀{a:gm}{h':Heap},(∃o,s.heap.get? a=some o/\H a=none)->Heap.SameBut a s.heap h'->HOk X.prog X.w H h':=λ{a h'} ha hs b ob e=>by
  obtain⟨_,_,hfree⟩:=ha;refine(I.hok b ob e).stay (λc w' hc q=>(hs.2 c ?_).trans q) (λ_ q=>q) λ_ _ q=>q;rintro rfl;rcases hc with rfl|hc
  .rw[hfree] at e;cases e
  .rw[hfree] at hc;cases hc
 rcases hx with hk|hk
 .refine wpAny_storeName_local hk hn (λh' hn' hs=>?_) hcls;obtain⟨oL,_,_,hoL,_⟩:=id hn;refine h _ ⟨I.ok,I.os,I.bare,⟨λb o e n hb hx=>?_,λb o e n hb hx=>?_,I.base.free,λb o e hx=>?_,I.base.tups,I.base.frzs,I.base.tbls⟩,⟨_,hn',λj y v' e1 e2 e3=>?_⟩,λy c e=>?_,I.free,I.freeC,λp hp=>?_,tracked ⟨oL,hoL,I.free⟩ hs,by simpa using I.len⟩ ⟨_,hs,.inl rfl⟩
  .exact(hs.2 b (um3 (ue3 (um2 e) I.ok.above))).trans (I.base.keep b o e n hb hx)
  .clear 5(I.base.slot b o e n hb hx)sl e1;exact⟨sl,(hs.2 b (um3 (ue3 (um2 e) I.ok.above))).trans e1⟩
  .clear 5(I.base.there b o e hx)o' e1;exact⟨o',(hs.2 b (um3 (ue3 (um2 e) I.ok.above))).trans e1⟩
  .by_cases hj:j=i
   .subst hj;rw[hi] at e1;cases e1
    rw[ub7 hiσ] at e2
    cases e2
    exact⟨u,r,.inl ⟨hk,by simp⟩⟩
   .rw[ud3 (Ne.symm hj)] at e2;clear 5(hl j y v' e1 e2 e3)u' r' q;refine⟨u',r',?_⟩;rcases q with⟨k,e⟩|⟨k,c,e,z⟩
    .refine .inl ⟨k,?_⟩;have:y≠x:=λe=>hj (JN hN e1 (e ▸ hi));simp[this,e]
    .exact .inr ⟨k,c,e,z.sameBut hs (cne y c e)⟩
  .clear 5(I.cell y c e)w' z;exact⟨w',z.sameBut hs (cne y c e)⟩
  .clear 5(I.pin p hp)e n ne nf d;exact⟨(hs.2 p.1 ne).trans e,n,ne,nf,d⟩
 .have hfn:X.fn x=true:=by
   rcases hf with z|z
   .exact z
   .rw[z] at hk;cases hk
  clear 5(I.ok.has x (.inl hk))c hc;clear 5(I.cell x c hc)w' z;refine wpAny_storeName_cell I.ok.kind hk hc z (λh' hc' hs=>?_);clear 5(id z)oc hoc hocd;refine h {s with heap:=h'} ⟨I.ok,I.os,I.bare,⟨λb o e n hb hx=>?_,λb o e n hb hx=>?_,I.base.free,λb o e hx=>?_,I.base.tups,I.base.frzs,I.base.tbls⟩,⟨m,hn.sameBut hs (Ne.symm (cne x c hc)),λj y v' e1 e2 e3=>?_⟩,λy c' e=>?_,I.free,I.freeC,λp hp=>?_,tracked ⟨oc,hoc,I.freeC x c hc⟩ hs,by simpa using I.len⟩ ⟨c,hs,.inr hc⟩
  .exact(hs.2 b (um3 (ue3 (um2 e) (I.ok.cab x c hfn hc)))).trans (I.base.keep b o e n hb hx)
  .clear 5(I.base.slot b o e n hb hx)sl e1;exact⟨sl,(hs.2 b (um3 (ue3 (um2 e) (I.ok.cab x c hfn hc)))).trans e1⟩
  .clear 5(I.base.there b o e hx)o' e1;exact⟨o',(hs.2 b (um3 (ue3 (um2 e) (I.ok.cab x c hfn hc)))).trans e1⟩
  .by_cases hj:j=i
   .subst hj;rw[hi] at e1;cases e1
    rw[ub7 hiσ] at e2
    cases e2
    exact⟨u,r,.inr ⟨.inl hk,c,hc,hc'⟩⟩
   .rw[ud3 (Ne.symm hj)] at e2;clear 5(hl j y v' e1 e2 e3)u' r' q;refine⟨u',r',?_⟩;rcases q with q|⟨k,c',e,z'⟩
    .exact .inl q
    .refine .inr ⟨k,c',e,z'.sameBut hs ?_⟩;rintro rfl;exact hj (JN hN e1 (I.ok.inj _ _ _ e hc ▸ hi))
  .by_cases hcc:c'=c
   .subst hcc;exact⟨_,hc'⟩
   .clear 5(I.cell y c' e)w2 z2;exact⟨w2,z2.sameBut hs hcc⟩
  .clear 5(I.pin p hp)e n ne nf d;refine⟨(hs.2 p.1 ?_).trans e,n,ne,nf,d⟩;intro q;rw[q,hoc] at e;have q':oc=p.2:=ui3 e;exact d w' (by rw[<-q'];exact hocd)
theorem Fb{M:Model}{A:Around}(I:Inv X gj σ H s)(hN:X.N.Nodup)(hi:X.N[i]?=some x)(hx:Loc X.env.scope x)(r:RelV v u)
 (h:∀s',Inv X gj (σ.set i (some v)) H s'->Q () s') (hf:X.fn x=true\/X.env.scope.names.lookup x=some .local:=by walk_at"h"):wpAny M A (storeName X.env x u) Q E s:=
 Ms I hN hi hx r (λs' I' _=>h s' I') hf
theorem Inv.call'{s':gn}(I:Inv X gj σ H s)(ho:s'.os=s.os)(u:Un (frs X.stack) ch H H' s.heap s'.heap)(hok:HOk X.prog X.w H' s'.heap)(hg:AllBare s'.gens)
 (hch:∀b∈ch,(b∈X.ex\/X.s₀.heap.objs.size<=b)/\b≠X.env.locals/\(∀x c,X.env.cells.lookup x=some c->c≠b)/\∀p∈X.pn++gj,p.1≠b):Inv X gj σ H' s':=by
 clear 5 s' h' g' d' t' o';have e:o'=s.os:=ho;subst e;exact I.call (g':=g') (t':=t') (d':=d') u hok hg hch
end
abbrev XK:=gk->Option gm->Hp->Prop
abbrev St:=List (Option V)
abbrev VK:=V->Hp->Prop
abbrev TE:=St->Hp->VK->Prop
abbrev TT:=St->Hp->(Bool->Hp->Prop)->Prop
abbrev TA:=St->Hp->(List V->Hp->Prop)->Prop
set_option genInjectivity false in structure Ends where
 nx:St->Hp->Prop
 rt:VK
 bk:St->Hp->Prop:=λ_ _=>False
 ct:St->Hp->Prop:=λ_ _=>False
abbrev TS:=Ends->St->Hp->Prop
inductive EP(X:Cx)(gj:List (gm×Obj))(σ:St)(Q:VK)(u:gk)(s':gn):Prop where
 |mk (v:V) (H':Hp) (i:Inv X gj σ H' s') (r:RelV v u) (q:Q v H'):EP X gj σ Q u s'
inductive TP(X:Cx)(gj:List (gm×Obj))(σ:St)(Q:Bool->Hp->Prop)(b:Bool)(s':gn):Prop where
 |mk (H':Hp) (i:Inv X gj σ H' s') (q:Q b H'):TP X gj σ Q b s'
inductive AP(X:Cx)(gj:List (gm×Obj))(σ:St)(Q:List V->Hp->Prop)(us:List gk)(s':gn):Prop where
 |mk (vs:List V) (H':Hp) (i:Inv X gj σ H' s') (r:Vals vs us) (q:Q vs H'):AP X gj σ Q us s'
def SP(X:Cx)(gj:List (gm×Obj))(D:Ends)(f:Flow)(s':gn):Prop:=
 match f with
 |.next=>∃σ' H',Inv X gj σ' H' s'/\D.nx σ' H'
 |.brk=>∃σ' H',Inv X gj σ' H' s'/\D.bk σ' H'
 |.cont=>∃σ' H',Inv X gj σ' H' s'/\D.ct σ' H'
 |.ret u=>∃v σ' H',Inv X gj σ' H' s'/\RelV v u/\D.rt v H'
def PE(X:Cx)(e:Expr)(t:TE):Prop:=
 ∀(gj:List (gm×Obj)) (s:gn) (σ:St) (H:Hp) (Q:VK),Inv X gj σ H s->t σ H Q->wpAny (model X.prog X.w) X.A (eval e X.env) (EP X gj σ Q) X.xe s
def PT(X:Cx)(e:Expr)(t:TT):Prop:=
 ∀(gj:List (gm×Obj)) (s:gn) (σ:St) (H:Hp) (Q:Bool->Hp->Prop),Inv X gj σ H s->t σ H Q->wpAny (model X.prog X.w) X.A (isTrue e X.env (eval e X.env)) (TP X gj σ Q) X.xe s
def PW(X:Cx)(e:Expr)(t:TT):Prop:=
 ∀(whole:Sem gk) (gj:List (gm×Obj)) (s:gn) (σ:St) (H:Hp) (Q:Bool->Hp->Prop),Inv X gj σ H s->t σ H Q->wpAny (model X.prog X.w) X.A (isTrue e X.env whole) (TP X gj σ Q) X.xe s
variable{X:Cx}{e:Expr}
theorem PW.pt{t:TT}(h:PW X e t):PT X e t:=h _
def PA(X:Cx)(es:List Expr)(t:TA):Prop:=
 ∀(pos:Pos) (gj:List (gm×Obj)) (s:gn) (σ:St) (H:Hp) (Q:List V->Hp->Prop),Inv X gj σ H s->t σ H Q->wpAny (model X.prog X.w) X.A (spliced (backTo pos (starEach es X.env))) (AP X gj σ Q) X.xe s
def PS(X:Cx)(st:Stmt)(t:TS):Prop:=
 ∀(gj:List (gm×Obj)) (s:gn) (σ:St) (H:Hp) (D:Ends),Inv X gj σ H s->t D σ H->wpAny (model X.prog X.w) X.A (exec st X.env) (SP X gj D) X.xe s
def PSs(X:Cx)(st:List Stmt)(t:TS):Prop:=
 ∀(gj:List (gm×Obj)) (s:gn) (σ:St) (H:Hp) (D:Ends),Inv X gj σ H s->t D σ H->wpAny (model X.prog X.w) X.A (execs st X.env) (SP X gj D) X.xe s
variable{s:gn}
theorem thn{α:Type}{t:Sem α}{Q Q':α->gn->Prop}{M:Model}{A:Around}(h:wpAny M A t Q E s)(hQ:∀a s,Q a s->Q' a s):wpAny M A t Q' E s:=uo0 h hQ λ_ _ x=>x
variable{gj:List (gm×Obj)}{σ:St}{c:Expr}
section
variable{X:Cx}
def ar(i:Nat):TE:=λσ H Q=>∃v,σ[i]?=some (some v)/\Q v H
def tC(v:V):TE:=λ_ H Q=>Q v H
theorem Ge{pos:Pos}(hN:X.N[i]?=some x)(hv:Vis X.env.scope x)(hd:(x==("__debug__":Str))=false:=by decide)(hcd:(x==("__classdict__":Str))=false:=by decide):PE X (.Name x pos) (ar i):=by
 intro gj s σ H Q I h;clear 5 h v e h;clear 5 I.loc m hn hl;clear 5(hl i x v hN e hv)u r l;have fin:EP X gj σ Q u s:=⟨v,H,I,r,h⟩;rcases l with⟨hk,hm⟩|⟨hk,c,hc,hcell⟩
 .exact wpAny_Name (wpAny_loadName_local I.ok.kind hk hn hm fin) hd
 .rcases hk with hk|hk
  .exact wpAny_Name (wpAny_loadName_cell I.ok.kind hk hc hcell fin) hd
  .exact wpAny_Name (wpAny_loadName_free I.ok.kind hk hc hcell fin hcd) hd
theorem ZD{i j pos}:PE X (.Constant (.int i) j pos) (tC (.int i)):=λ_ _ _ H _ I h=>wpAny_Constant_int ⟨.int i,H,I.tok _,⟨_,rfl⟩,h⟩
theorem bH{b j pos}:PE X (.Constant (.bool b) j pos) (tC (.bl b)):=λ_ _ _ H _ I h=>Constant_bool ⟨.bl b,H,I,rfl,h⟩
theorem ZF{j pos}:PE X (.Constant .none j pos) (tC .non):=λ_ _ _ H _ I h=>Constant_none ⟨.non,H,I,rfl,h⟩
theorem Se{x j pos}:PE X (.Constant (.str x) j pos) (tC (.str x)):=λ_ _ _ H _ I h=>Calls.Constant_str ⟨.str x,H,I.tok _,⟨_,rfl⟩,h⟩
def Gl(X:Cx)(x:Str):Prop:=X.env.kindOf x=some .globalImplicit
theorem DS{pos:Pos}{Q:gk->gn->Prop}(I:Inv X gj σ H s)(hg:Gl X x)(hm:X.mg x=some u)(h:Q u s)
 (hd:(x==("__debug__":Str))=false:=by decide):wpAny (model X.prog X.w) X.A (eval (.Name x pos) X.env) Q E s:=
 ia I.ok.kind hg (Calls.loadGlobal_global (by rw[I.ok.glob];exact I.mod.glob.keeps I.bk) hm h) hd
theorem Fq{pos:Pos}{Q:gk->gn->Prop}(I:Inv X gj σ H s)(hg:Gl X x)(hm:X.mg x=none)(hv:bootBuiltins x=some u)(h:Q u s)
 (hn:x≠"__name__":=by decide) (hd:(x==("__debug__":Str))=false:=by decide):wpAny (model X.prog X.w) X.A (eval (.Name x pos) X.env) Q E s:=by
 clear 5 I.mod.blt mb h1 h2;exact ia I.ok.kind hg (Calls.loadGlobal_builtin (by rw[I.ok.glob];exact I.mod.glob.keeps I.bk) hm (by rw[I.ok.blt];exact h1.keeps I.bk) ((h2 x hn).trans hv) h) hd
theorem O6{pos:Pos}(hg:Gl X x)(hm:X.mg x=some u)(r:RelV v u)(hd:(x==("__debug__":Str))=false:=by decide):PE X (.Name x pos) (tC v):=
 λ_ _ _ H _ I h=>DS I hg hm ⟨v,H,I,r,h⟩ hd
theorem WY{pos:Pos}(hg:Gl X x)(hm:X.mg x=none)(hv:bootBuiltins x=some u)(r:RelV v u)(hn:x≠"__name__":=by decide)(hd:(x==("__debug__":Str))=false:=by decide):PE X (.Name x pos) (tC v):=
 λ_ _ _ H _ I h=>Fq I hg hm hv ⟨v,H,I,r,h⟩ hn hd
variable{a b:Expr}{ta tb:TE}{pos:Pos}
def tB(t:TE):TT:=λσ H Q=>t σ H λx H1=>∃c,x=.bl c/\Q c H1
theorem ZU{t:TE}(h:PE X e t)(he:∀whole,isTrue e X.env whole=(do let v <-whole;standAt e.pos;holding [v] (truthy v)):=by intro _;rfl):PT X e (tB t):=by
 intro gj s σ H Q I hw;refine isTrue_plain (thn (h gj s σ H _ I hw) λv s1 z9=>?_) (he _);clear 5 z9 x H1 I1 r1 q1;clear 5 q1 d rfl q
 cases r1
 exact jo ⟨H1,I1,q⟩
variable{tA tB':TT}{rest:List Expr}
def d8(t u:TT):TT:=λσ H Q=>t σ H λc H1=>if c=true then u σ H1 Q else Q false H1
def tOr(t u:TT):TT:=λσ H Q=>t σ H λc H1=>if c=true then Q true H1 else u σ H1 Q
def eC(t:TT):TT:=λσ H Q=>t σ H λc H1=>Q (!c) H1
theorem Xf(ha:PT X a tA):PW X (.BoolOp .And [a] pos) tA:=by
 intro wh gj s σ H Q I h;refine isTrue_and (thn (ha gj s σ H Q I h) λc s1 e=>?_)
 cases c with
 |true=>exact isTrue_and_nil e
 |false=>exact e
theorem ZW(ha:PT X a tA):PW X (.BoolOp .Or [a] pos) tA:=by
 intro wh gj s σ H Q I h;refine isTrue_or (thn (ha gj s σ H Q I h) λc s1 e=>?_)
 cases c with
 |false=>exact isTrue_or_nil e
 |true=>exact e
theorem ZV(ha:PT X a tA)(hb:PW X (.BoolOp .And (b::rest) pos) tB'):PW X (.BoolOp .And (a::b::rest) pos) (d8 tA tB'):=by
 intro wh gj s σ H Q I h;refine isTrue_and (thn (ha gj s σ H _ I h) λc s1 z9=>?_);clear 5 z9 H1 I1 q1
 cases c with
 |true=>exact hb wh gj s1 σ H1 Q I1 q1
 |false=>exact⟨H1,I1,q1⟩
theorem bR(ha:PT X a tA)(hb:PW X (.BoolOp .Or (b::rest) pos) tB'):PW X (.BoolOp .Or (a::b::rest) pos) (tOr tA tB'):=by
 intro wh gj s σ H Q I h;refine isTrue_or (thn (ha gj s σ H _ I h) λc s1 z9=>?_);clear 5 z9 H1 I1 q1
 cases c with
 |true=>exact⟨H1,I1,q1⟩
 |false=>exact hb wh gj s1 σ H1 Q I1 q1
theorem ZS(ha:PT X a tA):PT X (.UnaryOp .Not a pos) (eC tA):=by
 intro gj s σ H Q I h;refine isTrue_not (thn (ha gj s σ H (λc H1=>Q (!c) H1) I h) λc s1 z=>?_);clear 5 z H1 I1 q1;exact⟨H1,I1,q1⟩
def bV(ta tb:TE):TE:=λσ H Q=>ta σ H λx H1=>∃c,x=.bl c/\if c=true then tb σ H1 Q else Q (.bl false) H1
def eD(ta tb:TE):TE:=λσ H Q=>ta σ H λx H1=>∃c,x=.bl c/\if c=true then Q (.bl true) H1 else tb σ H1 Q
def b6(ta:TE):TE:=λσ H Q=>ta σ H λx H1=>∃c,x=.bl c/\Q (.bl (!c)) H1
theorem ZH{op}{t:TE}(h:PE X a t):PE X (.BoolOp op [a] pos) t:=λgj s σ H Q I hw=>BoolOp_one (h gj s σ H Q I hw)
theorem ZB(ha:PE X a ta)(hb:PE X (.BoolOp .And (b::rest) pos) tb):PE X (.BoolOp .And (a::b::rest) pos) (bV ta tb):=by
 intro gj s σ H Q I h;refine BoolOp_and (thn (ha gj s σ H _ I h) λv s1 z9=>?_);clear 5 z9 x H1 I1 r1 q1;clear 5 q1 c rfl q1
 cases r1
 refine jo ?_
 cases c with
 |true=>exact hb gj s1 σ H1 Q I1 q1
 |false=>exact⟨.bl false,H1,I1,rfl,q1⟩
theorem bI(ha:PE X a ta)(hb:PE X (.BoolOp .Or (b::rest) pos) tb):PE X (.BoolOp .Or (a::b::rest) pos) (eD ta tb):=by
 intro gj s σ H Q I h;refine BoolOp_or (thn (ha gj s σ H _ I h) λv s1 z9=>?_);clear 5 z9 x H1 I1 r1 q1;clear 5 q1 c rfl q1
 cases r1
 refine jo ?_
 cases c with
 |false=>exact hb gj s1 σ H1 Q I1 q1
 |true=>exact⟨.bl true,H1,I1,rfl,q1⟩
theorem ZG(ha:PE X a ta):PE X (.UnaryOp .Not a pos) (b6 ta):=by
 intro gj s σ H Q I h;refine UnaryOp_ (thn (ha gj s σ H _ I h) λv s1 z9=>?_);clear 5 z9 x H1 I1 r1 q1;clear 5 q1 c rfl q1
 cases r1
 exact not_of (jo ⟨.bl (!c),H1,I1,rfl,q1⟩)
def tIf(t:TT)(ta tb:TE):TE:=λσ H Q=>t σ H λc H1=>if c=true then ta σ H1 Q else tb σ H1 Q
theorem NZ(hc:PT X c tA)(ha:PE X a ta)(hb:PE X b tb):PE X (.IfExp c a b pos) (tIf tA ta tb):=by
 intro gj s σ H Q I h;refine wpAny_IfExp (thn (hc gj s σ H _ I h) λd s1 z9=>?_);clear 5 z9 H1 I1 q1
 cases d with
 |true=>exact ha gj s1 σ H1 Q I1 q1
 |false=>exact hb gj s1 σ H1 Q I1 q1
end
noncomputable def SqL(K:gi)(H:Hp)(a:gm)(xs:List V):Prop:=
 Rd H a (.lst xs)\/
  ∃(o:Obj) (its:Array gk) (n:Nat),K.lookup a=some o/\o.cls=.type "list"/\o.dict=none/\o.data=.seq its n/\its.size<=sizeLine/\Vals xs its.toList
noncomputable def SqT(K:gi)(H:Hp)(a:gm)(xs:List V):Prop:=
 Rd H a (.tup xs)\/
  ∃(o:Obj) (its:Array gk) (n:Nat),K.lookup a=some o/\o.cls=.type "tuple"/\o.data=.seq its n/\its.size<=sizeLine/\Vals xs its.toList
noncomputable def dA:gk->Option V
 |.none=>some .non
 |.bool b=>some (.bl b)
 |.int i _=>some (.int i)
 |.str x _=>some (.str x)
 |.bytes b _=>some (.byt b)
 |.float b _=>some (.flt b)
 |.ref a=>some (.ref a)
 |.type n=>some (.ty n)
 |_=>none
theorem RelV.abs{x:V}(r:RelV x u):dA u=some x:=by
 cases x with
 |non=>cases r;rfl
 |bl _=>cases r;rfl
 |int _=>clear 5 r t rfl;rfl
 |str _=>clear 5 r t rfl;rfl
 |byt _=>clear 5 r t rfl;rfl
 |flt _=>clear 5 r t rfl;rfl
 |ref _=>cases r;rfl
 |ty _=>cases r;rfl
theorem RelV.inj{x y:V}{u:gk}(r:RelV x u)(q:RelV y u):x=y:=ui3 (r.abs.symm.trans q.abs)
theorem Vals.inj{xs ys:List V}{us:List gk}(a:Vals xs us)(b:Vals ys us):xs=ys:=by
 cases a with
 |nil=>
   cases b
   rfl
 |cons r t=>
   cases b with
   |cons r' t'=>rw[r.inj r',Vals.inj t t']
variable{K:gi}
section
variable{X:Cx}{gj:List (gm×Obj)}{σ:St}{H:Hp}{s:gn}{a:gm}{xs ys:List V}
theorem SqL.of(h:H a=some (.lst xs)):SqL K H a xs:=.inl (.inl h)
theorem SqT.of(h:H a=some (.tup xs)):SqT K H a xs:=.inl (.inl h)
theorem Inv.list(I:Inv X gj σ H s)(h:SqL X.K H a xs):∃its:List gk,Vals xs its/\PlainL s.heap a its.toArray/\xs.length<=sizeLine:=by
 rcases h with h|⟨o,its,n,hk,hc,hd,hs,hz,r⟩
 .clear 5(h.ok I.hok)z its n r e;exact⟨its,r,⟨_,n,e,rfl,rfl,rfl⟩,z⟩
 .refine⟨its.toList,r,⟨o,n,I.kIn a o hk,hc,hd,by simpa using hs⟩,?_⟩;have e:=r.length;simp only[ud6] at e;lia
theorem Inv.tuple(I:Inv X gj σ H s)(h:SqT X.K H a xs):∃its:List gk,Vals xs its/\IsTup s.heap a its.toArray/\xs.length<=sizeLine:=by
 rcases h with h|⟨o,its,n,hk,hc,hs,hz,r⟩
 .clear 5(h.ok I.hok)z its r p;exact⟨its,r,p,z⟩
 .refine⟨its.toList,r,⟨o,I.kIn a o hk,hc,n,by simpa using hs⟩,?_⟩;have e:=r.length;simp only[ud6] at e;lia
theorem Inv.list_inj(I:Inv X gj σ H s)(h:SqL X.K H a xs)(h':SqL X.K H a ys):xs=ys:=by
 obtain⟨its,r,⟨o,n,e,_,_,d⟩,_⟩:=I.list h;obtain⟨its',r',⟨o',n',e',_,_,d'⟩,_⟩:=I.list h';rw[e] at e';cases e'
 rw[d] at d';injection d' with d1 _
 have:its=its':=by simpa using jT Array.toList d1
 subst this;exact r.inj r'
theorem Inv.tuple_inj(I:Inv X gj σ H s)(h:SqT X.K H a xs)(h':SqT X.K H a ys):xs=ys:=by
 obtain⟨its,r,⟨o,e,_,n,d⟩,_⟩:=I.tuple h;obtain⟨its',r',⟨o',e',_,n',d'⟩,_⟩:=I.tuple h';rw[e] at e';cases e'
 rw[d] at d';injection d' with d1 _
 have:its=its':=by simpa using jT Array.toList d1
 subst this;exact r.inj r'
end
abbrev Cx.wish(X:Cx)(E:gk->gn->Prop):Cx:={X with xe:=E}
abbrev Cx.nox(X:Cx):Cx:=X.wish λ_ _=>False
theorem Cx.Ok.wish{X:Cx}(ok:X.Ok)(E:gk->gn->Prop):(X.wish E).Ok:=
 ⟨ok.mod,ok.kind,ok.glob,ok.blt,ok.above,ok.inj,ok.has,ok.cab,ok.hd,ok.frames,ok.stk,ok.exf,ok.bs,ok.bsz,ok.noex,ok.exfs,ok.funs,ok.frf⟩
theorem Cx.Ok.unwish(ok:(X.wish E).Ok):X.Ok:=
 ⟨ok.mod,ok.kind,ok.glob,ok.blt,ok.above,ok.inj,ok.has,ok.cab,ok.hd,ok.frames,ok.stk,ok.exf,ok.bs,ok.bsz,ok.noex,ok.exfs,ok.funs,ok.frf⟩
section
variable{X:Cx}{gj:List (gm×Obj)}{σ:St}{H:Hp}{s:gn}{E:gk->gn->Prop}
theorem Inv.wish(I:Inv X gj σ H s)(E:gk->gn->Prop):Inv (X.wish E) gj σ H s:=⟨I.ok.wish E,I.os,I.bare,I.base,I.loc,I.cell,I.free,I.freeC,I.pin,I.hok,I.len⟩
theorem Inv.unwish(I:Inv (X.wish E) gj σ H s):Inv X gj σ H s:=⟨I.ok.unwish,I.os,I.bare,I.base,I.loc,I.cell,I.free,I.freeC,I.pin,I.hok,I.len⟩
theorem SP.unwish{D:Ends}{f:Flow}{s':gn}(h:SP (X.wish E) gj D f s'):SP X gj D f s':=by
 cases f with
 |next=>clear 5 h σ' H' I q;exact⟨σ',H',I.unwish,q⟩
 |brk=>clear 5 h σ' H' I q;exact⟨σ',H',I.unwish,q⟩
 |cont=>clear 5 h σ' H' I q;exact⟨σ',H',I.unwish,q⟩
 |ret u=>clear 5 h v σ' H' I r q;exact⟨v,σ',H',I.unwish,r,q⟩
theorem PSs.nox{st:List Stmt}{t:TS}(h:PSs X.nox st t):PSs X st t:=λgj s σ H D I hw=>
 uo0 (h gj s σ H D (I.wish _) hw) (λ_ _ q=>q.unwish) λ_ _ z=>False.elim z
end
section
variable{X:Cx}{st:Stmt}{rest:List Stmt}{t u:TS}{e:Expr}{te:TE}{pos:Pos}
def b5:TS:=λD σ H=>D.nx σ H
def eG(t u:TS):TS:=λD σ H=>t {D with nx:=u D} σ H
theorem Xd:PSs X [] b5:=λ_ _ σ H _ I h=>jt ⟨σ,H,I,h⟩
theorem UG(h1:PS X st t)(h2:PSs X rest u):PSs X (st::rest) (eG t u):=by
 intro gj s σ H D I h;refine wpAny_execs_cons (thn (h1 gj s σ H {D with nx:=u D} I h) λf s1 q=>?_)
 cases f with
 |next=>
   clear 5 q σ' H' I' q;exact h2 gj s1 σ' H' D I' q
 |ret v=>exact q
 |brk=>exact q
 |cont=>exact q
theorem LK(h1:PS X st t):PSs X [st] t:=by
 intro gj s σ H D I h;refine wpAny_execs_cons (thn (h1 gj s σ H D I h) λf s1 q=>?_)
 cases f with
 |next=>exact jt q
 |ret v=>exact q
 |brk=>exact q
 |cont=>exact q
def am:TS:=λD σ H=>D.bk σ H
def bY:TS:=λD σ H=>D.ct σ H
theorem UE:PS X (.Break pos) am:=λ_ _ σ H _ I h=>wpAny_Break ⟨σ,H,I,h⟩
theorem OB:PS X (.Continue pos) bY:=λ_ _ σ H _ I h=>wpAny_Continue ⟨σ,H,I,h⟩
theorem Inv.quiet(I:Inv X gj σ H s):interactive X.env=false:=by simp[interactive,I.ok.kind]
def Vy(te:TE):TS:=λD σ H=>te σ H λ_ H1=>D.nx σ H1
theorem LJ(he:PE X e te)(hs:swapsWith e none pos.line X.env=pure false:=by rfl):PS X (.Expr e pos) (Vy te):=by
 intro gj s σ H D I h;exact wpAny_Expr_any (thn (he gj s σ H _ I h) λv s1 z9=>by clear 5 z9 x H1 I1 r1 q1;exact⟨σ,H1,I1,q1⟩) I.quiet hs
def eF(te:TE):TS:=λD σ H=>te σ H D.rt
theorem IE(he:PE X e te):PS X (.Return (some e) pos) (eF te):=by
 intro gj s σ H D I h;exact wpAny_Return_some (thn (he gj s σ H _ I h) λv s1 z9=>by clear 5 z9 x H1 I1 r1 q1;exact⟨x,σ,H1,I1,r1,q1⟩)
def eA(c:TT)(t u:TS):TS:=λD σ H=>c σ H λb H1=>if b=true then t D σ H1 else u D σ H1
theorem bP{a b:List Stmt}{tc:TT}(hc:PT X c tc)(ha:PSs X a t)(hb:PSs X b u):PS X (.If c a b pos) (eA tc t u):=by
 intro gj s σ H D I h;refine wpAny_If (thn (hc gj s σ H _ I h) λd s1 z9=>?_);clear 5 z9 H1 I1 q1
 cases d with
 |true=>exact ha gj s1 σ H1 D I1 q1
 |false=>exact hb gj s1 σ H1 D I1 q1
end
abbrev TG:=V->St->Hp->(St->Hp->Prop)->Prop
abbrev TGs:=List V->St->Hp->(St->Hp->Prop)->Prop
def PG(X:Cx)(target:Expr)(t:TG):Prop:=
 ∀(gj:List (gm×Obj)) (s:gn) (σ:St) (H:Hp) (v:V) (u:gk) (Q:St->Hp->Prop),Inv X gj σ H s->RelV v u->t v σ H Q->
  wpAny (model X.prog X.w) X.A (assign target X.env u) (λ_ s'=>∃σ' H',Inv X gj σ' H' s'/\Q σ' H') X.xe s
def PGs(X:Cx)(ts:List Expr)(t:TGs):Prop:=
 ∀(gj:List (gm×Obj)) (s:gn) (σ:St) (H:Hp) (vs:List V) (us:List gk) (Q:St->Hp->Prop),Inv X gj σ H s->Vals vs us->t vs σ H Q->
  wpAny (model X.prog X.w) X.A (assignInOrder ((assignEach ts X.env).map (·.2)) us) (λ_ s'=>∃σ' H',Inv X gj σ' H' s'/\Q σ' H') X.xe s
abbrev Tc:=V->V->V->Hp->(Hp->Prop)->Prop
def Yl(X:Cx)(t:Tc):Prop:=
 ∀(gj:List (gm×Obj)) (s:gn) (σ:St) (H:Hp) (o i v:V) (ov iv u:gk) (Q:Hp->Prop),Inv X gj σ H s->RelV o ov->RelV i iv->RelV v u->t o i v H Q->
  wpAny (model X.prog X.w) X.A (setItem ov iv u) (λ_ s'=>∃H',Inv X gj σ H' s'/\Q H') X.xe s
variable{tg:Expr}{ta:TA}
section
variable{X:Cx}{pos:Pos}
def KH(i:Nat):TG:=λv σ H Q=>Q (σ.set i (some v)) H
theorem W4(hN:X.N.Nodup)(hi:X.N[i]?=some x)(hx:Loc X.env.scope x)(hf:X.fn x=true\/X.env.scope.names.lookup x=some .local:=by walk_at"h"):PG X (.Name x pos) (KH i):=by
 intro gj s σ H v u Q I r h;exact wpAny_assign_Name (Fb I hN hi hx r (λs' I'=>⟨_,H,I',h⟩) hf)
def dL:TGs:=λvs σ H Q=>vs=[]/\Q σ H
def Vm(t:TG)(u:TGs):TGs:=λvs σ H Q=>∃v r,vs=v::r/\t v σ H λσ' H'=>u r σ' H' Q
theorem W5:PGs X [] dL:=by
 intro gj s σ H vs us Q I r h;clear 5 h e h;subst e
 cases r
 exact assignInOrder_nil ⟨σ,H,I,h⟩
theorem UA{es:List Expr}{t:TG}{u:TGs}(h1:PG X e t)(h2:PGs X es u)
 (hs:(assignEach (e::es) X.env).map (·.2)=assign e X.env::(assignEach es X.env).map (·.2):=by rfl):PGs X (e::es) (Vm t u):=by
 intro gj s σ H vs us Q I r h;clear 5 h v vr e1 h;subst e1
 cases r with
 |cons r rr=>
   rw[hs];refine jl (thn (h1 gj s σ H _ _ _ I r h) λ_ s1 z9=>?_);clear 5 z9 σ1 H1 I1 q1;exact h2 gj s1 σ1 H1 _ _ Q I1 rr q1
def dN(K:gi)(n:Nat)(t:TGs):TG:=λv σ H Q=>∃a xs,v=.ref a/\SqT K H a xs/\xs.length=n/\t xs σ H Q
theorem ZK{es:List Expr}{k:Nat}{t:TGs}{n:Nat}(hc:X.calm=true)(h:PGs X es t)
 (hn:(assignEach es X.env).length=n:=by rfl) (hst:(assignEach es X.env).findIdx? (·.1)=none:=by rfl):PG X (.Tuple es k pos) (dN X.K n t):=by
 intro gj s σ H v u Q I r hw;clear 5 hw a xs e1 hq hl hw;subst e1
 cases r
 clear 5(I.tuple hq)its rv ht hz;refine assign_Tuple_tuple (I.ok.hd hc) ht (by simp[hn,<-hl,rv.length]) hst λh' hx=>?_;have I1:Inv X gj σ H {s with heap:=h'}:=I.kept (t':=s.toks) λb o e=>hx b o (um3 (um2 e)) e;exact h gj _ σ H xs _ Q I1 (by simpa using rv) hw
def dM(to ti:TE)(t:Tc):TG:=λv σ H Q=>to σ H λo H1=>ti σ H1 λi H2=>t o i v H2 λH3=>Q σ H3
theorem ZJ{o i:Expr}{to ti:TE}{t:Tc}(ho:PE X o to)(hi:PE X i ti)(hs:Yl X t)
 (ha:∀v,assign (.Subscript o i pos) X.env v=(do
   let ov <-holding [v] (eval o X.env)
   let iv <-holding [v,ov] (eval i X.env)
   standAt pos
   holding [v,ov,iv] (setItem ov iv v)
   release [v,ov,iv] []):=by intro _;rfl):PG X (.Subscript o i pos) (dM to ti t):=by
 intro gj s σ H v u Q I r h;rw[ha];refine un8 (um1 (thn (ho gj s σ H _ I h) λov s1 z9=>?_));clear 5 z9 x H1 I1 r1 q1;refine un8 (um1 (thn (hi gj s1 σ H1 _ I1 q1) λiv s2 z9=>?_));clear 5 z9 y H2 I2 r2 q2;refine un8 (jB (un8 (um1 (thn (hs gj s2 σ H2 x y v ov iv u _ I2 r1 r2 r q2) λ_ s3 z9=>?_))));clear 5 z9 H3 I3 q3;exact wpAny_release ⟨σ,H3,I3,q3⟩
def Oi(te:TE)(g:TG):TS:=λD σ H=>te σ H λx H1=>g x σ H1 D.nx
theorem Sm{te:TE}{g:TG}(he:PE X e te)(hg:PG X tg g)(hs:swapsWithSole [tg] e pos.line X.env=pure false:=by rfl)(hw:swappedStores [tg] e X.env=pure none:=by rfl)
 (h1:(assignEach [tg] X.env).map (·.2)=[assign tg X.env]:=by rfl):PS X (.Assign [tg] e pos) (Oi te g):=by
 intro gj s σ H D I h;refine wpAny_Assign_stores (thn (he gj s σ H _ I h) λv s1 z9=>?_) hs hw;clear 5 z9 x H1 I1 r1 q1;rw[h1];exact thn (hg gj s1 σ H1 x v _ I1 r1 q1) λ_ s2 q=>q
theorem N1{te:TE}{pos':Pos}(hN:X.N.Nodup)(hi:X.N[i]?=some x)(hx:Loc X.env.scope x)(he:PE X e te)(hs:swapsWith e (some (.Name x pos')) pos.line X.env=pure false:=by rfl)(hf:X.fn x=true\/X.env.scope.names.lookup x=some .local:=by walk_at"h") :
 PS X (.Assign [.Name x pos'] e pos) (Oi te (KH i)):=by
 intro gj s σ H D I h;refine wpAny_Assign_Name (thn (he gj s σ H _ I h) λv s1 z9=>?_) hs;clear 5 z9 y H1 I1 r1 q1;exact Fb I1 hN hi hx r1 (λs2 I2=>⟨_,H1,I2,q1⟩) hf
def eE(i j:Nat)(ta:TA):TS:=λD σ H=>ta σ H λvs H1=>∃v w,vs=[v,w]/\D.nx ((σ.set i (some v)).set j (some w)) H1
theorem ZQ{j:Nat}{y:Str}{a b:Expr}{px py pt:Pos}{kt k2 pt2}(hc:X.calm=true)(hN:X.N.Nodup)(hi:X.N[i]?=some x)(hj:X.N[j]?=some y)(hij:i≠j)
 (hx:X.env.scope.names.lookup x=some .local) (hy:X.env.scope.names.lookup y=some .local) (ha:PA X [a,b] ta)
 (hw:swappedStores [.Tuple [.Name x px,.Name y py] kt pt] (.Tuple [a,b] k2 pt2) X.env=pure (some [x,y]))
 (hs:swapsWithSole [.Tuple [.Name x px,.Name y py] kt pt] (.Tuple [a,b] k2 pt2) pos.line X.env=pure false:=by rfl) :
 PS X (.Assign [.Tuple [.Name x px,.Name y py] kt pt] (.Tuple [a,b] k2 pt2) pos) (eE i j ta):=by
 intro gj s σ H D I h;rw[exec_Assign_arm];refine un8 (jB ?_);rw[hs];refine un8 (un9 ?_);rw[jZ (by decide)];refine un8 (Tuple_ (thn (ha _ gj s σ H _ I h) λus s1 z9=>?_));clear 5 z9 vs H1 I1 r1 q1;clear 5 q1 v w e1 q1;subst e1;obtain⟨u1,u2,rfl,rv,rw'⟩:∃u1 u2,us=[u1,u2]/\RelV v u1/\RelV w u2:=by
  cases r1 with
  |cons p q=>
    cases q with
    |cons p' q'=>
      cases q'
      exact⟨_,_,rfl,p,p'⟩
 refine jp ?_ (by show 2<=sizeLine;decide);have I2:Inv X gj σ H1 {s1 with heap:=s1.heap.push {cls:=.type "tuple",data:=.seq [u1,u2].toArray} }:=I1.kept (t':=s1.toks) λb o e=>ub8 _ e;rw[hw];refine un8 (un9 ?_);show wpAny (model X.prog X.w) X.A (do rule "assign.swapped-stores";let items <-unpackItems (.ref s1.heap.objs.size) 2 none;assignInOrder [λv=>bindName X.env y v,λv=>bindName X.env x v] items.reverse;pure Flow.next) _ _ _;refine un8 (jO (un8 (unpackItems_tuple (items:=#[u1,u2]) (I.ok.hd hc) (IsTup.new s1.heap _) λh' hx'=>?_)));have I3:=I2.kept (h':=h') (t':=s1.toks) λb o e=>hx' b o (um3 (um2 e)) e;show wpAny _ _ (assignInOrder [λv=>bindName X.env y v,λv=>bindName X.env x v] [u2,u1] >>= λ_=>pure Flow.next) _ _ _;refine un8 (jl (jy (Fb I3 hN hj (.inl hy) rw' (λs2 I4=>?_) (.inr hy))));refine jl (jy (Fb I4 hN hi (.inl hx) rv (λs3 I5=>assignInOrder_nil (un9 ?_)) (.inr hx)));rw[List.set_comm _ _ (Ne.symm hij)] at I5;exact⟨_,H1,I5,q1⟩
end
section
variable{X:Cx}{pos:Pos}
def SJ(c:TT)(tb:TS):TS:=λD σ H=>∃W:Nat->St->Hp->Prop,(∃m,W m σ H)/\∀m σ H,W m σ H->
 c σ H λb H1=>if b=true then ∃N:St->Hp->Prop,(∀σ' H',N σ' H'->∃m',m'<m/\W m' σ' H')/\tb {D with nx:=N,ct:=N,bk:=D.nx} σ H1 else D.nx σ H1
theorem UF{body:List Stmt}{tc:TT}{tb:TS}(hp:PassesOwn (model X.prog X.w) X.A X.env X.xe)(hc:PT X c tc)(hb:PSs X body tb):PS X (.While c body [] pos) (SJ tc tb):=by
 intro gj s σ H D I h;obtain⟨W,⟨m0,w0⟩,turn⟩:=h;refine wpAny_While (codeAny_whileLoop (λn s'=>∃σ' H',Inv X gj σ' H' s'/\W n σ' H') ?_ m0 ⟨σ,H,I,w0⟩);rintro n s1 ⟨σ1,H1,I1,w1⟩;refine ju hp (thn (hc gj s1 σ1 H1 _ I1 (turn n σ1 H1 w1)) λb s2 z9=>?_);clear 5 z9 H2 I2 q2
 cases b with
 |true=>
   clear 5 q2 N hN q2;rw[jY rfl];refine ju hp (thn (hb gj s2 σ1 H2 _ I2 q2) λf s3 q3=>?_)
   cases f with
   |next=>
     clear 5 q3 σ3 H3 I3 n3;clear 5(hN σ3 H3 n3)m' hm w3;exact⟨m',hm,σ3,H3,I3,w3⟩
   |cont=>
     clear 5 q3 σ3 H3 I3 n3;clear 5(hN σ3 H3 n3)m' hm w3;exact⟨m',hm,σ3,H3,I3,w3⟩
   |brk=>exact q3
   |ret v=>exact q3
 |false=>
   rw[jZ ue5];exact jt ⟨σ1,H2,I2,q2⟩
end
set_option genInjectivity false in structure It where
 go:Nat->Hp->Prop
 yld:Nat->Hp->V->Hp->Prop
 stop:Nat->Hp->Prop
def FpOk(X:Cx)(gj:List (gm×Obj))(H:Hp)(b:gm):Prop:=
 H b=none/\b≠X.env.locals/\b∉X.fs/\(b∈X.ex\/X.s₀.heap.objs.size<=b)/\(∀x c,X.env.cells.lookup x=some c->c≠b)/\∀p∈X.pn++gj,p.1≠b
theorem Inv.fpOk{H':Hp}(I:Inv X gj σ H s)(hb:s.heap.objs.size<=b)(hn:H' b=none):FpOk X gj H' b:=by
 refine⟨hn,um5 (ue3 I.lt hb),I.nofs hb,.inr (um4 I.sz hb),λx c e z=>?_,λp hp z=>?_⟩
 .clear 5(I.cell x c e)v q;exact absurd (ue3 q.lt (by rw[z];exact hb)) (uk8 _)
 .exact absurd (ue3 (um2 (I.pin p hp).1) (by rw[z];exact hb)) (uk8 _)
structure Turn(P:gq)(w:gu)(K:gi)(tg:Expr)(J:It)(fp:List gm)(it:gm)(tn:Nat->Heap->Prop):Prop where
 mem:it∈fp
 obj:∀i h,tn i h->∀b∈fp,∃o,h.get? b=some o/\∀v,o.data≠.cell v
 keep:∀i h h',tn i h->(∀b∈fp,∀o,h.get? b=some o->h'.get? b=some o)->tn i h'
 item:∀(X:Cx),X.prog=P->X.w=w->X.K=K->X.calm=true->∀(i:Nat) (gj:List (gm×Obj)) (s:gn) (σ:St) (H:Hp) (E:gk->gn->Prop),Inv X gj σ H s->(∀b∈fp,FpOk X gj H b)->tn i s.heap->J.go i H->
  wpAny (model P w) X.A (pyNext (.ref it)) (λr s1=>∃u,r=some u/\
   wpAny (model P w) X.A (letOwnedTupleGo tg (.ref it) u) (λ_ s2=>∃x H',Inv X gj σ H' s2/\RelV x u/\J.yld i H x H'/\tn (i+1) s2.heap/\∀b∈fp,H' b=none) E s1) E s
 done:∀(X:Cx),X.prog=P->X.w=w->X.K=K->X.calm=true->∀(i:Nat) (gj:List (gm×Obj)) (s:gn) (σ:St) (H:Hp) (E:gk->gn->Prop),Inv X gj σ H s->(∀b∈fp,FpOk X gj H b)->tn i s.heap->J.stop i H->
  wpAny (model P w) X.A (pyNext (.ref it)) (λr s1=>r=none/\Inv X gj σ H s1) E s
 self:∀(A:Around) (i:Nat) (s:gn) (Q:gk->gn->Prop) (E:gk->gn->Prop),tn i s.heap->Q (.ref it) s->wpAny (model P w) A (pyIter (.ref it)) Q E s
abbrev TI:=St->Hp->(It->Hp->Prop)->Prop
def PIE(X:Cx)(gj:List (gm×Obj))(σ:St)(tg:Expr)(R:It->Hp->Prop)(itv:gk)(s2:gn):Prop:=
 ∃(it:gm) (fp:List gm) (tn:Nat->Heap->Prop) (J:It) (H':Hp),itv=.ref it/\Inv X gj σ H' s2/\Turn X.prog X.w X.K tg J fp it tn/\tn 0 s2.heap/\(∀b∈fp,FpOk X gj H' b)/\R J H'
def PI(X:Cx)(tg iter:Expr)(wi:TI):Prop:=
 ∀(gj:List (gm×Obj)) (s:gn) (σ:St) (H:Hp) (R:It->Hp->Prop),Inv X gj σ H s->wi σ H R->
  wpAny (model X.prog X.w) X.A (eval iter X.env) (λv s1=>wpAny (model X.prog X.w) X.A (pyIter v) (PIE X gj σ tg R) X.xe s1) X.xe s
theorem KJ{M:Model}{A:Around}{it:gm}{o:Obj}{n:String}{vs:Array gk}(ho:s.heap.get? it=some o)(hc:o.cls=.type n)(hd:o.data=.fields vs)
 (hn:["enumerate", "zip", "dict_itemiterator", "dict_reverseitemiterator", "odict_iterator", "itertools.zip_longest", "itertools.pairwise"].contains n=false) (hQ:Q () s):wpAny M A (letOwnedTupleGo tg (.ref it) u) Q E s:=by
 unfold letOwnedTupleGo
 cases tg<;>first
  |exact un9 hQ
  | (cases u <;> first
      |exact un9 hQ
      | (refine un8 (wpAny_load ho ?_)
         rw[hc,hd];show wpAny M A (if (["enumerate", "zip", "dict_itemiterator", "dict_reverseitemiterator", "odict_iterator", "itertools.zip_longest", "itertools.pairwise"].contains n&&vs[0]?==some (rawInt _))=true then _ else _) Q E s;rw[jZ (by intro h;rw[hn,uk3] at h;cases h)]
         exact un9 hQ))
noncomputable def Itl(K:gi)(a:gm):It:=
 ⟨λi H=>∃xs x,SqL K H a xs/\xs[i]?=some x,λi H x H'=>H'=H/\∀xs,SqL K H a xs->xs[i]?=some x,λi H=>∃xs,SqL K H a xs/\xs.length<=i⟩
noncomputable def Itt(K:gi)(a:gm):It:=
 ⟨λi H=>∃xs x,SqT K H a xs/\xs[i]?=some x,λi H x H'=>H'=H/\∀xs,SqT K H a xs->xs[i]?=some x,λi H=>∃xs,SqT K H a xs/\xs.length<=i⟩
noncomputable def Itr(lo:Int)(n:Nat):It:=⟨λi _=>i<n,λi H x H'=>H'=H/\x=.int (lo+i),λi _=>n<=i⟩
theorem SM(a it:gm):Turn P w K tg (Itl K a) [it] it (λi h=>h.IsListIter it a i) where
 mem:=by simp
 obj:=λi h st b hb=>by
  have e:b=it:=by simpa using hb
  subst e;clear 5 st o e c d;exact⟨o,e,λv z=>by rw[d] at z;cases z⟩
 keep:=λi h h' st k=>st.at λo e=>k it (by simp) o e
 item:=by
  intro X hP hw hK hc i gj s σ H E I hf st hg;subst hP hw hK;clear 5 hg xs x hq hx;clear 5(I.list hq)its rv p hz;clear 5(rv.get hx)u hu ru;clear 5(hf it (by simp))f0 f1 f2 f3 f4 f5;refine wpAny_pyNext_list_item st p.isList (x:=u) (by simpa using hu) λh' st' sb=>?_;have I1:Inv X gj σ H {s with heap:=h'}:=I.turned (t':=s.toks) (λb o hb e=>(sb.2 b hb).trans e) f0 f1 f3 f4 f5;clear 5(id st')o e c d;exact⟨u,rfl,KJ (s:={s with heap:=h'}) e c d (by decide) ⟨x,H,I1,ru,⟨rfl,λys hy=>by rw[I.list_inj hy hq];exact hx⟩,st',λb hb=>(hf b hb).1⟩⟩
 done:=by
  intro X hP hw hK hc i gj s σ H E I hf st hg;subst hP hw hK;clear 5 hg xs hq hx;clear 5(I.list hq)its rv p hz;clear 5(hf it (by simp))f0 f1 f2 f3 f4 f5;have hl:=rv.length;exact wpAny_pyNext_list_end (I.ok.hd hc) st p.isList (by simp;lia) λh' eb=>⟨rfl,I.turned (t':=s.toks) (λb o hb e=>eb b o hb e) f0 f1 f3 f4 f5⟩
 self:=λ_ _ _ _ _ st h=>wpAny_pyIter_listiter st h
theorem Qw(a it:gm):Turn P w K tg (Itt K a) [it] it (λi h=>h.IsTupleIter it a i) where
 mem:=by simp
 obj:=λi h st b hb=>by
  have e:b=it:=by simpa using hb
  subst e;clear 5 st o e c d;exact⟨o,e,λv z=>by rw[d] at z;cases z⟩
 keep:=λi h h' st k=>st.at λo e=>k it (by simp) o e
 item:=by
  intro X hP hw hK hc i gj s σ H E I hf st hg;subst hP hw hK;clear 5 hg xs x hq hx;clear 5(I.tuple hq)its rv p hz;clear 5(rv.get hx)u hu ru;clear 5(hf it (by simp))f0 f1 f2 f3 f4 f5;refine wpAny_pyNext_tuple_item st (show s.heap.IsTuple a its.toArray from p) (x:=u) (by simpa using hu) λh' st' sb=>?_;have I1:Inv X gj σ H {s with heap:=h'}:=I.turned (t':=s.toks) (λb o hb e=>(sb.2 b hb).trans e) f0 f1 f3 f4 f5;clear 5(id st')o e c d;exact⟨u,rfl,KJ (s:={s with heap:=h'}) e c d (by decide) ⟨x,H,I1,ru,⟨rfl,λys hy=>by rw[I.tuple_inj hy hq];exact hx⟩,st',λb hb=>(hf b hb).1⟩⟩
 done:=by
  intro X hP hw hK hc i gj s σ H E I hf st hg;subst hP hw hK;clear 5 hg xs hq hx;clear 5(I.tuple hq)its rv p hz;clear 5(hf it (by simp))f0 f1 f2 f3 f4 f5;have hl:=rv.length;exact wpAny_pyNext_tuple_end (I.ok.hd hc) st (show s.heap.IsTuple a its.toArray from p) (by simp;lia) λh' eb=>⟨rfl,I.turned (t':=s.toks) (λb o hb e=>eb b o hb e) f0 f1 f3 f4 f5⟩
 self:=λ_ _ _ _ _ st h=>wpAny_pyIter_tupleiter st h
theorem Qv(it:gm)(lo:Int)(n:Nat):Turn P w K tg (Itr lo n) [it] it (λi h=>IsRangeIter h it (lo+(i:Nat)*1) ((n:Int)-(i:Nat)) 1) where
 mem:=by simp
 obj:=λi h st b hb=>by
  have e:b=it:=by simpa using hb
  subst e;exact⟨_,st,λv z=>by
   have z':Data.fields _=Data.cell v:=z
   cases z'⟩
 keep:=λi h h' st k=>k it (by simp) _ st
 item:=by
  intro X hP hw hK hc i gj s σ H E I hf st hg;subst hP hw hK;clear 5(hf it (by simp))f0 f1 f2 f3 f4 f5;have W:=Walks.range (prog:=X.prog) (w:=X.w) (I.ok.hd hc) it lo 1 n;refine W.item i s _ _ hg st λv h' tk hv st' kk=>?_;clear 5 hv t rfl;have I1:Inv X gj σ H {s with heap:=h',toks:=tk}:=I.turned (λb o hb e=>kk b o (by simpa using hb) e) f0 f1 f3 f4 f5;refine⟨_,rfl,KJ (s:={s with heap:=h',toks:=tk}) (n:="range_iterator") st' rfl rfl (by decide) ⟨.int (lo+i),H,I1,⟨t,?_⟩,⟨rfl,rfl⟩,st',λb hb=>(hf b hb).1⟩⟩;rw[Int.mul_one]
 done:=by
  intro X hP hw hK hc i gj s σ H E I hf st hg;subst hP hw hK;clear 5(hf it (by simp))f0 f1 f2 f3 f4 f5;exact wpAny_pyNext_range_end (I.ok.hd hc) st (by have:n<=i:=hg;lia) λh' eb=>⟨rfl,I.turned (t':=s.toks) (λb o hb e=>eb b o hb e) f0 f1 f3 f4 f5⟩
 self:=λ_ _ _ _ _ st h=>wpAny_pyIter_rangeiter st h
variable{fp:List gm}
section
variable{X:Cx}{tg:Expr}
theorem N2{R:It->Hp->Prop}{lo hi:Int}{t u v:Tok}{tk:Nat}(I:Inv X gj σ H s)(h1 : -(2 ^ 62)<=lo)(h2:lo<2 ^ 62)(h3 : -(2 ^ 62)<=hi)(h4:hi<2 ^ 62)
 (q:R (Itr lo (hi-lo).toNat) H):wpAny (model X.prog X.w) X.A (pyIter (.ref s.heap.objs.size)) (PIE X gj σ tg R) E {s with heap:=s.heap.push {cls:=.type "range",data:=.fields #[.int lo t,.int hi u,.int 1 v]},toks:=tk}:=by
 refine wpAny_pyIter_range (IsRange.new ..) (small_one h1 h2 h3 h4) ?_;have I1:Inv X gj σ H {s with heap:=s.heap.push {cls:=.type "range",data:=.fields #[.int lo t,.int hi u,.int 1 v]},toks:=tk}:=I.kept λb o e=>ub8 _ e;refine⟨(s.heap.push {cls:=.type "range",data:=.fields #[.int lo t,.int hi u,.int 1 v]}).objs.size,[(s.heap.push {cls:=.type "range",data:=.fields #[.int lo t,.int hi u,.int 1 v]}).objs.size],_,_,H,rfl,
  I1.kept (t':=tk) λb o e=>ub8 _ e,Qv _ lo (hi-lo).toNat,?_,λb hb=>?_,q⟩
 .have e1:lo+((0:Nat):Int)*1=lo:=by simp
  have e2:(((hi-lo).toNat:Nat):Int)-((0:Nat):Int)=Builtin.Range.rangeSize lo hi 1:=by rw[rangeSize_one];split<;>lia
  show IsRangeIter _ _ (lo+((0:Nat):Int)*1) ((((hi-lo).toNat:Nat):Int)-((0:Nat):Int)) 1;rw[e1,e2];exact ud7 _ rfl
 .have e:b=(s.heap.push {cls:=.type "range",data:=.fields #[.int lo t,.int hi u,.int 1 v]}).objs.size:=by simpa using hb
  subst e;exact I1.fpOk (un4 _) (I1.hok.fresh (un4 _))
def bv(ta:TA):TI:=λσ H R=>ta σ H λvs H1=>∃j:Int,vs=[.int j]/\-(2 ^ 62)<=j/\j<2 ^ 62/\R (Itr 0 j.toNat) H1
def bw(ta:TA):TI:=λσ H R=>ta σ H λvs H1=>∃i j:Int,vs=[.int i,.int j]/\(-(2 ^ 62)<=i/\i<2 ^ 62/\-(2 ^ 62)<=j/\j<2 ^ 62)/\R (Itr i (j-i).toNat) H1
theorem Sf{a:Expr}{p pos:Pos}(hg:Gl X "range")(hm:X.mg "range" = none)(ha:PA X [a] ta)(hs:starEach [a] X.env=[(false,eval a X.env)]:=by rfl):PI X tg (.Call (.Name "range" p) [a] [] pos) (bv ta):=by
 intro gj s σ H R I h;refine Call_ (Fq I hg hm boot_range (ua4 (thn (ha pos gj s σ H _ I h) λus s1 z9=>?_) hs rfl));clear 5 z9 vs H1 I1 r1 q1;clear 5 q1 j e q1 q2 q;subst e
 cases r1 with
 |cons r rr=>
   cases rr
   clear 5 r t rfl;exact call_range_1 (N2 I1 (by lia) (by lia) q1 q2 (by simpa using q))
theorem Sg{a b:Expr}{p pos:Pos}(hg:Gl X "range")(hm:X.mg "range" = none)(ha:PA X [a,b] ta)(hs:starEach [a,b] X.env=[(false,eval a X.env),(false,eval b X.env)]:=by rfl)(hs2:starEach [b] X.env=[(false,eval b X.env)]:=by rfl) :
 PI X tg (.Call (.Name "range" p) [a,b] [] pos) (bw ta):=by
 intro gj s σ H R I h;refine Call_ (Fq I hg hm boot_range (ua4 (thn (ha pos gj s σ H _ I h) λus s1 z9=>?_) (by rw[hs,hs2]) (by rw[hs2];rfl)));clear 5 z9 vs H1 I1 r1 q1;obtain⟨i,j,e,⟨q1,q2,q3,q4⟩,q⟩:=q1;subst e
 cases r1 with
 |cons r rr=>
   cases rr with
   |cons r' rr=>
     cases rr
     clear 5 r t rfl;clear 5 r' t' rfl;exact call_range_2 (N2 I1 q1 q2 q3 q4 q)
def ap(wi:TI)(g:TG)(tb:TS):TS:=λD σ H=>wi σ H λJ H1=>∃W:Nat->Nat->St->Hp->Prop,(∃m,W 0 m σ H1)/\∀i m σ H,W i m σ H->
 (J.stop i H/\D.nx σ H)\/(J.go i H/\∃N:St->Hp->Prop,(∀σ' H',N σ' H'->∃m',m'<m/\W (i+1) m' σ' H')/\∀x H',J.yld i H x H'->g x σ H' λσ2 H2=>tb {D with nx:=N,ct:=N,bk:=D.nx} σ2 H2)
noncomputable def ID(fp:List gm)(h:Heap):List (gm×Obj):=fp.filterMap λb=>(h.get? b).map λo=>(b,o)
theorem FJ{o:Obj}(hb:b∈fp)(e:h.get? b=some o):(b,o)∈ID fp h:=List.mem_filterMap.mpr ⟨b,hb,by rw[e];rfl⟩
theorem R5{p:gm×Obj}(hp:p∈ID fp h):p.1∈fp/\h.get? p.1=some p.2:=by
 clear 5(List.mem_filterMap.mp hp)b hb e
 cases q:h.get? b with
 |none=>rw[q] at e;cases e
 |some o=>
   rw[q] at e;have e':(b,o)=p:=ui3 e;subst e';exact⟨hb,q⟩
theorem Inv.pinned(I:Inv X gj σ H s)(hf:∀b∈fp,FpOk X gj H b)(ho:∀b∈fp,∃o,s.heap.get? b=some o/\∀v,o.data≠.cell v):Inv X (gj++ID fp s.heap) σ H s:=
 I.pins_of λp hp=>(ui2.mp hp).elim (λz=>I.pin p (uc5 _ z)) λz=>by
  clear 5(R5 z)hb e;obtain⟨f0,f1,f2,_⟩:=hf p.1 hb;clear 5(ho p.1 hb)o e' d;rw[e] at e';cases e'
  exact⟨e,f0,f1,f2,d⟩
theorem Inv.unpinned{pl:List (gm×Obj)}(I:Inv X (gj++pl) σ H s):Inv X gj σ H s:=I.pins_of λp hp=>I.pin p (uc5 _ (List.mem_append_left _ hp))
theorem ZP{iter:Expr}{body:List Stmt}{wi:TI}{g:TG}{tb:TS}{pos:Pos}(hp:PassesOwn (model X.prog X.w) X.A X.env X.xe)(hc:X.calm=true)(hi:PI X tg iter wi)(hg:PG X tg g)(hb:PSs X body tb)
 (hs:∀x,foldedSetIterable iter X.env x=pure x:=by intro _;rfl):PS X (.For tg iter body [] pos) (ap wi g tb):=by
 intro gj s σ H D I h;refine wpAny_For (thn (hi gj s σ H _ I h) λv s1 h1=>thn h1 λitv s2 h2=>?_) hs;obtain⟨it,fp,tn,J,H2,e,I2,T,st2,f2,W,⟨m0,w0⟩,turn⟩:=h2;subst e
 -- what stays true of the iterator's objects through the loop
 have stat:∀{H':Hp},(∀b∈fp,H' b=none)->∀b∈fp,FpOk X gj H' b:=λhn b hb=>⟨hn b hb,(f2 b hb).2⟩;refine codeAny_forLoop_any (λn s'=>∃i σ' H',Inv X gj σ' H' s'/\tn i s'.heap/\(∀b∈fp,H' b=none)/\W i n σ' H') ?_ m0 ⟨0,σ,H2,I2,st2,λb hb=>(f2 b hb).1,w0⟩;rintro n s3 ⟨i,σ3,H3,I3,st3,fr3,w3⟩;rcases turn i n σ3 H3 w3 with⟨stop,qn⟩|⟨go,N,hN,step⟩
 .refine ju hp (thn (T.done X rfl rfl rfl hc i gj s3 σ3 H3 X.xe I3 (stat fr3) st3 stop) λr s4 z9=>?_);clear 5 z9 hr I4;subst hr;exact jt ⟨σ3,H3,I4,qn⟩
 .refine ju hp (thn (T.item X rfl rfl rfl hc i gj s3 σ3 H3 X.xe I3 (stat fr3) st3 go) λr s4 z9=>?_);clear 5 z9 u hr h4;subst hr;refine ju hp (thn h4 λ_ s5 z9=>?_);clear 5 z9 x H5 I5 r5 y5 st5 fr5;have I5':=I5.pinned (stat fr5) (T.obj _ _ st5);refine ju hp (thn (hg _ s5 σ3 H5 x u _ I5' r5 (step x H5 y5)) λ_ s6 z9=>?_);clear 5 z9 σ6 H6 I6 q6;refine ju hp (thn (hb _ s6 σ6 H6 _ I6 q6) λf s7 q7=>?_);have again:∀{σ7:St}{H7:Hp},Inv X (gj++ID fp s5.heap) σ7 H7 s7->N σ7 H7->∃m,m<n/\∃i σ' H',Inv X gj σ' H' s7/\tn i s7.heap/\(∀b∈fp,H' b=none)/\W i m σ' H':=λ{σ7 H7} I7 n7=>by
   clear 5(hN σ7 H7 n7)m' hm w7;refine⟨m',hm,i+1,σ7,H7,I7.unpinned,T.keep _ _ _ st5 λb hb o e=>(I7.pin (b,o) (uc5 _ (uc5 _ (FJ hb e)))).1,λb hb=>?_,w7⟩;clear 5(T.obj _ _ st5 b hb)o e d;exact(I7.pin (b,o) (uc5 _ (uc5 _ (FJ hb e)))).2.1
  cases f with
  |next=>clear 5 q7 σ7 H7 I7 n7;exact again I7 n7
  |cont=>clear 5 q7 σ7 H7 I7 n7;exact again I7 n7
  |brk=>clear 5 q7 σ7 H7 I7 q7;exact⟨σ7,H7,I7.unpinned,q7⟩
  |ret v=>clear 5 q7 x7 σ7 H7 I7 r7 q7;exact⟨x7,σ7,H7,I7.unpinned,r7,q7⟩
end
abbrev R2:=V->V->Hp->VK->Prop
def OpR(X:Cx)(f:gk->gk->Sem gk)(r:R2):Prop:=
 ∀(gj:List (gm×Obj)) (s:gn) (σ:St) (H:Hp) (x y:V) (v u:gk) (Q:VK),Inv X gj σ H s->RelV x v->RelV y u->r x y H Q->
  wpAny (model X.prog X.w) X.A (f v u) (EP X gj σ Q) X.xe s
def UnR(X:Cx)(f:gk->Sem gk)(r:V->Hp->VK->Prop):Prop:=
 ∀(gj:List (gm×Obj)) (s:gn) (σ:St) (H:Hp) (x:V) (v:gk) (Q:VK),Inv X gj σ H s->RelV x v->r x H Q->
  wpAny (model X.prog X.w) X.A (f v) (EP X gj σ Q) X.xe s
def CA(X:Cx)(f:gk)(r:List V->Hp->VK->Prop):Prop:=
 ∀(gj:List (gm×Obj)) (s:gn) (σ:St) (H:Hp) (xs:List V) (us:List gk) (Q:VK),Inv X gj σ H s->Vals xs us->r xs H Q->
  wpAny (model X.prog X.w) X.A (call f us) (EP X gj σ Q) X.xe s
def tOp(r:R2)(ta tb:TE):TE:=λσ H Q=>ta σ H λx H1=>tb σ H1 λy H2=>r x y H2 Q
def tUn(r:V->Hp->VK->Prop)(ta:TE):TE:=λσ H Q=>ta σ H λx H1=>r x H1 Q
def rI(C:Int->Int->Prop)(g:Int->Int->V):R2:=λx y H Q=>∃i j,x=.int i/\y=.int j/\C i j/\Q (g i j) H
def rI0(g:Int->Int->V):R2:=λx y H Q=>∃i j,x=.int i/\y=.int j/\Q (g i j) H
def rU(g:Int->V):V->Hp->VK->Prop:=λx H Q=>∃i,x=.int i/\Q (g i) H
variable{r:R2}{f:gk->gk->Sem gk}
section
variable{X:Cx}{a b c:Expr}{ta tb tc:TE}{pos:Pos}
theorem Th(ha:PE X a ta)(hb:PE X b tb){gj:List (gm×Obj)}{s:gn}{σ:St}{H:Hp}{R:V->V->Hp->Prop}(I:Inv X gj σ H s)
 (h:ta σ H λx H1=>tb σ H1 λy H2=>R x y H2){Q:gk->gn->Prop}{f:gk->gk->Sem gk}
 (hf:∀v u s2 x y H2,Inv X gj σ H2 s2->RelV x v->RelV y u->R x y H2->wpAny (model X.prog X.w) X.A (f v u) Q X.xe s2) :
 wpAny (model X.prog X.w) X.A (eval a X.env) (λv s₁=>wpAny (model X.prog X.w) X.A (eval b X.env) (λu s₂=>wpAny (model X.prog X.w) X.A (f v u) Q X.xe s₂) X.xe s₁) X.xe s:=by
 refine thn (ha gj s σ H _ I h) λv s1 z9=>?_;clear 5 z9 x H1 I1 r1 q1;refine thn (hb gj s1 σ H1 _ I1 q1) λu s2 z9=>?_;clear 5 z9 y H2 I2 r2 q2;exact hf v u s2 x y H2 I2 r1 r2 q2
theorem Qg{op:Operator}(ho:OpR X (binaryOp op) r)(ha:PE X a ta)(hb:PE X b tb):PE X (.BinOp a op b pos) (tOp r ta tb):=by
 intro gj s σ H Q I h;exact wpAny_BinOp (Th ha hb I h λv u s2 x y H2 I2 rx ry q=>ho gj s2 σ H2 x y v u Q I2 rx ry q)
theorem bJ{op:UnaryOp}{r:V->Hp->VK->Prop}(ho:UnR X (unaryOp op) r)(ha:PE X a ta):PE X (.UnaryOp op a pos) (tUn r ta):=by
 intro gj s σ H Q I h;exact UnaryOp_ (thn (ha gj s σ H _ I h) λv s1 z9=>by clear 5 z9 x H1 I1 r1 q1;exact ho gj s1 σ H1 x v Q I1 r1 q1)
theorem opI{C:Int->Int->Prop}{g:Int->Int->Int}
 (rule:∀(i j:Int) (t u:Tok) (s:gn) (Q:gk->gn->Prop) (E:gk->gn->Prop),C i j->Q (.int (g i j) s.toks) {s with toks:=s.toks+1}->wpAny (model X.prog X.w) X.A (f (.int i t) (.int j u)) Q E s) :
 OpR X f (rI C λi j=>.int (g i j)):=by
 intro gj s σ H x y v u Q I rx ry h;clear 5 h i j rfl rfl hc q;clear 5 rx t rfl;clear 5 ry t' rfl;exact rule i j t t' s _ _ hc ⟨.int (g i j),H,I.tok _,⟨_,rfl⟩,q⟩
theorem Zt{g:Int->Int->Int}
 (rule:∀(i j:Int) (t u:Tok) (s:gn) (Q:gk->gn->Prop) (E:gk->gn->Prop),Q (.int (g i j) s.toks) {s with toks:=s.toks+1}->wpAny (model X.prog X.w) X.A (f (.int i t) (.int j u)) Q E s) :
 OpR X f (rI0 λi j=>.int (g i j)):=by
 intro gj s σ H x y v u Q I rx ry h;clear 5 h i j rfl rfl q;clear 5 rx t rfl;clear 5 ry t' rfl;exact rule i j t t' s _ _ ⟨.int (g i j),H,I.tok _,⟨_,rfl⟩,q⟩
theorem Qd{g:Int->Int->Bool}
 (rule:∀(i j:Int) (t u:Tok) (s:gn) (Q:gk->gn->Prop) (E:gk->gn->Prop),Q (.bool (g i j)) s->wpAny (model X.prog X.w) X.A (f (.int i t) (.int j u)) Q E s) :
 OpR X f (rI0 λi j=>.bl (g i j)):=by
 intro gj s σ H x y v u Q I rx ry h;clear 5 h i j rfl rfl q;clear 5 rx t rfl;clear 5 ry t' rfl;exact rule i j t t' s _ _ ⟨.bl (g i j),H,I,rfl,q⟩
def Yh(i j:Int):Prop:=0<j/\j<1073741824
def CMul(i j:Int):Prop:=(-(2 ^ 64)<i/\i<2 ^ 64)\/(-(2 ^ 64)<j/\j<2 ^ 64)
theorem CMul.ok{i j:Int}(h:CMul i j):IntMulOk i j:=by
 rcases h with⟨h1,h2⟩|⟨h1,h2⟩
 .exact .of_left (intBits_le_64 h1 h2)
 .exact .of_right (intBits_le_64 h1 h2)
theorem two_pow_nn(k:Nat):(0:Int)<=2 ^ k:=by
 rw[two_pow_cast];exact Int.natCast_nonneg _
theorem op_add:OpR X (binaryOp .Add) (rI0 λi j=>.int (i+j)):=Zt λ_ _ _ _ _ _ _ q=>add_int q
theorem Zz:OpR X (binaryOp .Sub) (rI0 λi j=>.int (i-j)):=Zt λ_ _ _ _ _ _ _ q=>sub_int q
theorem Zx:OpR X (binaryOp .Mult) (rI CMul λi j=>.int (i*j)):=opI λ_ _ _ _ _ _ _ hc q=>mul_int q hc.ok
theorem WT:OpR X (binaryOp .FloorDiv) (rI Yh λi j=>.int (i/j)):=opI λi j _ _ _ _ _ hc q=>by
 have h1:(0:Int)<j:=hc.1;have h2:j<1073741824:=hc.2;exact floordiv_int (by lia) (by rw[ib i (by lia)];exact q) (.inl (iZ (by lia)))
theorem Zw:OpR X (binaryOp .Mod) (rI (λ_ j=>0<j) λi j=>.int (i%j)):=opI λi j _ _ _ _ _ hc q=>by
 have h1:(0:Int)<j:=hc;exact mod_int' (by lia) (by rw[Int.fmod_eq_emod_of_nonneg i (by lia)];exact q)
theorem Zy:OpR X (binaryOp .RShift) (rI (λ_ j=>0<=j) λi j=>.int (i/2 ^ j.toNat)):=opI λi j _ _ _ _ _ hc q=>
 rshift_int hc (by rw[ib i (two_pow_nn _)];exact q)
theorem unI{f:gk->Sem gk}{g:Int->Int}
 (rule:∀(i:Int) (t:Tok) (s:gn) (Q:gk->gn->Prop) (E:gk->gn->Prop),Q (.int (g i) s.toks) {s with toks:=s.toks+1}->wpAny (model X.prog X.w) X.A (f (.int i t)) Q E s) :
 UnR X f (rU λi=>.int (g i)):=by
 intro gj s σ H x v Q I rx h;clear 5 h i rfl q;clear 5 rx t rfl;exact rule i t s _ _ ⟨.int (g i),H,I.tok _,⟨_,rfl⟩,q⟩
theorem ax:UnR X (unaryOp .USub) (rU λi=>.int (-i)):=unI λ_ _ _ _ _ q=>neg_int q
end
variable{r':R2}{op:CmpOp}{us:List gk}
section
variable{X:Cx}{a b c:Expr}{ta tb tc:TE}{pos:Pos}
theorem op_lt:OpR X (compareOp .Lt) (rI0 λi j=>.bl (decide (i<j))):=Qd λ_ _ _ _ _ _ _ q=>lt_int q
theorem op_le:OpR X (compareOp .LtE) (rI0 λi j=>.bl (decide (i<=j))):=Qd λ_ _ _ _ _ _ _ q=>le_int q
theorem op_gt:OpR X (compareOp .Gt) (rI0 λi j=>.bl (decide (j<i))):=Qd λ_ _ _ _ _ _ _ q=>gt_int q
theorem op_ge:OpR X (compareOp .GtE) (rI0 λi j=>.bl (decide (j<=i))):=Qd λ_ _ _ _ _ _ _ q=>ge_int q
theorem OpR.or(h:OpR X f r)(h':OpR X f r'):OpR X f (λx y H Q=>r x y H Q\/r' x y H Q):=by
 intro gj s σ H x y v u Q I rx ry q;rcases q with q|q
 .exact h gj s σ H x y v u Q I rx ry q
 .exact h' gj s σ H x y v u Q I rx ry q
theorem DK(b:Expr){op:CmpOp}(h:op≠.In:=by decide)(h2:op≠.NotIn:=by decide):behindInMarks op b=false:=by
 have e1:(op==CmpOp.In)=false:=by cases op<;>first|rfl|exact absurd rfl h
 have e2:(op==CmpOp.NotIn)=false:=by cases op<;>first|rfl|exact absurd rfl h2
 cases b<;>simp[behindInMarks,e1,e2]
theorem WZ(ho:OpR X (compareOp op) r)(ha:PE X a ta)(hb:PE X b tb)(hm:behindInMarks op b=false):PE X (.Compare a [op] [b] pos) (tOp r ta tb):=by
 intro gj s σ H Q I h;exact wpAny_Compare1 (Th ha hb I h λv u s2 x y H2 I2 rx ry q=>ho gj s2 σ H2 x y v u Q I2 rx ry q) hm
def VA(t:TE):TT:=λσ H Q=>t σ H λx H'=>∃k,x=.bl k/\Q k H'
theorem Xe(ho:OpR X (compareOp op) r)(ha:PE X a ta)(hb:PE X b tb)(hm:behindInMarks op b=false):PT X (.Compare a [op] [b] pos) (VA (tOp r ta tb)):=by
 intro gj s σ H Q I h;refine wpAny_isTrue_Compare1 (thn (ha gj s σ H _ I h) λv s1 ⟨x,H1,I1,r1,q1⟩=>thn (hb gj s1 σ H1 _ I1 q1) λu s2 ⟨y,H2,I2,r2,q2⟩=>
  thn (ho gj s2 σ H2 x y v u _ I2 r1 r2 q2) λc s3 ⟨z,H3,I3,r3,k,e,q3⟩=>?_) hm
 subst e
 cases r3
 exact jo ⟨H3,I3,q3⟩
def Oj(r r':R2)(ta tb tc:TE):TE:=λσ H Q=>ta σ H λx H1=>tb σ H1 λy H2=>r x y H2 λz H3=>∃k,z=.bl k/\
 (if k=true then tc σ H3 λw' H4=>r' y w' H4 Q else Q (.bl false) H3)
theorem Uw{op':CmpOp}(ho:OpR X (compareOp op) r)(ho':OpR X (compareOp op') r')(ha:PE X a ta)(hb:PE X b tb)(hc:PE X c tc)
 (hm:lastMarks [op,op'] [b,c]=false:=by with_unfolding_all rfl):PE X (.Compare a [op,op'] [b,c] pos) (Oj r r' ta tb tc):=by
 intro gj s σ H Q I h;refine Compare_chain (thn (ha gj s σ H _ I h) λv s1 ⟨x,H1,I1,r1,q1⟩=>chain_link (thn (hb gj s1 σ H1 _ I1 q1) λu s2 ⟨y,H2,I2,r2,q2⟩=>
  thn (ho gj s2 σ H2 x y v u _ I2 r1 r2 q2) λd s3 ⟨z,H3,I3,r3,k,e,q3⟩=>?_)) hm
 subst e
 cases r3
 refine jo ?_
 cases k with
 |false=>exact ite_ff ⟨.bl false,H3,I3,rfl,q3⟩
 |true=>exact ite_tt (chain_last (thn (hc gj s3 σ H3 _ I3 q3) λw' s4 z9=>by clear 5 z9 z' H4 I4 r4 q4;exact ho' gj s4 σ H4 y z' u w' Q I4 r2 r4 q4))
theorem UH{op':CmpOp}(ho:OpR X (compareOp op) r)(ho':OpR X (compareOp op') r')(ha:PE X a ta)(hb:PE X b tb)(hc:PE X c tc)
 (hm:lastMarks [op,op'] [b,c]=false:=by with_unfolding_all rfl):PT X (.Compare a [op,op'] [b,c] pos) (VA (Oj r r' ta tb tc)):=by
 intro gj s σ H Q I h;refine isTrue_chain (thn (ha gj s σ H _ I h) λv s1 ⟨x,H1,I1,r1,q1⟩=>test_link (thn (hb gj s1 σ H1 _ I1 q1) λu s2 ⟨y,H2,I2,r2,q2⟩=>
  thn (ho gj s2 σ H2 x y v u _ I2 r1 r2 q2) λd s3 ⟨z,H3,I3,r3,k,e,q3⟩=>?_)) hm
 subst e
 cases r3
 refine jo ?_
 cases k with
 |false=>
   clear 5 q3 k' e' q'
   cases e'
   exact ite_ff ⟨H3,I3,q'⟩
 |true=>
   refine ite_tt (test_last (thn (hc gj s3 σ H3 _ I3 q3) λw' s4 ⟨z',H4,I4,r4,q4⟩=>thn (ho' gj s4 σ H4 y z' u w' _ I4 r2 r4 q4) λd' s5 z9=>?_));clear 5 z9 z2 H5 I5 r5 k2 e2 q5;subst e2
   cases r5
   exact jo ⟨H5,I5,q5⟩
theorem KP:(sizeLine:Nat)<2 ^ 63:=by rw[jN];decide
theorem op_add_str:OpR X (binaryOp .Add) (λx y H Q=>∃i j,x=.str i/\y=.str j/\i.length+j.length<=sizeLine/\Q (.str (i++j)) H):=by
 intro gj s σ H x y v u Q I rx ry h;clear 5 h i j rfl rfl hz q;clear 5 rx t rfl;clear 5 ry t' rfl;exact add_str (λt' tk=>⟨.str (i++j),H,I.tok _,⟨_,rfl⟩,q⟩) hz
theorem FN{x:V}(r:Vals [x] us):∃u,us=[u]/\RelV x u:=by
 cases r with
 |cons r1 r2=>cases r2;exact⟨_,rfl,r1⟩
theorem Qx{x y:V}(r:Vals [x,y] us):∃u w',us=[u,w']/\RelV x u/\RelV y w':=by
 cases r with
 |cons r1 r2=>
   cases r2 with
   |cons r3 r4=>cases r4;exact⟨_,_,rfl,r1,r3⟩
theorem QT(hc:X.calm=true):CA X (.builtin "max") (λxs H Q=>∃i j,xs=[.int i,.int j]/\Q (.int (if j > i then j else i)) H):=by
 intro gj s σ H xs us Q I r h;clear 5 h i j rfl q;obtain⟨u,w',rfl,⟨t,rfl⟩,⟨t',rfl⟩⟩:=Qx r;refine max_two_ints (I.ok.hd hc) λh' tk k=>⟨_,H,I.kept k,?_,q⟩
 by_cases hj:j > i
 .rw[jY hj,jY hj];exact⟨_,rfl⟩
 .rw[jZ hj,jZ hj];exact⟨_,rfl⟩
theorem QU(hc:X.calm=true):CA X (.builtin "min") (λxs H Q=>∃i j,xs=[.int i,.int j]/\Q (.int (if j<i then j else i)) H):=by
 intro gj s σ H xs us Q I r h;clear 5 h i j rfl q;obtain⟨u,w',rfl,⟨t,rfl⟩,⟨t',rfl⟩⟩:=Qx r;refine min_two_ints (I.ok.hd hc) λh' tk k=>⟨_,H,I.kept k,?_,q⟩
 by_cases hj:j<i
 .rw[jY hj,jY hj];exact⟨_,rfl⟩
 .rw[jZ hj,jZ hj];exact⟨_,rfl⟩
theorem QS:CA X (.type "int") (λxs H Q=>(∃i,xs=[.int i]/\Q (.int i) H)\/∃k,xs=[.bl k]/\Q (.int (if k then 1 else 0)) H):=by
 intro gj s σ H xs us Q I r h;rcases h with⟨i,rfl,q⟩|⟨k,rfl,q⟩
 .clear 5(FN r)u rfl t rfl;exact call_int_int ⟨.int i,H,I,⟨_,rfl⟩,q⟩
 .obtain⟨u,rfl,r1⟩:=FN r
  cases r1
  exact call_int_bool ⟨.int (if k then 1 else 0),H,I.tok _,⟨_,rfl⟩,q⟩
theorem Tm:CA X (.builtin "ord") (λxs H Q=>∃x,xs=[.str x]/\x.length=1/\Q (.int (x.cps.getD 0 0:Nat)) H):=by
 intro gj s σ H xs us Q I r h;clear 5 h x rfl hz q;clear 5(FN r)u rfl t rfl;exact ord_of_one hz ⟨.int _,H,I.tok _,⟨_,rfl⟩,q⟩
def Yj(K:gi)(x:V)(H:Hp)(n:Nat):Prop:=
 match x with
 |.str y=>y.length<=sizeLine/\n=y.length
 |.byt y=>y.size<=sizeLine/\n=y.size
 |.ref p=>(∃xs,SqL K H p xs/\n=xs.length)\/∃xs,SqT K H p xs/\n=xs.length
 |_=>False
theorem Tl:CA X (.builtin "len") (λxs H Q=>∃x n,xs=[x]/\Yj X.K x H n/\Q (.int n) H):=by
 intro gj s σ H xs us Q I r h;clear 5 h x n rfl e q;clear 5(FN r)u rfl rx;have hl:=KP;have hs:sizeLine=16777216:=jN
 cases x with
 |str y=>
   clear 5 rx t rfl;obtain⟨hy,e'⟩:y.length<=sizeLine/\n=y.length:=e;subst e';exact len_str (by lia) ⟨.int _,H,I.tok _,⟨_,rfl⟩,q⟩
 |byt y=>
   clear 5 rx t rfl;obtain⟨hy,e'⟩:y.size<=sizeLine/\n=y.size:=e;subst e';exact PySem.W.len_bytes (by lia) ⟨.int _,H,I.tok _,⟨_,rfl⟩,q⟩
 |ref p=>
   cases rx
   have e':(∃xs,SqL X.K H p xs/\n=xs.length)\/∃xs,SqT X.K H p xs/\n=xs.length:=e;rcases e' with⟨xs,hx,e'⟩|⟨xs,hx,e'⟩
   .subst e';clear 5(I.list hx)its r' pl hz;have hlen:=r'.length;exact Calls.call_len_list pl.isList (by simp only[uf4];lia) ⟨.int xs.length,H,I.tok _,⟨_,by simp only[uf4];rw[hlen]⟩,q⟩
   .subst e';clear 5(I.tuple hx)its r' pl hz;have hlen:=r'.length;exact len_tuple pl (by simp only[uf4];lia) ⟨.int xs.length,H,I.tok _,⟨_,by simp only[uf4];rw[hlen]⟩,q⟩
 |_=>exact(show False from e).elim
end
structure ObjM(h:Heap)(x dx C:gm)(mA:Str->Option gk):Prop where
 obj:h.get? x=some (PySem.W.instObj C dx)
 ns:h.Ns1 dx mA
 ne:dx≠x
theorem Mj{dx:gm}{mA:Str->Option gk}(n:h.Ns1 dx mA):∃od,h.get? dx=some od/\∀name,PySem.W.lookIn name od=some (mA name):=by
 obtain⟨o,es,ep,ho,hd,hk,_,hm⟩:=n;refine⟨o,ho,λname=>?_⟩;have e:=hm name;unfold nsFind findBy at e;rw[<-ue6] at e;unfold PySem.W.lookIn;rw[hd];dsimp only
 split
 .rename_i y q;rw[q] at e;exact jT some e
 .rename_i q;rw[q] at e;have a:es.toList.any (·.refKey)=false:=by
   rw[List.any_eq_false];intro y hy;clear 5(hk y (Array.mem_toList_iff.mp hy))z t hkey;simp[DictEntry.refKey,hkey]
  have a':¬es.toList.any (·.refKey)=true:=by rw[a];exact ue5
  rw[jZ a'];exact jT some e
variable{C:gm}
theorem ObjM.look{x dx:gm}{mA:Str->Option gk}(I:ObjM h x dx C mA):∃od,PySem.W.InstAt h x (PySem.W.instObj C dx) C (some od)/\∀name,PySem.W.lookIn name od=some (mA name):=
 let ⟨od,ho,hl⟩:=Mj I.ns
 ⟨od,⟨I.obj,rfl,rfl,ho⟩,hl⟩
variable{pl:Sem Bool}{kw:List (Str×gk)}
section
variable{prog:gq}{w:gu}{A:Around}{E:gk->gn->Prop}{s:gn}{K:gi}{x dx C f:gm}{mA:Str->Option gk}{name:Str}{v:gk}
theorem Ws{expr:Bool}{Q:gk->gn->Prop}(X:K.In s.heap)(I:ObjM s.heap x dx C mA)(hg:PySem.W.plainGet K C name=true)(hh:PySem.W.hasDictIn K C=true)
 (ha:PySem.W.findIn K (.ref C) name=some none) (hv:mA name=some v) (hv':PySem.W.handedIn v=true) (h:Q v {s with toks:=s.toks+1}) :
 wpAny (model prog w) A (getAttr (.ref x) name expr) Q E s:=by
 clear 5 I.look od J hl;exact PySem.W.get_value X J (ud8 hg).1 (PySem.W.findObj_own hh ha rfl (by rw[hl,hv])) hv' h
theorem T4{Q:gk×List gk->gn->Prop}(X:K.In s.heap)(I:ObjM s.heap x dx C mA)(hg:PySem.W.plainGet K C name=true)
 (hf:PySem.W.findIn K (.ref C) name=some (some (.ref f))) (ht:PySem.W.isFn K (.ref f)=true) (hv:mA name=none) (h:Q (.ref f,[.ref x]) s) :
 wpAny (model prog w) A (getMethod (.ref x) name pl) Q E s:=by
 clear 5 I.look od J hl;exact PySem.W.method_fn X J (ud8 hg).1 (ud8 hg).2 hf (jP.mp ht) (by show(PySem.W.lookIn name od).map (·.isSome)=some false;rw[hl,hv];rfl) h
theorem XN{ns:List Str}(X:K.In s.heap)(I:ObjM s.heap x dx C mA)
 (hs:PySem.W.findIn K (.ref C) "__setattr__" = some (some (.builtin "object.__setattr__"))) (hp:PySem.W.plainOver K C=true) (ht:PySem.W.takerIn K C name=some none) (hh:PySem.W.hasDictIn K C=true)
 (hw:PySem.Within mA ns) (hsz:ns.length<=sizeLine)
 (h:∀h',ObjM h' x dx C (λy=>if y=name then some v else mA y)->Heap.SameBut dx s.heap h'->Q () {s with heap:=h',toks:=s.toks+2}) :
 wpAny (model prog w) A (setAttr (.ref x) name v) Q E s:=by
 clear 5 I.look od J hl;refine PySem.W.set_plain X J hs (PySem.W.osa_open (s:={s with toks:=s.toks+1}) (r:=none) X J hp ht λb=>?_);clear 5(PySem.W.any_some hh)cd hc hd';have hx:s.heap.get? x=some ⟨.ref C,some dx,.plain,#[]⟩:=I.obj;refine un8 (un9 (un8 (un8 (wpAny_loadPart hx (un8 (PySem.W.Looks.here (s:={s with toks:=s.toks+1}) (PySem.W.looks_clsIn X hc) ?_))))));rw[hd'];refine un9 (a:=some dx) (un8 (un9 (un8 ?_)));refine wpAny_nsSet1 (s:={s with toks:=s.toks+1}) I.ns λh' hn2 hs2=>?_;clear 5(hn2.count (PySem.Within.cons name v hw))oD esD epD hoD hdD hcD;refine un8 (wpAny_lookBehind hoD (by rw[hdD];exact pastItsLine_dict (um4 hcD (by rw[ug7];lia))) ?_);exact un9 (h _ ⟨(hs2.2 _ (Ne.symm I.ne)).trans I.obj,hn2,I.ne⟩ hs2)
theorem Uk{R:Result->gn->Prop}{vs:List gk}(X:K.In s.heap)(hm:PySem.W.makesIn K C=true)
 (hi:PySem.W.findIn K (.ref C) "__init__" = some (some (.ref f))) (hf:PySem.W.typeIn K (.ref f)=some (.type "function"))
 (h:codeAny (model prog w) (A.under (.builtin "type.__call__" ⟨.ref C :: vs,kw⟩)) (.call (.ref f) ⟨.ref (s.heap.objs.size + 1) :: vs,kw⟩) (PySem.W.InitBack (s.heap.objs.size + 1) R)
   {s with heap:=(s.heap.push PySem.W.emptyDict).push (PySem.W.instObj C s.heap.objs.size)}) :
 codeAny (model prog w) A (.call (.ref C) ⟨vs,kw⟩) R s:=by
 clear 5 s hh g d t os;exact PySem.W.make_core (PySem.W.makes_of X hm) (PySem.W.looks_findIn X hi) (λself=>PySem.W.bind_fn X self hf) (.inl rfl) h
end
noncomputable def Dd(f:Str)(v:V):List (Str×V)->List (Str×V)
 |[]=>[(f,v)]
 |(g,x)::r=>if g=f then(g,v)::r else(g,x)::Dd f v r
theorem Jv(f g:Str)(v:V):∀fs:List (Str×V),(Dd f v fs).lookup g=if g=f then some v else fs.lookup g
 |[]=>by
   show List.lookup g [(f,v)]=_
   by_cases h:g=f
   .have hb:(g==f)=true:=jP.mpr h;simp only[List.lookup,hb,jY h]
   .have hb:(g==f)=false:=ji.mpr h;simp only[List.lookup,hb,jZ h]
 |(k,x)::r=>by
   have ih:=Jv f g v r;rw[show Dd f v ((k,x)::r)=(if k=f then(k,v)::r else(k,x)::Dd f v r) from rfl]
   by_cases hk:k=f
   .rw[jY hk]
    by_cases h:g=k
    .have hb:(g==k)=true:=jP.mpr h;simp only[List.lookup,hb,jY (h.trans hk)]
    .have hb:(g==k)=false:=ji.mpr h;simp only[List.lookup,hb,jZ (λe:g=f=>h (e.trans hk.symm))]
   .rw[jZ hk]
    by_cases h:g=k
    .have hb:(g==k)=true:=jP.mpr h;simp only[List.lookup,hb,jZ (λe:g=f=>hk (h.symm.trans e))]
    .have hb:(g==k)=false:=ji.mpr h;simp only[List.lookup,hb];exact ih
theorem Iq(f:Str)(v:V):∀fs:List (Str×V),f∈(Dd f v fs).map (·.1)/\∀g,g∈fs.map (·.1)->g∈(Dd f v fs).map (·.1)
 |[]=>⟨by simp[Dd],λg h=>by simp at h⟩
 |(k,x)::r=>by
   clear 5(Iq f v r)i1 i2;rw[show Dd f v ((k,x)::r)=(if k=f then(k,v)::r else(k,x)::Dd f v r) from rfl]
   by_cases hk:k=f
   .rw[jY hk];subst hk;exact⟨by simp,λg h=>by simpa using h⟩
   .rw[jZ hk];refine⟨?_,λg h=>?_⟩
    .rw[ul0];exact ud2 _ i1
    .rw[ul0] at h⊢;rcases uk9.mp h with e|e
     .exact uk9.mpr (.inl e)
     .exact ud2 _ (i2 g e)
theorem Js(f:Str)(v:V):∀fs:List (Str×V),(Dd f v fs).length<=fs.length+1
 |[]=>by simp[Dd]
 |(k,x)::r=>by
   have ih:=Js f v r;rw[show Dd f v ((k,x)::r)=(if k=f then(k,v)::r else(k,x)::Dd f v r) from rfl]
   by_cases hk:k=f
   .rw[jY hk,ug7,ug7];lia
   .rw[jZ hk,ug7,ug7];lia
theorem RelO.some_of{o:Option gk}(r:RelO (some v) o):∃u,o=some u/\RelV v u:=by
 cases o with
 |none=>exact(show False from r).elim
 |some u=>exact⟨u,rfl,r⟩
theorem RelO.none_of{o:Option gk}(r:RelO none o):o=none:=by
 cases o with
 |none=>rfl
 |some u=>exact(show False from r).elim
theorem Mh(r:RelV v u):PySem.W.handedIn u=true:=by
 cases v with
 |non=>cases (show u=Value.none from r);rfl
 |bl b=>cases (show u=Value.bool b from r);rfl
 |int i=>clear 5((show ∃t,u=Value.int i t from r))t e;cases e;rfl
 |str x=>clear 5((show ∃t,u=Value.str x t from r))t e;cases e;rfl
 |byt b=>clear 5((show ∃t,u=Value.bytes b t from r))t e;cases e;rfl
 |flt b=>clear 5((show ∃t,u=Value.float b t from r))t e;cases e;rfl
 |ref a=>cases (show u=Value.ref a from r);rfl
 |ty n=>cases (show u=Value.type n from r);rfl
section
variable{P:gq}{w:gu}{H H':Hp}{h h':Heap}{a C dx:gm}{fs fs':List (Str×V)}
theorem Ja(hok:HOk P w H h)(e:H a=some (.ins C dx fs)):∃mA,ObjM h a dx C mA/\(∀f,RelO (fs.lookup f) (mA f))/\PySem.Within mA (fs.map (·.1))/\fs.length<=1000/\H dx=some (.own a):=by
 clear 5((show ObjOk P w H h a (.ins C dx fs) from hok a _ e))d z ne ob mA n r q;exact⟨mA,⟨ob,n,ne⟩,r,q,z,d⟩
end
structure Cls(K:gi)(C:gm):Prop where
 pg:PySem.W.plainGet K C Str.empty=true
 hd:PySem.W.hasDictIn K C=true
 po:PySem.W.plainOver K C=true
 sa:PySem.W.findIn K (.ref C) "__setattr__" = some (some (.builtin "object.__setattr__"))
theorem Cls.get{K:gi}{C:gm}(c:Cls K C)(f:Str):PySem.W.plainGet K C f=true:=c.pg
def NoAttr(K:gi)(C:gm)(f:Str):Prop:=PySem.W.findIn K (.ref C) f=some none
theorem NoAttr.taker{f:Str}(n:NoAttr K C f):PySem.W.takerIn K C f=some none:=by
 unfold PySem.W.takerIn;rw[show PySem.W.findIn K (.ref C) f=some none from n];rfl
structure Con(K:gi)(C:gm)(f:Str)(v:V)(u:gk):Prop where
 at_:PySem.W.findIn K (.ref C) f=some (some u)
 rel:RelV v u
 get:PySem.W.specialIn K u "__get__" = some none
 cp:PySem.W.copiedNames.contains f=false
structure Meth(K:gi)(C:gm)(m:Str)(f:gm):Prop where
 at_:PySem.W.findIn K (.ref C) m=some (some (.ref f))
 fn:PySem.W.isFn K (.ref f)=true
 kp:PySem.W.keepIn K (.ref f)=true
section
variable{X:Cx}{gj:List (gm×Obj)}{σ:St}{H:Hp}{s:gn}{a C dx:gm}{fs:List (Str×V)}{f:Str}{v:V}{A:Around}{E:gk->gn->Prop}
theorem PY{b:Bool}{Q:gk->gn->Prop}(I:Inv X gj σ H s)(e:H a=some (.ins C dx fs))(c:Cls X.K C)(n:NoAttr X.K C f)(l:fs.lookup f=some v)
 (h:∀u s',Inv X gj σ H s'->RelV v u->Q u s'):wpAny (model X.prog X.w) A (getAttr (.ref a) f b) Q E s:=by
 obtain⟨mA,O,r,_,_,_⟩:=Ja I.hok e;clear 5(RelO.some_of (v:=v) (o:=mA f) (by rw[<-l];exact r f))u hu ru;exact Ws I.kIn O (c.get f) c.hd n hu (Mh ru) (h u _ (I.tok _) ru)
theorem KI{m:Str}{g:gm}{Q:gk×List gk->gn->Prop}(I:Inv X gj σ H s)(e:H a=some (.ins C dx fs))(c:Cls X.K C)(k:Meth X.K C m g)(l:fs.lookup m=none)
 (h:Q (.ref g,[.ref a]) s):wpAny (model X.prog X.w) A (getMethod (.ref a) m pl) Q E s:=by
 obtain⟨mA,O,r,_,_,_⟩:=Ja I.hok e;have hn:mA m=none:=RelO.none_of (by rw[<-l];exact r m);exact T4 I.kIn O (c.get m) k.at_ k.fn hn h
theorem Qq{y:V}(I:Inv X gj σ H s)(e:H a=some (.ins C dx fs))(c:Cls X.K C)(n:NoAttr X.K C f)(hl:fs.length<1000)(ry:RelV y u)
 (h:∀s',Inv X gj σ (upd H a (.ins C dx (Dd f y fs))) s'->Q () s'):wpAny (model X.prog X.w) A (setAttr (.ref a) f u) Q E s:=by
 obtain⟨mA,O,r,wi,_,ho⟩:=Ja I.hok e;have hz:(fs.map (·.1)).length<=sizeLine:=by rw[ui4,jN];lia
 refine XN I.kIn O c.sa c.po n.taker c.hd wi hz λh' O' sb=>h _ ?_;have hd:∃o,h'.get? dx=some o:=let ⟨o,_,_,e',_⟩:=O'.ns;⟨o,e'⟩;refine I.write (x:=a) (e:=dx) (by rw[e];exact True.intro) (.inr ho) (λb q hb z=>(sb.2 b hb).trans z) hd ?_;refine⟨by rw[Aq O.ne];exact ho,?_,O.ne,O'.obj,_,O'.ns,λg=>?_,λg hg=>?_⟩
 .have:=Js f y fs;lia
 .show RelO ((Dd f y fs).lookup g) (if g=f then some u else mA g);rw[Jv]
  by_cases q:g=f
  .rw[jY q,jY q];exact ry
  .rw[jZ q,jZ q];exact r g
 .by_cases q:g=f
  .rw[q];exact(Iq f y fs).1
  .refine(Iq f y fs).2 g (wi g λz=>hg ?_);show(if g=f then some u else mA g)=none;rw[jZ q];exact z
theorem Inv.made(I:Inv X gj σ H s):Inv X gj σ (upd (upd H s.heap.objs.size (.own (s.heap.objs.size+1))) (s.heap.objs.size+1) (.ins C s.heap.objs.size []))
 {s with heap:=(s.heap.push PySem.W.emptyDict).push (PySem.W.instObj C s.heap.objs.size)}:=by
 have e1:(s.heap.push PySem.W.emptyDict).get? s.heap.objs.size=some PySem.W.emptyDict:=ud7 s.heap rfl;have e2:((s.heap.push PySem.W.emptyDict).push (PySem.W.instObj C s.heap.objs.size)).get? (s.heap.objs.size+1)=some (PySem.W.instObj C s.heap.objs.size):=by
  have:=ud7 (s.heap.push PySem.W.emptyDict) (o:=PySem.W.instObj C s.heap.objs.size) rfl
  rwa [uk4] at this
 have e3:(s.heap.push PySem.W.emptyDict).Ns s.heap.objs.size (λ_=>none):=⟨PySem.W.emptyDict,#[],_,e1,rfl,(λe he=>absurd he (by simp)),λ_=>rfl⟩;have I1:=I.laid (a:=s.heap.objs.size) (o:=.own (s.heap.objs.size+1)) (h':=s.heap.push PySem.W.emptyDict) (t':=s.toks) (λb u q=>ub8 _ q) (un4 _) ⟨_,e1⟩;refine I1.laid (a:=s.heap.objs.size+1) (o:=.ins C s.heap.objs.size []) (t':=s.toks) (λb u q=>ub8 _ q) (jG (uk4 _ _)) ?_;have ne:s.heap.objs.size≠s.heap.objs.size+1:=um3 (ug8 _);refine⟨by rw[Aq ne,AC],un5 _,ne,e2,λ_=>none,(Heap.Ns1.of_empty e3).at λo q=>ub8 _ q,λ_=>True.intro,λy hy=>absurd rfl hy⟩
theorem OH{prog:gq}{env:Env}{f:Str}{pos:Pos}{s:gn}{Q:gk->gn->Prop}(hb:attributeBase e f env (eval e env)=eval e env)
 (h:wpAny (model prog w) A (eval e env) (λo s₁=>wpAny (model prog w) A (getAttr o f true) Q E s₁) E s):wpAny (model prog w) A (eval (.Attribute e f pos) env) Q E s:=
 Attribute_any_ h (by rw[arm_eval_Attribute,hb])
end
def d9(K:gi)(ta:TE)(f:Str):TE:=λσ H Q=>ta σ H λx H1=>∃a C dx fs v,x=.ref a/\H1 a=some (.ins C dx fs)/\Cls K C/\NoAttr K C f/\fs.lookup f=some v/\Q v H1
def d5(K:gi)(ta tv:TE)(f:Str):TS:=λD σ H=>tv σ H λy H1=>ta σ H1 λx H2=>∃a C dx fs,x=.ref a/\H2 a=some (.ins C dx fs)/\Cls K C/\NoAttr K C f/\fs.length<1000/\
 D.nx σ (upd H2 a (.ins C dx (Dd f y fs)))
section
variable{X:Cx}{o e value:Expr}{f:Str}{pos pos' tpos:Pos}{ta tv:TE}
theorem ZC(he:PE X e ta)(hb:attributeBase e f X.env (eval e X.env)=eval e X.env):PE X (.Attribute e f pos) (d9 X.K ta f):=by
 intro gj s σ H Q I h;refine OH hb (thn (he gj s σ H _ I h) λu s1 z9=>?_);clear 5 z9 x H1 I1 rx a C dx fs v ex ea c n l q;subst ex;obtain rfl:u=Value.ref a:=rx;exact PY I1 ea c n l λu' s2 I2 ru=>⟨v,H1,I2,ru,q⟩
theorem ZO(ha:PE X o ta)(hv:PE X value tv)(hs:swapsWith value (some (.Attribute o f pos')) pos.line X.env=pure false):PS X (.Assign [.Attribute o f pos'] value pos) (d5 X.K ta tv f):=by
 intro gj s σ H D I h;refine gz (thn (hv gj s σ H _ I h) λu s1 ⟨y,H1,I1,ry,q⟩=>thn (ha gj s1 σ H1 _ I1 q) λov s2 z9=>?_) hs;clear 5 z9 x H2 I2 rx a C dx fs ex ea c n l q2;subst ex;obtain rfl:ov=Value.ref a:=rx;exact Qq I2 ea c n l ry λs3 I3=>⟨σ,_,I3,q2⟩
end
section
variable{X:Cx}{gj:List (gm×Obj)}{σ:St}{H:Hp}{s:gn}{A:Around}{E:gk->gn->Prop}{Q:gk->gn->Prop}{c:gk}{b:Bool}
inductive TyOf(K:gi)(H:Hp):V->gk->Prop where
 |non:TyOf K H .non (.type "NoneType")
 |bl (x:Bool):TyOf K H (.bl x) (.type "bool")
 |int (i:Int):TyOf K H (.int i) (.type "int")
 |str (x:Str):TyOf K H (.str x) (.type "str")
 |flt (x:UInt64):TyOf K H (.flt x) (.type "float")
 |lst {a:gm}{xs:List V} (e:H a=some (.lst xs)):TyOf K H (.ref a) (.type "list")
 |frz {a:gm}{o:Obj}{xs:List V} (e:H a=some (.frz o (.lst xs))):TyOf K H (.ref a) (.type "list")
 |tup {a:gm}{xs:List V} (e:H a=some (.tup xs)):TyOf K H (.ref a) (.type "tuple")
 |dK {a:gm}{kvs:List (Key×V)} (e:H a=some (.dK kvs)):TyOf K H (.ref a) (.type "dict")
 |dT {a:gm}{kvs:List (List Key×V)} (e:H a=some (.dT kvs)):TyOf K H (.ref a) (.type "dict")
 | ins {a C dx:gm} {fs:List (Str×V)} (e:H a=some (.ins C dx fs)) (cl:Cls K C) (ha:PySem.W.findIn K (.ref C) "__class__" = some (some (.builtin "object.__class__")))
    (hn:PySem.W.specialIn K (.builtin "object.__class__") "__get__" = some (some (.builtin "getset_descriptor.__get__"))) (htk:PySem.W.takesIn K (.builtin "object.__class__")=some true)
    (hm:PySem.W.mroIn K C (.type "object")=some true):TyOf K H (.ref a) (.ref C)
theorem Rv{x:V}{t:gk}(I:Inv X gj σ H s)(rx:RelV x u)(ty:TyOf X.K H x t)(e:PySem.W.kitOne X.K t c=some b)(h:∀tk,Q (.bool b) {s with toks:=tk}) :
 wpAny (model X.prog X.w) A (call (.builtin "isinstance") [u,c]) Q E s:=by
 cases ty with
 |non=>cases (show u=Value.none from rx);exact ui5 PySem.W.kitx_none I.kIn True.intro e (λz=>nomatch z) h
 |bl y=>cases (show u=Value.bool y from rx);exact ui5 PySem.W.kitx_bool I.kIn True.intro e (λz=>nomatch z) h
 |int i=>clear 5((show ∃t,u=Value.int i t from rx))t q;cases q;exact ui5 PySem.W.kitx_int I.kIn True.intro e (λz=>nomatch z) h
 |str y=>clear 5((show ∃t,u=Value.str y t from rx))t q;cases q;exact ui5 PySem.W.kitx_str I.kIn True.intro e (λz=>nomatch z) h
 |flt y=>clear 5((show ∃t,u=Value.float y t from rx))t q;cases q;exact ui5 PySem.W.kitx_float I.kIn True.intro e (λz=>nomatch z) h
 |@lst a xs ea=>
   cases (show u=Value.ref a from rx)
   obtain⟨_,_,n,_,h1⟩:=(show ObjOk X.prog X.w H s.heap a (.lst xs) from I.hok a _ ea);exact ui5 PySem.W.kitx_list I.kIn ⟨_,h1,rfl⟩ e (λz=>nomatch z) h
 |@frz a ob xs ea=>
   cases (show u=Value.ref a from rx)
   obtain⟨_,_,_,n,_,h1⟩:=(show ObjOk X.prog X.w H s.heap a (.frz ob (.lst xs)) from I.hok a _ ea);exact ui5 PySem.W.kitx_list I.kIn ⟨_,h1,rfl⟩ e (λz=>nomatch z) h
 |@tup a xs ea=>
   cases (show u=Value.ref a from rx)
   obtain⟨_,_,_,p⟩:=(show ObjOk X.prog X.w H s.heap a (.tup xs) from I.hok a _ ea);obtain⟨o,h1,h2,_⟩:=p;exact ui5 PySem.W.kitx_tuple I.kIn ⟨o,h1,h2⟩ e (λz=>nomatch z) h
 |@dK a kvs ea=>
   cases (show u=Value.ref a from rx)
   obtain⟨_,_,vs,_,p⟩:=(show ObjOk X.prog X.w H s.heap a (.dK kvs) from I.hok a _ ea);obtain⟨o,es,ep,h1,h2,_⟩:=p;exact ui5 PySem.W.kitx_dict I.kIn ⟨o,h1,h2.1⟩ e (λz=>nomatch z) h
 |@dT a kvs ea=>
   cases (show u=Value.ref a from rx)
   obtain⟨_,_,xs,_,o,es,ep,h1,h2,_⟩:=(show ObjOk X.prog X.w H s.heap a (.dT kvs) from I.hok a _ ea);exact ui5 PySem.W.kitx_dict I.kIn ⟨o,h1,h2.1⟩ e (λz=>nomatch z) h
 |@ins a C dx fs ea cl ha hn htk hm=>
   cases (show u=Value.ref a from rx)
   obtain⟨mA,O,_⟩:=Ja I.hok ea;obtain⟨od,J,_⟩:=O.look;exact ui5 (PySem.W.kitx_own (cl.get _) cl.hd ha hn htk hm) I.kIn J e (λz=>nomatch z) h
end
structure Room(k:Nat)(A:Around):Prop where
 hd:A.handled=none
 dp:A.depth+3*k+5<recursionLimit
 un:A.units+16*k+200<cLine
theorem Room.mono{j k:Nat}{A:Around}(r:Room k A)(h:j<=k):Room j A:=⟨r.hd,by have:=r.dp;lia,by have:=r.un;lia⟩
theorem Room.deeper{k:Nat}{A:Around}(r:Room (k+1) A)(env:Env):Room k (A.deeper env):=
 ⟨r.hd,by have:=r.dp;show A.depth+1+3*k+5<_;lia,by have:=r.un;show A.units+3+16*k+200<_;lia⟩
theorem P8{A:Around}:(A.under (.builtin "type.__call__" ⟨.ref C::us,kw⟩)).depth=A.depth+1:=by
 first|rfl|simp[Around.under,Code.weight,Code.isCreation,Code.isGuard,Code.isCaller,Code.frames,Code.isFrame,guardIds]
theorem P9{A:Around}:(A.under (.builtin "type.__call__" ⟨.ref C::us,kw⟩)).units=A.units+1:=by
 first|rfl|simp[Around.under,Code.cUnits,Code.frames,Code.isFrame]
theorem Room.make{k:Nat}{A:Around}(r:Room (k+1) A)(C:gm)(us:List gk)(kw:List (Str×gk)):Room k (A.under (.builtin "type.__call__" ⟨.ref C::us,kw⟩)):=
 ⟨r.hd,by have:=r.dp;rw[P8];lia,by have:=r.un;rw[P9];lia⟩
theorem Room.depth{k:Nat}{A:Around}(r:Room k A):A.depth<recursionLimit:=by have:=r.dp;lia
theorem Room.units{k:Nat}{A:Around}(r:Room k A):A.units+64<cLine:=by have:=r.un;lia
def aq:TA:=λ_ H Q=>Q [] H
def bX(ta:TE)(tr:TA):TA:=λσ H Q=>ta σ H λx H1=>tr σ H1 λxs H2=>Q (x::xs) H2
section
variable{X:Cx}{e:Expr}{es:List Expr}{te:TE}{t:TA}{pos:Pos}
theorem Sd:PA X [] aq:=λ_ _ _ _ H Q I h=>Calls.spliced_nil ⟨[],H,I,.nil,h⟩
theorem O5(ha:PE X e te)(hr:PA X es t)(hs:starEach (e::es) X.env=(false,eval e X.env)::starEach es X.env:=by rfl):PA X (e::es) (bX te t):=by
 intro pos gj s σ H Q I h;rw[hs];show wpAny _ _ (spliced ((false,eval e X.env)::backTo pos (starEach es X.env))) _ _ s;refine Calls.spliced_cons (thn (ha gj s σ H _ I h) λu s1 z9=>?_);clear 5 z9 x H1 I1 r1 q1;exact thn (hr pos gj s1 σ H1 _ I1 q1) λus s2 ⟨xs,H2,I2,r2,q2⟩=>⟨x::xs,H2,I2,.cons r1 r2,q2⟩
def eH(t:TA):TE:=λσ H Q=>t σ H λxs H1=>xs.length<=sizeLine/\∀p,H1 p=none->Q (.ref p) (upd H1 p (.tup xs))
def eB(t:TA):TE:=λσ H Q=>t σ H λxs H1=>xs.length<=sizeLine/\∀p,H1 p=none->Q (.ref p) (upd H1 p (.lst xs))
theorem ZI{x1}(h:PA X es t):PE X (.Tuple es x1 pos) (eH t):=by
 intro gj s σ H Q I hq;refine wpAny_Tuple_spliced (thn (h pos gj s σ H _ I hq) λus s1 z9=>?_);clear 5 z9 xs H1 I1 r z q;refine⟨by rw[<-r.length];exact z,?_⟩;have hf:H1 s1.heap.objs.size=none:=I1.hok.fresh (un4 _);refine⟨.ref s1.heap.objs.size,upd H1 s1.heap.objs.size (.tup xs),I1.laid (t':=s1.toks) (λb u e=>ub8 _ e) (un4 _) ?_,rfl,q _ hf⟩;exact⟨z,us,r,⟨_,ud7 _ rfl,rfl,_,rfl⟩⟩
theorem ZE(h:PA X es t):PE X (.List es pos) (eB t):=by
 intro gj s σ H Q I hq;refine wpAny_List_spliced (thn (h pos gj s σ H _ I hq) λus s1 z9=>?_);clear 5 z9 xs H1 I1 r z q;refine⟨by rw[<-r.length];exact z,?_⟩;have hf:H1 s1.heap.objs.size=none:=I1.hok.fresh (un4 _);refine⟨.ref s1.heap.objs.size,upd H1 s1.heap.objs.size (.lst xs),I1.laid (t':=s1.toks) (λb u e=>ub8 _ e) (un4 _) ?_,rfl,q _ hf⟩;exact⟨z,us,0,r,ud7 _ rfl⟩
end
abbrev Sp:=List V->Hp->VK->XK->Prop
abbrev CXT:=List Env->Hp->gn->XK->gk->gn->Prop
structure Env0(P:gq)(w:gu)(K:gi)(mg:Str->Option gk)(base:Heap)(A:Around)(outer:List Env)(s:gn)(H:Hp):Prop where
 frames:A.frames=some outer
 mod:Mod K mg base
 bs:∀b o,base.get? b=some o->s.heap.get? b=some o/\H b=none
 bsz:base.objs.size<=s.heap.objs.size
 funs:s.heap.FunFrames base outer
 frf:∀b∈frs outer,H b=none
 hok:HOk P w H s.heap
 bare:AllBare s.gens
def CE(outer:List Env)(P:gq)(w:gu)(H:Hp)(s:gn)(Q:VK)(u:gk)(s':gn):Prop:=
 ∃v H',s'.os=s.os/\AllBare s'.gens/\Un (frs outer) [] H H' s.heap s'.heap/\HOk P w H' s'.heap/\RelV v u/\Q v H'
def CR(CX:CXT)(outer:List Env)(P:gq)(w:gu)(H:Hp)(s:gn)(Q:VK)(E:XK)(r:Result)(s':gn):Prop:=
 match r with
 |.ok (.ret u)=>CE outer P w H s Q u s'
 |.ok _=>False
 |.error e=>CX outer H s E e s'
structure FnOk(P:gq)(w:gu)(K:gi)(mg:Str->Option gk)(base:Heap)(CX:CXT)(k:Nat)(f:gm)(fd:gy)(ps:List Str)(sp:Sp):Prop where
 len:∀vs H Q E,sp vs H Q E->vs.length=ps.length
 run:∀(A:Around) (outer:List Env) (s:gn) (H:Hp) (args:Args) (us:List gk) (vs:List V) (Q:VK) (E:XK),Room k A->Env0 P w K mg base A outer s H->BindsTo s fd args (ps.zip us)->Vals vs us->sp vs H Q E->
  codeAny (model P w) A (.call (.ref f) args) (CR CX outer P w H s Q E) s
theorem FnOk.mono{P:gq}{w:gu}{K:gi}{mg:Str->Option gk}{base:Heap}{CX:CXT}{j k:Nat}{f:gm}{fd:gy}{ps:List Str}{sp:Sp}(F:FnOk P w K mg base CX j f fd ps sp)(h:j<=k) :
 FnOk P w K mg base CX k f fd ps sp:=⟨F.len,λA outer s H args us vs Q E hr=>F.run A outer s H args us vs Q E (hr.mono h)⟩
variable{mg:Str->Option gk}{base:Heap}
theorem Env0.make{A:Around}{outer:List Env}(e:Env0 P w K mg base A outer s H)(C:gm)(us:List gk)(kw:List (Str×gk)) :
 Env0 P w K mg base (A.under (.builtin "type.__call__" ⟨.ref C::us,kw⟩)) outer s H:=⟨by first|exact e.frames|(simpa[Around.under,Code.envs,Code.isFrame,pushEnvs] using e.frames),e.mod,e.bs,e.bsz,e.funs,e.frf,e.hok,e.bare⟩
section
variable{X:Cx}{gj:List (gm×Obj)}{σ:St}{H:Hp}{s s':gn}
theorem Inv.env0(I:Inv X gj σ H s):Env0 X.prog X.w X.K X.mg X.base X.A X.stack s H:=
 ⟨I.ok.frames,I.ok.mod,I.bs,um4 I.ok.bsz I.sz,I.stack,I.stkFree,I.hok,I.bare⟩
theorem Inv.after{Q:VK}(I:Inv X gj σ H s)(h:CE X.stack X.prog X.w H s Q u s'):EP X gj σ Q u s':=by
 clear 5 h v H' os bare un hok r q;clear 5 s' hh g d t os';obtain rfl:os'=s.os:=os;exact⟨v,H',I.call (h':=hh) (g':=g) (d':=d) (t':=t) (ch:=[]) un hok bare (λb z=>absurd z (by simp)),r,q⟩
end
def bW(sp:Sp)(dvs:List V)(E:XK)(t:TA):TE:=λσ H Q=>t σ H λvs H1=>sp (vs++dvs) H1 Q E
def Vz(C:gm)(m:Str)(sp:Sp)(dvs:List V)(E:XK)(ta:TE)(t:TA):TE:=λσ H Q=>ta σ H λx H1=>∃a dx fs,x=.ref a/\H1 a=some (.ins C dx fs)/\fs.lookup m=none/\
 t σ H1 λvs H2=>sp (x::(vs++dvs)) H2 Q E
def b4(C:gm)(sp:Sp)(dvs:List V)(E:XK)(t:TA):TE:=λσ H Q=>t σ H λvs H1=>∀x dx,H1 x=none->H1 dx=none->dx≠x->
 sp (.ref x::(vs++dvs)) (upd (upd H1 dx (.own x)) x (.ins C dx [])) (λv H2=>v=.non/\Q (.ref x) H2) E
def Binds(K:gi)(fd:gy)(ps:List Str)(ds:List gk):Prop:=
 ∀(s:gn) (us:List gk),K.In s.heap->(us++ds).length=ps.length->BindsTo s fd ⟨us,[]⟩ (ps.zip (us++ds))
theorem Binds.all{fd:gy}{ps:List Str}(h:∀us:List gk,us.length=ps.length->bindArgs fd ⟨us,[]⟩=pure (ps.zip us)):Binds K fd ps []:=λs us _ hl=>by
 rw[ui6] at hl⊢;exact .of_eq (h us hl)
def FT(CX:CXT)(X:Cx)(E:XK):Prop:=∀(gj:List (gm×Obj)) (σ:St) (H:Hp) (s:gn) (e:gk) (s':gn),Inv X gj σ H s->CX X.stack H s E e s'->X.xe e s'
variable{vs:List V}
section
variable{X:Cx}{CX:CXT}{k:Nat}{f C:gm}{fd:gy}{ps:List Str}{sp:Sp}{dvs:List V}{ds:List gk}{E:XK}{x m:Str}{p pos apos:Pos}{e o:Expr}{es:List Expr}{ta:TE}{t:TA}
theorem Oa{Q:VK}(F:FnOk X.prog X.w X.K X.mg X.base CX k f fd ps sp)(hr:Room k X.A)(hb:Binds X.K fd ps ds)(hd:Vals dvs ds)(hx:FT CX X E)
 (I:Inv X gj σ H s) (r:Vals vs us) (h:sp (vs++dvs) H Q E):wpAny (model X.prog X.w) X.A (call (.ref f) us) (EP X gj σ Q) X.xe s:=by
 have r2:Vals (vs++dvs) (us++ds):=r.append hd;have hl:(us++ds).length=ps.length:=by rw[<-r2.length];exact F.len _ _ _ _ h
 refine jQ (jH (F.run X.A X.stack s H ⟨us,[]⟩ (us++ds) (vs++dvs) Q E hr I.env0 (hb s us I.kIn hl) r2 h) λr s' hq=>?_)
 cases r with
 |error e=>exact hx gj σ H s e s' I hq
 |ok fl=>
   cases fl with
   |ret u=>exact I.after hq
   |next=>exact False.elim hq
   |brk=>exact False.elim hq
   |cont=>exact False.elim hq
theorem LI(F:FnOk X.prog X.w X.K X.mg X.base CX k f fd ps sp)(hr:Room k X.A)(hg:Gl X x)(hm:X.mg x=some (.ref f))(hk:PySem.W.keepIn X.K (.ref f)=true)(hb:Binds X.K fd ps ds)(hd:Vals dvs ds)(hx:FT CX X E)
 (ha:PA X (e::es) t) (hdb:(x==("__debug__":Str))=false:=by decide) (he:starEach (e::es) X.env=(false,eval e X.env)::starEach es X.env:=by rfl) (hpl:(backTo pos (starEach es X.env)).any (·.1)=false:=by rfl) :
 PE X (.Call (.Name x p) (e::es) [] pos) (bW sp dvs E t):=by
 intro gj s σ H Q I h;refine jm (DS I hg hm ?_ hdb);refine ue7 (h₀:=X.base) I.ok.mod.kin hk (thn (ha pos gj s σ H _ I h) λus s1 z9=>?_) he hpl;clear 5 z9 vs H1 I1 r q;refine⟨I1.kIn,?_⟩;exact Oa F hr hb hd hx I1 r q
theorem W3(he:PE X o ta)(c:Cls X.K C)(hm:Meth X.K C m f)(F:FnOk X.prog X.w X.K X.mg X.base CX k f fd ps sp)(hr:Room k X.A)(hb:Binds X.K fd ps ds)(hd:Vals dvs ds)(hx:FT CX X E)(ha:PA X (e::es) t)
 (hst:starEach (e::es) X.env=(false,eval e X.env)::starEach es X.env:=by rfl) (hpl:(backTo pos (starEach es X.env)).any (·.1)=false:=by rfl)
 (ht:eval (.Call (.Attribute o m apos) (e :: es) [] pos) X.env=(do
   let ov <-eval o X.env
   standAt apos.atName
   let (f,first) <-holding [ov] (getMethod ov m pl)
   callWith pos f first (backTo pos (starEach (e::es) X.env)) (backToKw pos (keywordEach [] X.env))):=by rfl) :
 PE X (.Call (.Attribute o m apos) (e::es) [] pos) (Vz C m sp dvs E ta t):=by
 intro gj s σ H Q I h;refine uc6 (pl:=pl) (thn (he gj s σ H _ I h) λu s1 z9=>?_) ht;clear 5 z9 x H1 I1 rx a dx fs ex ea l q;subst ex;obtain rfl:u=Value.ref a:=rx;refine KI I1 ea c hm l ?_;refine ue7 (first:=[.ref a]) (h₀:=X.base) I.ok.mod.kin hm.kp (thn (ha pos gj s1 σ H1 _ I1 q) λus s2 z9=>?_) hst hpl;clear 5 z9 vs H2 I2 r q2;refine⟨I2.kIn,?_⟩;exact Oa (us:=.ref a::us) (vs:=.ref a::vs) F hr hb hd hx I2 (.cons rfl r) q2
theorem Uy(he:PE X o ta)(c:Cls X.K C)(hm:Meth X.K C m f)(F:FnOk X.prog X.w X.K X.mg X.base CX k f fd ps sp)(hr:Room k X.A)(hb:Binds X.K fd ps ds)(hd:Vals dvs ds)(hx:FT CX X E)
 (ht:eval (.Call (.Attribute o m apos) [] [] pos) X.env=(do
   let ov <-eval o X.env
   standAt apos.atName
   let (f,first) <-holding [ov] (getMethod ov m pl)
   callWith pos f first (backTo pos (starEach [] X.env)) (backToKw pos (keywordEach [] X.env))):=by rfl) :
 PE X (.Call (.Attribute o m apos) [] [] pos) (Vz C m sp dvs E ta aq):=by
 intro gj s σ H Q I h;refine uc6 (pl:=pl) (thn (he gj s σ H _ I h) λu s1 z9=>?_) ht;clear 5 z9 x H1 I1 rx a dx fs ex ea l q;subst ex;obtain rfl:u=Value.ref a:=rx;refine KI I1 ea c hm l ?_;exact PySem.W.callWith_K0 (first:=[.ref a]) I1.kIn hm.kp (Oa (us:=[.ref a]) (vs:=[.ref a]) F hr hb hd hx I1 (.cons rfl .nil) q)
structure Mk(K:gi)(C f:gm):Prop where
 makes:PySem.W.makesIn K C=true
 init:PySem.W.findIn K (.ref C) "__init__" = some (some (.ref f))
 fn:PySem.W.isFn K (.ref f)=true
 kp:PySem.W.keepIn K (.ref C)=true
theorem UL{Q:VK}(M:Mk X.K C f)(F:FnOk X.prog X.w X.K X.mg X.base CX k f fd ps sp)(hr:Room (k+1) X.A)(hb:Binds X.K fd ps ds)(hd:Vals dvs ds)
 (hx:FT CX X E) (I:Inv X gj σ H s) (r:Vals vs us)
 (h:∀x dx,H x=none->H dx=none->dx≠x->sp (.ref x::(vs++dvs)) (upd (upd H dx (.own x)) x (.ins C dx [])) (λv H2=>v=.non/\Q (.ref x) H2) E) :
 wpAny (model X.prog X.w) X.A (call (.ref C) us) (EP X gj σ Q) X.xe s:=by
 have hq:=h (s.heap.objs.size+1) s.heap.objs.size (I.hok.fresh (un6 _)) (I.hok.fresh (un4 _)) (um3 (ug8 _));have I2:=Inv.made (C:=C) I;have r2:Vals (V.ref (s.heap.objs.size+1)::(vs++dvs)) (Value.ref (s.heap.objs.size+1)::(us++ds)):=.cons rfl (r.append hd);have hl:(Value.ref (s.heap.objs.size+1)::us++ds).length=ps.length:=by
  have e:=r2.length;rw[F.len _ _ _ _ hq] at e;exact e.symm
 refine jQ (Uk (f:=f) I.kIn M.makes M.init (jP.mp M.fn) (jH (F.run _ X.stack _ _ ⟨Value.ref (s.heap.objs.size+1)::us,[]⟩ (Value.ref (s.heap.objs.size+1)::(us++ds)) _ _ E (hr.make C us [])
  (I2.env0.make C us []) (hb _ (Value.ref (s.heap.objs.size+1)::us) I2.kIn hl) r2 hq) λr s' hq'=>?_))
 cases r with
 |error e=>exact hx gj σ _ _ e s' I2 hq'
 |ok fl=>
   cases fl with
   |ret u=>
     clear 5(I2.after hq')v H' I3 rv ev q3;subst ev;exact⟨rv,⟨V.ref (s.heap.objs.size+1),H',I3,rfl,q3⟩⟩
   |next=>exact False.elim hq'
   |brk=>exact False.elim hq'
   |cont=>exact False.elim hq'
theorem W2(M:Mk X.K C f)(F:FnOk X.prog X.w X.K X.mg X.base CX k f fd ps sp)(hr:Room (k+1) X.A)(hg:Gl X x)(hm:X.mg x=some (.ref C))(hb:Binds X.K fd ps ds)(hd:Vals dvs ds)(hx:FT CX X E)
 (ha:PA X (e::es) t) (hdb:(x==("__debug__":Str))=false:=by decide) (he:starEach (e::es) X.env=(false,eval e X.env)::starEach es X.env:=by rfl) (hpl:(backTo pos (starEach es X.env)).any (·.1)=false:=by rfl) :
 PE X (.Call (.Name x p) (e::es) [] pos) (b4 C sp dvs E t):=by
 intro gj s σ H Q I h;refine jm (DS I hg hm ?_ hdb);refine ue7 (h₀:=X.base) I.ok.mod.kin M.kp (thn (ha pos gj s σ H _ I h) λus s1 z9=>?_) he hpl;clear 5 z9 vs H1 I1 r q;refine⟨I1.kIn,?_⟩;exact UL M F hr hb hd hx I1 r q
end
section
variable{X:Cx}{CX:CXT}{k:Nat}{f C:gm}{fd:gy}{ps ks:List Str}{sp:Sp}{E:XK}{x m:Str}{p pos apos kpos:Pos}{e o:Expr}{es:List Expr}{kws:List Keyword}{te ta:TE}{t tk:TA}{nm:Option Str}
structure KBinds(K:gi)(fd:gy)(ps ks:List Str)(g:List gk->List gk->List gk)(gV:List V->List V->List V):Prop where
 to:∀(s:gn) (us ws:List gk),K.In s.heap->(g us ws).length=ps.length->BindsTo s fd ⟨us,ks.zip ws⟩ (ps.zip (g us ws))
 rel:∀{vs:List V}{us:List gk}{zs:List V}{ws:List gk},Vals vs us->Vals zs ws->Vals (gV vs zs) (g us ws)
variable{g:List gk->List gk->List gk}{gV:List V->List V->List V}
end
structure FnScope(N P:List Str)(sc:Scope):Prop where
 kind:sc.kind=.function
 co:sc.isCoroutine=false
 gen:sc.isGenerator=false
 nd:N.Nodup
 pre:N.take P.length=P
 par:∀x∈P,sc.names.lookup x=some .local\/sc.names.lookup x=some .cell
 nofree:∀y∈sc.names,y.2≠.free
theorem L9{kindOf:Str->Option NameKind}{x:Str}:∀{binds:List (Str×gk)}{m:Str->Option gk},(∀v,(x,v)∉binds)->bindL kindOf binds m x=m x
 |[],_,_=>rfl
 |(n,v)::r,m,h=>by
   unfold bindL;rw[L9 λw hw=>h w (ud2 _ hw)]
   split
   .have:x≠n:=by rintro rfl;exact h v ue4
    simp[this]
   .rfl
theorem L7{kindOf:Str->Option NameKind}{x:Str}:∀{binds:List (Str×gk)}{m:Str->Option gk},(∀v,(x,v)∉binds)->bindC kindOf binds m x=m x
 |[],_,_=>rfl
 |(n,v)::r,m,h=>by
   unfold bindC;rw[L7 λw hw=>h w (ud2 _ hw)]
   split
   .rfl
   .have:x≠n:=by rintro rfl;exact h v ue4
    simp[this]
theorem L8{kindOf:Str->Option NameKind}{x:Str}{v:gk}:∀{P:List Str}{vs:List gk}{i:Nat}{m:Str->Option gk},P.Nodup->P[i]?=some x->vs[i]?=some v->kindOf x=some .local->
 bindL kindOf (P.zip vs) m x=some v
 |[],_,_,_,_,h,_,_=>by simp at h
 |_::_,[],_,_,_,_,h,_=>by simp at h
 |p::P,w::vs,0,m,nd,h1,h2,hk=>by
   simp at h1 h2;subst h1;subst h2;show bindL kindOf ((p,w)::P.zip vs) m p=_;unfold bindL;rw[L9 λv hv=>(ui7.mp nd).1 (ui8 hv).1,jY hk];simp
 |p::P,w::vs,i+1,m,nd,h1,h2,hk=>by
   show bindL kindOf ((p,w)::P.zip vs) m x=_;unfold bindL;exact L8 (i:=i) (ui7.mp nd).2 (by simpa using h1) (by simpa using h2) hk
theorem L6{kindOf:Str->Option NameKind}{x:Str}{v:gk}:∀{P:List Str}{vs:List gk}{i:Nat}{m:Str->Option gk},P.Nodup->P[i]?=some x->vs[i]?=some v->kindOf x≠some .local->
 bindC kindOf (P.zip vs) m x=some v
 |[],_,_,_,_,h,_,_=>by simp at h
 |_::_,[],_,_,_,_,h,_=>by simp at h
 |p::P,w::vs,0,m,nd,h1,h2,hk=>by
   simp at h1 h2;subst h1;subst h2;show bindC kindOf ((p,w)::P.zip vs) m p=_;unfold bindC;rw[L7 λv hv=>(ui7.mp nd).1 (ui8 hv).1,jZ hk];simp
 |p::P,w::vs,i+1,m,nd,h1,h2,hk=>by
   show bindC kindOf ((p,w)::P.zip vs) m x=_;unfold bindC;exact L6 (i:=i) (ui7.mp nd).2 (by simpa using h1) (by simpa using h2) hk
noncomputable def start(N:List Str)(vs:List V):St:=vs.map some++List.replicate (N.length-vs.length) none
noncomputable def EV(CX:CXT)(P:gq)(w:gu)(K:gi)(mg:Str->Option gk)(base:Heap)(N:List Str)(qual:Str)(scope:Scope)(f:gm)(cd:gk)(A:Around)(outer:List Env)(s:gn)(H:Hp)(E:XK):Cx where
 prog:=P
 w:=w
 K:=K
 mg:=mg
 base:=base
 A:=A.deeper (envOfC qual scope s.heap.objs.size f cd)
 N:=N
 s₀:=s
 H₀:=H
 env:=envOfC qual scope s.heap.objs.size f cd
 outer:=outer
 stack:=envOfC qual scope s.heap.objs.size f cd::outer
 ex:=[]
 calm:=true
 fn:=λ_=>true
 pn:=[]
 xe:=λe s'=>wpAny (model P w) (A.deeper (envOfC qual scope s.heap.objs.size f cd)) (leaving (envOfC qual scope s.heap.objs.size f cd) e) (λ_ s''=>CX outer H s E e s'') (λe' s''=>CX outer H s E e' s'') s'
theorem Nf{sc:Scope}{n:Nat}(h:sc.names.lookup x=some .cell):∃c,(cellsFrom n sc.names []).lookup x=some c:=by
 have q:=ja sc.names n [] (.inl h);exact Option.isSome_iff_exists.mp q
theorem Ro{CX:CXT}{N ps:List Str}{qual:Str}{scope:Scope}{f:gm}{cd:gk}{A:Around}{outer:List Env}{s1:gn}{E:XK}
 (S:FnScope N ps scope) (hd:A.handled=none) (e0:Env0 P w K mg base A outer s H) (hl:vs.length=ps.length) (r:Vals vs us)
 (x:InCallC s s.heap.objs.size (bindL (envOfC qual scope s.heap.objs.size f cd).kindOf (ps.zip us) λ_=>none) (cellsFrom (s.heap.objs.size+1) scope.names []) (bindC (envOfC qual scope s.heap.objs.size f cd).kindOf (ps.zip us) λ_=>none) s1) :
 Inv (EV CX P w K mg base N qual scope f cd A outer s H E) [] (start N vs) H s1:=by
 have hpl:ps.length<=N.length:=by have:=jT List.length S.pre;rw[ug9] at this;lia
 clear 5 x.done h1 tk rfl hk;have noA:∀b:gm,b∉(EV CX P w K mg base N qual scope f cd A outer s H E).ex:=λb z=>absurd (show b∈([]:List gm) from z) (by simp);refine⟨⟨e0.mod,S.kind,rfl,rfl,un4 _,λy z c h1 h2=>?_,λy hy=>?_,λy c _ h=>?_,λ_=>hd,Around.frames_deeper e0.frames,.inr ⟨rfl,rfl⟩,λb z=>absurd z (noA b),e0.bs,e0.bsz,λb _ _=>noA b,λb z=>absurd z (noA b),e0.funs,e0.frf⟩,
  rfl,e0.bare,Un.kept hk,⟨_,x.toInCall.ns,λi y v h1 h2 h3=>?_⟩,λy c h=>⟨_,x.cell y c h⟩,e0.hok.fresh (un4 _),λy c h=>?_,λp hp=>absurd (show p∈([]:List (gm×Obj)) from hp) (by simp),e0.hok.kept hk,?_⟩
 .exact name_of_addr x.apart (jj h1) (jj h2)
 .have hy:scope.names.lookup y=some .cell\/scope.names.lookup y=some .free:=hy;rcases hy with hy|hy
  .exact Nf hy
  .exact absurd rfl (S.nofree _ (jj hy))
 .exact jF (x.above y c (jj h))
 .have hi:i<vs.length:=by
   unfold start at h2
   by_cases hi:i<vs.length
   .exact hi
   .rw[ua6 (by simpa using hi)] at h2;rw[ub4] at h2
    split at h2<;>cases h2
  have ha:vs[i]?=some v:=by
   unfold start at h2;rw[ub0 (by simpa using hi),uf5] at h2
   cases e:vs[i]? with
   |none=>rw[e] at h2;cases h2
   |some a=>rw[e] at h2;cases h2;rfl
  clear 5(r.get ha)u hu rv;have hp:ps[i]?=some y:=by
   rw[<-S.pre,List.getElem?_take_of_lt (by lia)];exact h1
  have ndP:ps.Nodup:=by rw[<-S.pre];exact S.nd.sublist (List.take_sublist _ _)
  refine⟨u,rv,?_⟩;rcases S.par y (ud4 hp) with k|k
  .exact .inl ⟨k,L8 ndP hp hu k⟩
  .clear 5(Nf (n:=s.heap.objs.size+1) k)c e;refine .inr ⟨.inl k,c,e,?_⟩;have q:=x.cell y c e;rw[L6 ndP hp hu (by show scope.names.lookup y≠_;rw[k];decide)] at q;exact q
 .exact e0.hok.fresh (jF (x.above y c (jj h)))
 .unfold start;show _=N.length;rw[ue8,ui4,uc7];lia
theorem Vl{CX:CXT}{k:Nat}{f:gm}{name qual:Str}{params:Arguments}{body:List Stmt}{scope:Scope}{dV kV doc pm cdv ct oc:gk}{an od:Option gm}
 {osl:Array (Option gk)}{N ps:List Str}{sp:Sp} (lk:K.lookup f=some ⟨oc,od,.func (PySem.W.fnOf name qual params body scope dV kV doc pm an cdv ct),osl⟩) (hcd:PySem.W.codeIn K cdv qual=true) (S:FnScope N ps scope)
 (len:∀vs H Q E,sp vs H Q E->vs.length=ps.length)
 (hbody:∀(A:Around) (outer:List Env) (s:gn) (H:Hp) (vs:List V) (Q:VK) (E:XK),Room k (A.deeper (envOfC qual scope s.heap.objs.size f cdv))->sp vs H Q E->
   ∃t,PSs (EV CX P w K mg base N qual scope f cdv A outer s H E) body t/\t {nx:=λ_ H'=>Q .non H',rt:=Q} (start N vs) H) :
 FnOk P w K mg base CX (k+1) f (PySem.W.fnOf name qual params body scope dV kV doc pm an cdv ct) ps sp:=by
 refine⟨len,λA outer s H args us vs Q E hr e0 hb r hsp=>?_⟩;have hl:=len _ _ _ _ hsp;have KX:K.In s.heap:=e0.mod.kin.keeps λb o e=>(e0.bs b o e).1;have lim:s.heap.NoLimit:=e0.mod.nolimit.keeps λb o e=>(e0.bs b o e).1;have hkind:∀y∈ps.zip us,scope.names.lookup y.1=some .local\/(scope.names.lookup y.1=some .cell/\((cellsFrom (s.heap.objs.size+1) scope.names []).lookup y.1).isSome=true):=λz9 hy=>by
  clear 5 z9 n v;rcases S.par n (ui8 hy).1 with q|q
  .exact .inl q
  .exact .inr ⟨q,ja _ _ _ (.inl q)⟩
 refine codeAny_call_function hr.depth (KX _ _ lk) rfl S.co S.gen rfl (PySem.W.codeRec_of KX hcd) (hb _ _ _ _ ?_);refine wpAny_newFunctionEnv_cells S.kind hkind λenv he s1 x=>?_;subst he;refine⟨lim.keeps x.toInCall.keep,codeAny_func ?_⟩;clear 5(hbody A outer s H vs Q E (hr.deeper _) hsp)t ht hq;have I:Inv (EV CX P w K mg base N qual scope f cdv A outer s H E) [] (start N vs) H s1:=Ro S hr.hd e0 hl r x;refine uo0 (ht [] s1 (start N vs) H _ I hq) (λfl s' hs=>?_) λe s' hs=>hs;have fin:∀{σ':St}{H':Hp}{v:V}{u:gk},Inv (EV CX P w K mg base N qual scope f cdv A outer s H E) [] σ' H' s'->RelV v u->Q v H'->CE outer P w H s Q u s':=
  λ{σ' H' v u} J rv q=>⟨v,H',J.os,J.bare,J.base,J.hok,rv,q⟩
 cases fl with
 |ret u=>
   clear 5 hs v σ' H' J rv q;exact fin J rv q
 |next=>
   clear 5 hs σ' H' J q;exact fin (v:=V.non) (u:=Value.none) J rfl q
 |brk=>
   obtain⟨_,_,_,q⟩:=hs;exact False.elim q
 |cont=>
   obtain⟨_,_,_,q⟩:=hs;exact False.elim q
section
variable{X:Cx}{x:Str}{p pos:Pos}{e:Expr}{es:List Expr}{t:TA}{id T:String}{r:List V->Hp->VK->Prop}
def tCB(r:List V->Hp->VK->Prop)(t:TA):TE:=λσ H Q=>t σ H λvs H1=>r vs H1 Q
theorem Uu(hc:CA X (.builtin id) r)(hg:Gl X x)(hm:X.mg x=none)(hv:bootBuiltins x=some (.builtin id))(ha:PA X (e::es) t)(hn:x≠"__name__":=by decide)(hdb:(x==("__debug__":Str))=false:=by decide)
 (he:starEach (e::es) X.env=(false,eval e X.env)::starEach es X.env:=by rfl) (hpl:(backTo pos (starEach es X.env)).any (·.1)=false:=by rfl):PE X (.Call (.Name x p) (e::es) [] pos) (tCB r t):=by
 intro gj s σ H Q I h;refine jm (Fq I hg hm hv ?_ hn hdb);exact PyProof.Rows.callWith_builtin1 (thn (ha pos gj s σ H _ I h) λus s1 z9=>by clear 5 z9 vs H1 I1 r1 q1;exact hc gj s1 σ H1 vs us Q I1 r1 q1) he hpl
theorem IC(hc:CA X (.type T) r)(hg:Gl X x)(hm:X.mg x=none)(hv:bootBuiltins x=some (.type T))(ha:PA X (e::es) t)(hn:x≠"__name__":=by decide)(hdb:(x==("__debug__":Str))=false:=by decide)
 (he:starEach (e::es) X.env=(false,eval e X.env)::starEach es X.env:=by rfl) (hpl:(backTo pos (starEach es X.env)).any (·.1)=false:=by rfl):PE X (.Call (.Name x p) (e::es) [] pos) (tCB r t):=by
 intro gj s σ H Q I h;refine jm (Fq I hg hm hv ?_ hn hdb);exact ua4 (thn (ha pos gj s σ H _ I h) λus s1 z9=>by clear 5 z9 vs H1 I1 r1 q1;exact hc gj s1 σ H1 vs us Q I1 r1 q1) he hpl
end
end
end L2
namespace HT
open PySem PyProof.Rows
section
open PySem.SeqAt
open PySem.AutoSeq1 (wpAny_loadPart')
open PySem.MeetsSeq PySem.MeetsSeq2 PySem.MeetsSeq3
end
section
variable{prog:gq}{w:gu}{A:Around}{E:gk->gn->Prop}{s:gn}
noncomputable def sIx(n d:Nat):Option Int->Nat
 |none=>d
 |some v=>if v<0 then(v+(n:Int)).toNat else min v.toNat n
theorem JS(n d:Nat):sIx n d none=d:=rfl
theorem G8(n d k:Nat):sIx n d (some (k:Int))=min k n:=by
 show(if (k:Int)<0 then((k:Int)+(n:Int)).toNat else min (k:Int).toNat n)=min k n;rw[jZ (by lia),uf6]
theorem aa(n d:Nat)(hd:d<=n)(o:Option Int):sIx n d o<=n:=by
 cases o with
 |none=>exact hd
 |some v=>
   show(if v<0 then(v+(n:Int)).toNat else min v.toNat n)<=n
   by_cases hv:v<0
   .rw[jY hv];lia
   .rw[jZ hv];exact Nat.min_le_right _ _
theorem OJ(v:Int)(n d:Nat):(if v<0 then max (v+(n:Int)) 0 else min v (n:Int))=((sIx n d (some v):Nat):Int):=by
 show(if v<0 then max (v+(n:Int)) 0 else min v (n:Int))=(((if v<0 then(v+(n:Int)).toNat else min v.toNat n):Nat):Int)
 by_cases hv:v<0
 .simp only[jY hv];lia
 .simp only[jZ hv];lia
theorem Pw(lo hi:Option Int)(n:Nat):Builtin.Slice.sliceAdjust lo hi 1 (n:Int)=(((sIx n 0 lo:Nat):Int),((sIx n n hi:Nat):Int)):=by
 have h1:¬((1:Int)<0):=by lia
 unfold Builtin.Slice.sliceAdjust;simp only[h1,jU];refine Prod.ext ?_ ?_
 .cases lo with
  |none=>rfl
  |some v=>exact OJ v n 0
 .cases hi with
  |none=>rfl
  |some v=>exact OJ v n n
theorem Qj(i j:Nat):Builtin.Slice.slicePlaces (i:Int) (j:Int) 1=j-i:=by
 unfold Builtin.Slice.slicePlaces;have h1:(1:Int) > 0:=by lia
 simp only[h1,jW,Int.ediv_one]
 split<;>lia
theorem K3{v:gk}{o:Option Int}{Q:Option Int->gn->Prop}(p:IsPart v o)(h:Q o s):wpAny (model prog w) A (Builtin.Slice.slicePartIndex v) Q E s:=by
 cases p with
 |none=>exact slicePart_none h
 |int i t=>exact slicePart_int h
theorem Gi{sl:gm}{vl vu:gk}{lo hi:Option Int}{n:Nat}{Q:Int×Int×Nat->gn->Prop}(hs:s.heap.IsSliceOf sl vl vu .none)(pl:IsPart vl lo)(pu:IsPart vu hi)
 (h:Q (((sIx n 0 lo:Nat):Int),1,sIx n n hi-sIx n 0 lo) s):wpAny (model prog w) A (Builtin.Slice.sliceApplied (.ref sl) (pure (n:Int))) Q E s:=by
 clear 5(id hs)os hos hcs hds;unfold Builtin.Slice.sliceApplied Builtin.Slice.sliceFields;refine un8 (un8 (un7 hos hds (x:=vl) rfl (un8 (un7 hos hds (x:=vu) rfl (un8 (un7 hos hds (x:=.none) rfl (un9 ?_)))))));refine un8 (slicePart_none ?_);show wpAny _ _ (if ((1:Int)==0)=true then _ else _) _ _ s;rw[jZ (by decide)];refine un8 (K3 pl (un8 (K3 pu (un8 (un9 ?_)))));show wpAny _ _ (match Builtin.Slice.sliceAdjust lo hi 1 (n:Int) with|(lo,hi)=>pure (lo,(1:Int),Builtin.Slice.slicePlaces lo hi 1)) _ _ s;rw[Pw lo hi n];show wpAny _ _ (pure (((sIx n 0 lo:Nat):Int),(1:Int),Builtin.Slice.slicePlaces ((sIx n 0 lo:Nat):Int) ((sIx n n hi:Nat):Int) 1)) _ _ s;rw[Qj];exact un9 h
theorem UB(xs:Array gk)(i k:Nat):((List.range k).filterMap λ(m:Nat)=>xs[((i:Int)+(m:Int)*1).toNat]?).toArray=((xs.toList.drop i).take k).toArray:=by
 have e:(λ(m:Nat)=>xs[((i:Int)+(m:Int)*1).toNat]?)=λm=>xs[i+m]?:=by
  funext m
  have:((i:Int)+(m:Int)*1).toNat=i+m:=by lia
  rw[this]
 rw[e];have:=pick_run xs i k;rw[List.filterMap_map] at this;have e2:((λx=>xs[x]?) ∘ λx=>i+x)=λm=>xs[i+m]?:=rfl;rw[e2] at this;rw[this]
theorem Jo{t sl:gm}{items:Array gk}{vl vu:gk}{lo hi:Option Int}{Q:gk->gn->Prop}(ht:IsTup s.heap t items)(hs:s.heap.IsSliceOf sl vl vu .none)(pl:IsPart vl lo)(pu:IsPart vu hi)
 (hw:¬(sIx items.size 0 lo=0/\sIx items.size items.size hi=items.size))
 (h:Q (.ref s.heap.objs.size) {s with heap:=s.heap.push {cls:=.type "tuple",data:=.seq ((items.toList.drop (sIx items.size 0 lo)).take (sIx items.size items.size hi-sIx items.size 0 lo)).toArray} })
 (hsz:items.size<=sizeLine):wpAny (model prog w) A (getItem (.ref t) (.ref sl)) Q E s:=by
 have htake:sizeOk (.seq ((items.toList.drop (sIx items.size 0 lo)).take (sIx items.size items.size hi-sIx items.size 0 lo)).toArray):=by
  show((items.toList.drop (sIx items.size 0 lo)).take (sIx items.size items.size hi-sIx items.size 0 lo)).toArray.size<=sizeLine;rw[uf4,ug9,uh0,ud6];lia
 have hj:sIx items.size items.size hi<=items.size:=aa _ _ (un4 _) hi;clear 5(id hs)os hos hcs hds;have hTs:s.TypeIs (.ref sl) "slice":=⟨os,hos,hcs⟩;unfold getItem
 try with_reducible refine um1 ?_
 first|refine un8 (un9 ?_)|skip
 refine un8 (wpAny_sequenceKey ht.typeIs (by decide) ?_);refine un8 (wpAny_callSpecial?_slot (name:=Str.ofString "__getitem__") ht.typeIs ua2
  (wpAny_call_entry ua2 ht.typeIs entry_tuple_getitem ?_ (args_tuple_getitem _ _)))
 show wpAny _ _ (Builtin.Tuple.tupleItemsOf (.ref t) >>= _) _ _ s;refine un8 (tupleItemsOf_ ht ?_);refine un8 (jI hTs ?_);rw[jY (by decide)];refine un8 (Gi hs pl pu ?_);have hno:¬((((sIx items.size 0 lo:Nat):Int)==0&&(1:Int)==1&&(sIx items.size items.size hi-sIx items.size 0 lo)==items.size)=true):=by
  intro q;rw[uh1,uh1] at q;have q1:((sIx items.size 0 lo:Nat):Int)=0:=eq_of_beq q.1.1;have q2:sIx items.size items.size hi-sIx items.size 0 lo=items.size:=eq_of_beq q.2;exact hw ⟨by lia,by lia⟩
 show wpAny _ _ (if (((sIx items.size 0 lo:Nat):Int)==0&&(1:Int)==1&&(sIx items.size items.size hi-sIx items.size 0 lo)==items.size)=true then _ else _) _ _ s;rw[jZ hno,UB]
 first
  |exact un8 (m:=Builtin.Tuple.tupleExact _) (jp (un9 ⟨_,rfl,un9 h⟩) htake)
  |exact un8 (m:=Builtin.Tuple.tupleExact _) (jp (un8 (un9 (un9 ⟨_,rfl,un9 h⟩))) htake)
  |exact un8 (un8 (m:=Builtin.Tuple.tupleExact _) (jp (un9 (un9 ⟨_,rfl,un9 h⟩)) htake))
  |exact un8 (un8 (m:=Builtin.Tuple.tupleExact _) (jp (un9 ⟨_,rfl,un9 h⟩) htake))
end
end HT
namespace L2
open PySem PySem.Spec PyProof.Rows
abbrev TO:=St->Hp->(Option Int->Hp->Prop)->Prop
def PO(X:Cx)(e:Option Expr)(t:TO):Prop:=
 ∀(gj:List (gm×Obj)) (s:gn) (σ:St) (H:Hp) (Q:Option Int->Hp->Prop),Inv X gj σ H s->t σ H Q->
  wpAny (model X.prog X.w) X.A (evalPart e X.env) (λu s'=>∃o H',Inv X gj σ H' s'/\IsPart u o/\Q o H') X.xe s
def XU:TO:=λ_ H Q=>Q none H
def b7(t:TE):TO:=λσ H Q=>t σ H λx H1=>∃i,x=.int i/\Q (some i) H1
section
variable{X:Cx}{e:Expr}{te:TE}{lo hi:Option Expr}{tl th:TO}{pos p2:Pos}
theorem W8:PO X none XU:=by
 intro gj s σ H Q I h;rw[evalPart_none];exact un9 ⟨none,H,I,.none,h⟩
theorem W9(h:PE X e te):PO X (some e) (b7 te):=by
 intro gj s σ H Q I hw;rw[evalPart_some];refine thn (h gj s σ H _ I hw) λu s1 z9=>?_;clear 5 z9 x H1 I1 r1 q1;clear 5 q1 i rfl q;clear 5 r1 t rfl;exact⟨some i,H1,I1,.int i t,q⟩
def SlR(X:Cx)(r:V->Option Int->Option Int->Hp->VK->Prop):Prop:=
 ∀(gj:List (gm×Obj)) (s:gn) (σ:St) (H:Hp) (x:V) (v vl vu:gk) (lo hi:Option Int) (sl:gm) (Q:VK),Inv X gj σ H s->RelV x v->s.heap.IsSliceOf sl vl vu .none->IsPart vl lo->IsPart vu hi->r x lo hi H Q->
  ∃T id,typeLookup (.type T) "__getitem__" = pure (some (.builtin id))/\s.TypeIs v T/\wpAny (model X.prog X.w) X.A (getItem v (.ref sl)) (EP X gj σ Q) X.xe s
theorem SlR.or{r r':V->Option Int->Option Int->Hp->VK->Prop}(h:SlR X r)(h':SlR X r'):SlR X (λx lo hi H Q=>r x lo hi H Q\/r' x lo hi H Q):=by
 intro gj s σ H x v vl vu lo hi sl Q I rx hs pl pu q;rcases q with q|q
 .exact h gj s σ H x v vl vu lo hi sl Q I rx hs pl pu q
 .exact h' gj s σ H x v vl vu lo hi sl Q I rx hs pl pu q
def tSl(r:V->Option Int->Option Int->Hp->VK->Prop)(te:TE)(tl th:TO):TE:=λσ H Q=>te σ H λx H1=>tl σ H1 λl H2=>th σ H2 λu H3=>r x l u H3 Q
theorem Uz{r:V->Option Int->Option Int->Hp->VK->Prop}(hr:SlR X r)(he:PE X e te)(hl:PO X lo tl)(hu:PO X hi th):PE X (.Subscript e (.Slice lo hi none p2) pos) (tSl r te tl th):=by
 intro gj s σ H Q I h;refine Subscript_ (thn (he gj s σ H _ I h) λv s1 z9=>?_);clear 5 z9 x H1 I1 r1 q1;refine wpAny_Slice (thn (hl gj s1 σ H1 _ I1 q1) λvl s2 ⟨l,H2,I2,pl,q2⟩=>thn (hu gj s2 σ H2 _ I2 q2) λvu s3 z9=>?_);clear 5 z9 u H3 I3 pu q3;rw[evalPart_none];refine un9 ?_;have I4:Inv X gj σ H3 {s3 with heap:=s3.heap.push {cls:=.type "slice",data:=.fields #[vl,vu,.none]} }:=I3.kept (t':=s3.toks) λb ob q=>ub8 _ q;clear 5(hr gj {s3 with heap:=s3.heap.push {cls:=.type "slice",data:=.fields #[vl,vu,.none]} } σ H3 x v vl vu l u s3.heap.objs.size Q I4 r1 (Heap.IsSliceOf.new ..) pl pu q3)T id hT ht hg;show wpAny (model X.prog X.w) X.A (subscriptTail e (.Slice lo hi none p2) v (.ref s3.heap.objs.size)) (EP X gj σ Q) X.xe {s3 with heap:=s3.heap.push {cls:=.type "slice",data:=.fields #[vl,vu,.none]} };exact tail_any (ops:=[.ref s3.heap.objs.size,v]) ht hT hg (by with_unfolding_all rfl)
def Hs(xs:List V)(lo hi:Option Int):List V:=(xs.drop (HT.sIx xs.length 0 lo)).take (HT.sIx xs.length xs.length hi-HT.sIx xs.length 0 lo)
theorem Jq(xs:List V)(lo hi:Option Int):(Hs xs lo hi).length<=xs.length:=by
 unfold Hs;rw[ug9,uh0];lia
def Z6(K:gi):V->Option Int->Option Int->Hp->VK->Prop:=λx lo hi H Q=>∃a xs,x=.ref a/\SqT K H a xs/\
 ¬(HT.sIx xs.length 0 lo=0/\HT.sIx xs.length xs.length hi=xs.length)/\∀p,H p=none->Q (.ref p) (upd H p (.tup (Hs xs lo hi)))
theorem ag:SlR X (Z6 X.K):=by
 intro gj s σ H x v vl vu lo hi sl Q I rx hs pl pu h;clear 5 h a xs rfl hx hw q
 cases rx
 clear 5(I.tuple hx)its r ht hz;have hlen:its.toArray.size=xs.length:=by rw[uf4];exact r.length.symm
 refine⟨"tuple",_,ua2.lookup,ht.typeIs,?_⟩;refine HT.Jo ht hs pl pu (by rw[hlen];exact hw) ?_ (by rw[hlen];exact hz);rw[hlen];refine⟨.ref s.heap.objs.size,_,I.laid (t':=s.toks) (o:=.tup (Hs xs lo hi)) (λb ob q=>ub8 _ q) (un4 _) ?_,rfl,q _ (I.hok.fresh (un4 _))⟩;exact⟨um4 (Jq xs lo hi) hz,_,(r.drop (HT.sIx xs.length 0 lo)).take (HT.sIx xs.length xs.length hi-HT.sIx xs.length 0 lo),IsTup.new _ _⟩
theorem Vals.nil_iff{xs:List V}{us:List gk}(r:Vals xs us):us=[]↔xs=[]:=by
 cases r with
 |nil=>simp
 |cons _ _=>simp
end
noncomputable def ixN(n:Nat)(i:Int):Option Nat:=if 0<=i then(if i<n then some i.toNat else none) else if -(n:Int)<=i then some (i+n).toNat else none
def atI{α:Type}(xs:List α)(i:Int):Option α:=(ixN xs.length i).bind λj=>xs[j]?
theorem Wx{n:Nat}{i:Int}{j:Nat}(h:ixN n i=some j):seqIndex? i n=some j/\j<n/\-(n:Int)<=i/\i<n:=by
 unfold ixN at h
 by_cases h0:0<=i
 .rw[jY h0] at h
  by_cases h1:i<n
  .rw[jY h1] at h;have e:i.toNat=j:=ui3 h;exact⟨by rw[seqIndex_of h0 h1,e],by lia,by lia,h1⟩
  .rw[jZ h1] at h;cases h
 .rw[jZ h0] at h
  by_cases h1 : -(n:Int)<=i
  .rw[jY h1] at h;have e:(i+n).toNat=j:=ui3 h;exact⟨by rw[seqIndex_neg (by lia) h1,e],by lia,h1,by lia⟩
  .rw[jZ h1] at h;cases h
theorem Li{α:Type}{xs:List α}{i:Int}{v:α}(h:atI xs i=some v):∃j,seqIndex? i xs.length=some j/\xs[j]?=some v/\j<xs.length/\-(xs.length:Int)<=i/\i<xs.length:=by
 unfold atI at h
 cases e:ixN xs.length i with
 |none=>rw[e] at h;cases h
 |some j=>
   rw[e] at h;clear 5(Wx e)h1 h2 h3 h4;exact⟨j,h1,h,h2,h3,h4⟩
theorem IT{α:Type}{xs:List α}{j:Nat}{v:α}(h:xs[j]?=some v):atI xs (j:Int)=some v:=by
 have hj:j<xs.length:=(ua9.mp h).1;have e:ixN xs.length (j:Int)=some j:=by
  unfold ixN;rw[jY (by lia),jY (by lia)];simp
 unfold atI;rw[e];exact h
def IQ(b:Expr):Prop:=∀o i,subscripted b false o i=operate [o,i] (getItem o i)
def IxR(X:Cx)(r:R2):Prop:=
 ∀(value slice:Expr) (gj:List (gm×Obj)) (s:gn) (σ:St) (H:Hp) (x y:V) (v u:gk) (Q:VK),Inv X gj σ H s->RelV x v->RelV y u->r x y H Q->
  subscripted slice false v u=operate [v,u] (getItem v u)->wpAny (model X.prog X.w) X.A (subscriptTail value slice v u) (EP X gj σ Q) X.xe s
def MtR(X:Cx)(id:String)(r:V->List V->Hp->VK->Prop):Prop:=
 ∀(gj:List (gm×Obj)) (s:gn) (σ:St) (H:Hp) (x:V) (xs:List V) (v:gk) (us:List gk) (Q:VK),Inv X gj σ H s->RelV x v->Vals xs us->r x xs H Q->
  wpAny (model X.prog X.w) X.A (call (.builtin id) (v::us)) (EP X gj σ Q) X.xe s
section
variable{X:Cx}{a b:Expr}{ta tb:TE}{pos:Pos}
theorem IxR.or{r r':R2}(h:IxR X r)(h':IxR X r'):IxR X (λx y H Q=>r x y H Q\/r' x y H Q):=by
 intro value slice gj s σ H x y v u Q I rx ry q hs;rcases q with q|q
 .exact h value slice gj s σ H x y v u Q I rx ry q hs
 .exact h' value slice gj s σ H x y v u Q I rx ry q hs
theorem Qe{r:R2}(hr:IxR X r)(ha:PE X a ta)(hb:PE X b tb)(hs:IQ b):PE X (.Subscript a b pos) (tOp r ta tb):=by
 intro gj s σ H Q I h;exact Subscript_ (Th ha hb I h λv u s2 x y H2 I2 rx ry q=>hr a b gj s2 σ H2 x y v u Q I2 rx ry q (hs _ _))
def Z0(K:gi):R2:=λx y H Q=>∃p xs i v,x=.ref p/\y=.int i/\SqL K H p xs/\atI xs i=some v/\Q v H
def Z2(K:gi):R2:=λx y H Q=>∃p xs i v,x=.ref p/\y=.int i/\SqT K H p xs/\atI xs i=some v/\Q v H
def Z1:R2:=λx y H Q=>∃z i c,x=.str z/\y=.int i/\z.length<=sizeLine/\atI z.cps.toList i=some c/\Q (.str ⟨#[c]⟩) H
theorem ix_list:IxR X (Z0 X.K):=by
 intro value slice gj s σ H x y v u Q I rx ry h hs;clear 5 h p xs i z rfl rfl hq he q
 cases rx
 clear 5 ry t rfl;clear 5(I.list hq)its r pl hz;clear 5(Li he)j h1 h2 h3 h4 h5;clear 5(r.get h2)w ew rw';have hl:=r.length;have hn:=KP;have fin:EP X gj σ Q w s:=⟨z,H,I,rw',q⟩
 by_cases h0:0<=i
 .have hj:i.toNat=j:=by
   rw[seqIndex_of h0 h5] at h1;exact ui3 h1
  exact item_listR pl.isList h0 (by lia) (by rw[hj];simpa using ew) fin hs
 .have hj:(i+(its.toArray.size:Int)).toNat=j:=by
   rw[seqIndex_neg (by lia) h4] at h1;rw[uf4,<-hl];exact ui3 h1
  exact subscriptTail_builtinR (x:=w) pl.isList.typeIs slot_list_getitem.lookup
   (wpAny_getItem_list_neg (Q:=λr s'=>r=w/\EP X gj σ Q r s') pl.isList (by lia) (by rw[uf4]<;>lia) (by lia) (by rw[hj];simpa using ew) ⟨rfl,fin⟩) hs
theorem ix_tup:IxR X (Z2 X.K):=by
 intro value slice gj s σ H x y v u Q I rx ry h hs;clear 5 h p xs i z rfl rfl hq he q
 cases rx
 clear 5 ry t rfl;clear 5(I.tuple hq)its r pl hz;clear 5(Li he)j h1 h2 h3 h4 h5;clear 5(r.get h2)w ew rw';have hl:=r.length;have hn:=KP;have fin:EP X gj σ Q w s:=⟨z,H,I,rw',q⟩;exact subscriptTail_builtinR (x:=w) pl.typeIs slot_tuple_getitem.lookup
  (getItem_tuple (j:=j) (Q:=λr s'=>r=w/\EP X gj σ Q r s') pl (by lia) (by lia) (by rw[uf4,<-hl];exact h1) (by simpa using ew) ⟨rfl,fin⟩) hs
theorem Za:IxR X Z1:=by
 intro value slice gj s σ H x y v u Q I rx ry h hs;clear 5 h z i c rfl rfl hz he q;clear 5 rx t rfl;clear 5 ry t' rfl;clear 5(Li he)j h1 h2 h3 h4 h5;have hl:z.cps.toList.length=z.length:=by simp[Str.length]
 rw[hl] at h1 h4 h5;have hn:=KP;exact tail_any (typeIs_str s z t) slot_str_getitem.lookup (getItem_str (c:=c) (by
  have e1:decide (i < -(2 ^ 63:Int))=false:=uk1 (by lia);have e2:decide (i ≥ 2 ^ 63)=false:=uk1 (by lia);rw[e1,e2,ul1]) (by rw[h1];simpa using h2) ⟨.str ⟨#[c]⟩,H,I.tok _,⟨_,rfl⟩,q⟩) hs
def rIx(K:gi):R2:=λx y H Q=>Z0 K x y H Q\/Z2 K x y H Q\/Z1 x y H Q
theorem Rw:IxR X (rIx X.K):=ix_list.or (ix_tup.or Za)
theorem Og(lo hi:Option Int)(n:Nat):(sliceBounds lo hi none n).1=((HT.sIx n 0 lo:Nat):Int)/\(sliceBounds lo hi none n).2.1=((HT.sIx n n hi:Nat):Int)/\(sliceBounds lo hi none n).2.2=1:=by
 refine⟨?_,?_,rfl⟩
 .cases lo with
  |none=>simp[sliceBounds,HT.sIx]
  |some i=>
    simp only[sliceBounds,HT.sIx,Option.getD_none,show(1:Int) > 0 by decide,jW]
    by_cases h:i<0
    .simp only[h,jW]<;>lia
    .simp only[h,jU]<;>lia
 .cases hi with
  |none=>simp[sliceBounds,HT.sIx]
  |some i=>
    simp only[sliceBounds,HT.sIx,Option.getD_none,show(1:Int) > 0 by decide,jW]
    by_cases h:i<0
    .simp only[h,jW]<;>lia
    .simp only[h,jU]<;>lia
theorem MC(its:List gk)(lo hi:Option Int):slicePick its.toArray lo hi none=((its.drop (HT.sIx its.length 0 lo)).take (HT.sIx its.length its.length hi-HT.sIx its.length 0 lo)).toArray:=by
 clear 5(Og lo hi its.toArray.size)h1 h2 h3;unfold slicePick;rw[h1,h2,h3];simp only[sliceRange_one,pick_run,uf4]<;>rfl
def Z4(K:gi):V->Option Int->Option Int->Hp->VK->Prop:=λx lo hi H Q=>∃a xs,x=.ref a/\SqL K H a xs/\∀p,H p=none->Q (.ref p) (upd H p (.lst (Hs xs lo hi)))
theorem sl_list:SlR X (Z4 X.K):=by
 intro gj s σ H x v vl vu lo hi sl Q I rx hs pl pu h;clear 5 h a xs rfl hx q
 cases rx
 clear 5(I.list hx)its r ht hz;have hlen:=r.length;refine⟨"list",_,slot_list_getitem.lookup,ht.isList.typeIs,?_⟩;refine wpAny_getItem_list_slice ht.isList hs pl pu .none (by simp) ?_ (by rw[uf4]<;>lia);rw[MC,<-hlen];refine⟨.ref s.heap.objs.size,_,I.laid (t':=s.toks) (o:=.lst (Hs xs lo hi)) (λb ob q=>ub8 _ q) (un4 _) ?_,rfl,q _ (I.hok.fresh (un4 _))⟩;exact⟨um4 (Jq xs lo hi) hz,_,0,(r.drop (HT.sIx xs.length 0 lo)).take (HT.sIx xs.length xs.length hi-HT.sIx xs.length 0 lo),ud7 _ rfl⟩
theorem Nc:CA X (.type "list") (λxs H Q=>∃p ys,xs=[.ref p]/\(SqL X.K H p ys\/SqT X.K H p ys)/\∀l,H l=none->Q (.ref l) (upd H l (.lst ys))):=by
 intro gj s σ H xs us Q I r h;clear 5 h p ys rfl hq q;clear 5(FN r)u rfl rx
 cases rx
 have fin:∀(its:List gk),Vals ys its->ys.length<=sizeLine->∀(h':Heap) (c':Nat),(∀b o',s.heap.get? b=some o'->h'.get? b=some o')->
  h'.get? s.heap.objs.size=some {cls:=.type "list",dict:=none,data:=.seq its.toArray c',slots:=#[]}->EP X gj σ Q (.ref s.heap.objs.size) {s with heap:=h'}:=λits r' hz h' c' kp e=>
  ⟨.ref s.heap.objs.size,_,I.laid (t':=s.toks) kp (un4 _) (show ObjOk X.prog X.w _ h' _ (.lst ys) from⟨hz,its,c',r',e⟩),rfl,q _ (I.hok.fresh (un4 _))⟩
 rcases hq with hq|hq
 .clear 5(I.list hq)its r' pl hz;have hlen:=r'.length;clear 5 pl.isList o ho hc n hd;exact call_list_seq p (.inl rfl) ho hc hd (λh' c' kp e=>fin its r' hz h' c' kp e) (by simp only[uf4]<;>lia)
 .clear 5(I.tuple hq)its r' pl hz;have hlen:=r'.length;clear 5 pl o ho hc n hd;exact call_list_seq p (.inr rfl) ho hc hd (λh' c' kp e=>fin its r' hz h' c' kp e) (by simp only[uf4]<;>lia)
def tyV(K:gi)(T:String)(x:V)(H:Hp):Prop:=match x with
 |.str _=>T = "str"
 |.int _=>T = "int"
 | .ref p=>(T = "list"/\∃xs,SqL K H p xs)\/(T = "tuple"/\∃o,K.lookup p=some o/\o.cls = .type "tuple"/\o.dict=none)\/
    (T = "dict"/\((∃kvs,H p=some (.dK kvs))\/∃kvs,H p=some (.dT kvs)))\/(T = "set"/\∃S n,H p=some (.set S n))
 |_=>False
theorem aw{gj:List (gm×Obj)}{σ:St}{H:Hp}{s:gn}{T:String}{x:V}{v:gk}(I:Inv X gj σ H s)(r:RelV x v)(ty:tyV X.K T x H) :
 s.TypeIs v T/\∀a,v=.ref a->∃ob,s.heap.get? a=some ob/\ob.dict=none:=by
 cases x with
 |str z=>
   clear 5 r t rfl
   cases (show T = "str" from ty)
   exact⟨typeIs_str s z t,λ_ e=>nomatch e⟩
 |int i=>
   clear 5 r t rfl
   cases (show T = "int" from ty)
   exact⟨jR s i t,λ_ e=>nomatch e⟩
 |ref p=>
   cases r
   rcases ty with⟨rfl,xs,hq⟩|⟨rfl,o,hk,hc,hd⟩|⟨rfl,hk⟩|⟨rfl,S,n,hk⟩
   .obtain⟨its,_,pl,_⟩:=I.list hq;refine⟨pl.isList.typeIs,λa e=>?_⟩
    cases e
    obtain⟨o,n,e,c,hd,_⟩:=pl;exact⟨o,e,hd⟩
   .refine⟨⟨o,I.kIn p o hk,hc⟩,λa e=>?_⟩
    cases e
    exact⟨o,I.kIn _ o hk,hd⟩
   .have z:∃o,s.heap.get? p=some o/\o.ExactDict:=by
     rcases hk with⟨kvs,hk⟩|⟨kvs,hk⟩
     .obtain⟨_,_,_,_,o,_,_,e,ex,_⟩:=I.hok p _ hk;exact⟨o,e,ex⟩
     .obtain⟨_,_,_,_,o,_,_,e,ex,_⟩:=I.hok p _ hk;exact⟨o,e,ex⟩
    clear 5 z o e ex;refine⟨⟨o,e,ex.1⟩,λa e2=>?_⟩
    cases e2
    exact⟨o,e,ex.2.1⟩
   .obtain⟨o,_,_,_,e,ex,_⟩:=I.hok p _ hk;refine⟨⟨o,e,ex.1⟩,λa e2=>?_⟩
    cases e2
    exact⟨o,e,ex.2.1⟩
 |_=>exact False.elim ty
def tBM(K:gi)(T:String)(r:V->List V->Hp->VK->Prop)(to:TE)(t:TA):TE:=λσ H Q=>to σ H λx H1=>tyV K T x H1/\t σ H1 λxs H2=>r x xs H2 Q
variable{o e:Expr}{es:List Expr}{to:TE}{t:TA}{name:Str}{apos cpos:Pos}{T id:String}{r:V->List V->Hp->VK->Prop}
theorem MI(pa:PlainAttrs T)(slot:Slot T name id)(hty:typeOf (.builtin id)=pure (.type "method_descriptor"))(hm:MtR X id r)(ho:PE X o to)(ha:PA X (e::es) t)
 (hbase:attributeBase o name X.env (eval o X.env)=eval o X.env:=by rfl)
 (hfew:((backTo cpos (starEach (e :: es) X.env)).all (λx=>!x.1) && (backToKw cpos (keywordEach [] X.env)).all (λx=>x.1.isSome)
   && decide ((e::es).length+([]:List Keyword).length+(if ([]:List Keyword).isEmpty then 0 else 1)<30))=true:=by rfl)
 (hline:(apos.endLine==cpos.line)=true:=by rfl) (hs:starEach (e::es) X.env=(false,eval e X.env)::starEach es X.env:=by rfl) (hplain:(backTo cpos (starEach es X.env)).any (·.1)=false:=by rfl) :
 PE X (.Call (.Attribute o name apos) (e::es) [] cpos) (tBM X.K T r to t):=by
 intro gj s σ H Q I h;refine wpAny_Call_method_late hbase hfew hline rfl (thn (ho gj s σ H _ I h) λv s1 z9=>?_);clear 5 z9 x H1 I1 r1 ty q1;clear 5(aw I1 r1 ty)h1 h2;refine⟨T,id,pa,slot,hty,h1,h2,?_⟩;have hA:=ha cpos gj s1 σ H1 _ I1 q1;rw[hs] at hA⊢;refine Calls.callWith_builtin (by show(false||(backTo cpos (starEach es X.env)).any (·.1))=false;rw[hplain]<;>rfl) (Calls.evalArgs_plain ?_);exact thn hA λus s2 ⟨vs,H2,I2,r2,q2⟩=>hm gj s2 σ H2 x vs v us Q I2 r1 r2 q2
/- xs.append(e),list.index on a module's tuple .. are MtR facts of 06m -/
end
def MtM(X:Cx)(id:String)(r:V->List V->Hp->VK->Prop):Prop:=
 ∀(gj:List (gm×Obj)) (s:gn) (σ:St) (H:Hp) (x:V) (xs:List V) (v:gk) (us:List gk) (Q:VK),Inv X gj σ H s->RelV x v->Vals xs us->r x xs H Q->
  wpAny (model X.prog X.w) X.A (call (.builtin id) (v::us)) (EP X gj σ Q) X.xe s
theorem Vals.one{x:V}{us:List gk}(h:Vals [x] us):∃u,us=[u]/\RelV x u:=by
 cases h with
 |cons r t=>
   cases t
   exact⟨_,rfl,r⟩
theorem Vals.rep{xs:List V}{us:List gk}(h:Vals xs us):∀k:Nat,Vals (List.replicate k xs).flatten (List.replicate k us).flatten
 |0=>.nil
 |k+1=>by
   rw[ud9,ud9,uf7,uf7];exact Vals.append h (Vals.rep h k)
theorem Mg(its:List gk):∀(k:Nat) (acc:List gk),
 List.foldl (λx1 x2=>x1++x2) acc.toArray (List.replicate k its.toArray)=(acc++(List.replicate k its).flatten).toArray
 |0,acc=>by simp
 |k+1,acc=>by
   have e:acc.toArray++its.toArray=(acc++its).toArray:=by simp
   have e2:(acc++its)++(List.replicate k its).flatten=acc++(List.replicate (k+1) its).flatten:=by
    rw[ud9,uf7,uf8]
   rw[<-e2,<-Mg its k (acc++its),<-e,ud9,ui9]
section
variable{X:Cx}{gj:List (gm×Obj)}{σ:St}{H:Hp}{s:gn}{l b:gm}{xs ys zs:List V}
theorem Inv.lset{its its':List gk}{n:Nat}{f:Array gk->Array gk}{t':Nat}(I:Inv X gj σ H s)(hH:H l=some (.lst xs))
 (e:s.heap.get? l=some {cls:=.type "list",data:=.seq its.toArray n}) (hf:f its.toArray=its'.toArray) (hv:Vals ys its') (hz:ys.length<=sizeLine) :
 Inv X gj σ (upd H l (.lst ys)) {s with heap:=s.heap.update l (Obj.mapSeq f),toks:=t'}:=by
 have q:=PySem.IsL.update e f;rw[hf] at q;refine I.write (x:=l) (e:=l) (by rw[hH];exact trivial) (.inl rfl) (λb' u hb hu=>(ub9 s.heap (Obj.mapSeq f) (Ne.symm hb)).trans hu) ⟨_,q⟩ ?_;exact⟨hz,its',_,hv,q⟩
theorem Inv.lnew{its:List gk}{t':Nat}(I:Inv X gj σ H s)(hv:Vals ys its)(hz:ys.length<=sizeLine) :
 Inv X gj σ (upd H s.heap.objs.size (.lst ys)) {s with heap:=s.heap.push {cls:=.type "list",data:=.seq its.toArray},toks:=t'}:=
 I.laid (λ_ _ q=>ub8 _ q) (un4 _) ⟨hz,its,0,hv,ud7 _ rfl⟩
theorem Inv.fresh(I:Inv X gj σ H s):H s.heap.objs.size=none:=I.hok.fresh (un4 _)
theorem Inv.lstM(I:Inv X gj σ H s)(hH:H l=some (.lst xs)):xs.length<=sizeLine/\∃(its:List gk) (n:Nat),Vals xs its/\xs.length=its.length/\s.heap.get? l=some {cls:=.type "list",data:=.seq its.toArray n}:=by
 clear 5(I.hok l _ hH)z its n r e;exact⟨z,its,n,r,r.length,e⟩
theorem NS{n:Nat}(h:n<=sizeLine):Builtin.List.listTooLong n=false:=by
 unfold Builtin.List.listTooLong;exact uk1 (by lia)
end
section
variable{X:Cx}
def O8:V->List V->Hp->VK->Prop:=λx vs H Q=>∃l xs y,x=.ref l/\vs=[y]/\H l=some (.lst xs)/\xs.length<sizeLine/\Q .non (upd H l (.lst (xs++[y])))
theorem RU:MtM X "list.append" O8:=by
 intro gj s σ H x vs v us Q I rx rv h;clear 5 h l xs y rfl rfl hH hz q
 cases rx
 clear 5 rv.one u rfl ru;clear 5(I.lstM hH)z its n r hl e;refine jS F.slot_list_append ⟨_,e,rfl⟩ F.entry_list_append (F.args_list_append_2 _ _) (PySem.list_append l its.toArray n u (by rw[uf4];lia)) ⟨e,?_⟩;refine⟨.non,_,I.lset (its':=its++[u]) hH e (by simp) (r.append (.cons ru .nil)) ?_,rfl,q⟩;rw[ue8,uc8];lia
def O9:V->List V->Hp->VK->Prop:=λx vs H Q=>∃l b xs zs,x=.ref l/\vs=[.ref b]/\H l=some (.lst xs)/\H b=some (.lst zs)/\xs.length+zs.length<=sizeLine/\Q .non (upd H l (.lst (xs++zs)))
theorem RV:MtM X "list.extend" O9:=by
 intro gj s σ H x vs v us Q I rx rv h;clear 5 h l b xs zs rfl rfl hH hB hz q
 cases rx
 clear 5 rv.one u rfl ru
 cases ru
 clear 5(I.lstM hH)z its n r hl e;clear 5(I.lstM hB)z2 its2 n2 r2 hl2 e2;have hsz:its.toArray.size+its2.toArray.size<=sizeLine:=by rw[uf4,uf4];lia
 have hlong:¬(!its.toArray.isEmpty&&Builtin.List.listTooLong (its.toArray.size+its2.toArray.size))=true:=by
  rw[NS hsz,uk5];exact ue5
 refine jS F.slot_list_extend ⟨_,e,rfl⟩ F.entry_list_extend (F.args_list_extend_2 _ _)
  (AutoSeq1.list_extend_list_list_0 l its.toArray n b its2.toArray n2 hlong (by rw[uf4];lia) (by lia)) ⟨e,e2,?_⟩
 refine⟨.non,_,I.lset (its':=its++its2) hH e (by simp) (r.append r2) ?_,rfl,q⟩;rw[ue8];lia
def UI:R2:=λx y H Q=>∃l b xs zs,x=.ref l/\y=.ref b/\H l=some (.lst xs)/\H b=some (.lst zs)/\xs.length+zs.length<=sizeLine/\∀p,H p=none->Q (.ref p) (upd H p (.lst (xs++zs)))
theorem R8:OpR X (binaryOp .Add) UI:=by
 intro gj s σ H x y v u Q I rx ry h;clear 5 h l b xs zs rfl rfl hH hB hz q
 cases rx
 cases ry
 clear 5(I.lstM hH)z its n r hl e;clear 5(I.lstM hB)z2 its2 n2 r2 hl2 e2;refine PySem.P.add_list e e2 ?_ (by rw[uf4,uf4];lia);have ea:its.toArray++its2.toArray=(its++its2).toArray:=by simp
 rw[ea];exact⟨.ref _,_,I.lnew (t':=s.toks) (r.append r2) (by rw[ue8];lia),rfl,q _ I.fresh⟩
def d4:R2:=λx y H Q=>∃l k xs,x=.ref l/\y=.int k/\H l=some (.lst xs)/\-(2 ^ 63)<=k/\k<2 ^ 63/\xs.length*k.toNat<=sizeLine/\
 ∀p,H p=none->Q (.ref p) (upd H p (.lst (List.replicate k.toNat xs).flatten))
theorem WA{α:Type}(xs:List α)(k:Nat):(List.replicate k xs).flatten.length=k*xs.length:=by
 induction k with
 |zero=>simp
 |succ k ih=>rw[ud9,uf7,ue8,ih,Nat.succ_mul,Nat.add_comm]
theorem fR:OpR X (binaryOp .Mult) d4:=by
 intro gj s σ H x y v u Q I rx ry h;clear 5 h l k xs rfl rfl hH h1 h2 hz q
 cases rx
 clear 5 ry t rfl;clear 5(I.lstM hH)z its n r hl e;have hlen:its.toArray.size*k.toNat<=sizeLine:=by rw[uf4,<-hl];exact hz
 have hcap:¬its.toArray.size*k.toNat > (2 ^ 63-1)/8:=by
  have:(sizeLine:Nat)<=(2 ^ 63-1)/8:=by decide
  lia
 have hfit:¬(!Builtin.List.listFitsIndex k)=true:=by
  rw[fitsIndex_both h1 h2];exact ue5
 have hlong:¬Builtin.List.listTooLong (its.toArray.size*k.toNat)=true:=by
  rw[NS hlen];exact ue5
 have hnew:List.foldl (λx1 x2=>x1++x2) #[] (List.replicate (if its.toArray.isEmpty=true then 0 else k.toNat) its.toArray)=(List.replicate k.toNat its).flatten.toArray:=by
  have f0:∀m:Nat,List.foldl (λx1 x2=>x1++x2) #[] (List.replicate m its.toArray)=(List.replicate m its).flatten.toArray:=λm=>by
   have:=Mg its m [];rw[uj0] at this;exact this
  rw[f0]
  cases its with
  |nil=>simp
  |cons a r'=>rw[jZ (by simp)]
 refine wpAny_binaryOp_repeat_ref (T:="list") (U:="int") (by decide) ⟨_,e,rfl⟩ (λs'=>jR s' k t) noFill_list_mul F.fills_int_mul F.slot_int_rmul repeat_list F.slot_int_index.lookup
  (jS F.slot_int_rmul (jR s k t) F.entry_int_rmul (F.args_int_rmul_2 _ _) (int___rmul___int_list k t l its.toArray n)
    ⟨e,rfl,⟨_,e,rfl⟩,jS F.slot_list_mul ⟨_,e,rfl⟩ F.entry_list_mul (F.args_list_mul_2 _ _) (AutoListH.list___mul___list_int_3 l its.toArray n k t hfit hcap hlong) ⟨e,?_⟩⟩)
 rw[hnew];exact⟨.ref _,_,I.lnew (t':=s.toks) (r.rep k.toNat) (by rw[WA,jJ];exact hz),rfl,q _ I.fresh⟩
end
section
variable{prog:gq}{w:gu}{A:Around}{E:gk->gn->Prop}{s:gn}
end
section
variable{X:Cx}
end
end L2
namespace Att
open PySem PySem.W PySem.Calls PyProof.Rows
theorem KN{P:Params}{h:Heap}:∀(ns:List Int) (vs:List gk),WellAll P h vs (ns.map WData.int)->IntsAre vs ns:=by
 intro ns
 induction ns with
 |nil=>
   intro vs w;rw[um6] at w
   cases w
   exact .nil
 |cons n ns ih=>
   intro vs w;rw[ul0] at w
   cases w with
   |cons a b=>
     cases a
     exact .cons _ _ (ih _ b)
theorem Sx{l:OpenLaw}{n:Nat}(hn:l.most=some n){P:Params}{h:Heap}{args:List WData}{vals:List gk}
 (hpre:l.row.toRowW.claim.pre args=true) (hwl:WellAll P h vals args) :
 ∃a vs ns,vals=[Value.ref a]/\args=[WData.list (ns.map WData.int)]/\h.get? a=some {cls:=.type "list",data:=.seq vs.toArray}/\IntsAre vs ns/\ns.length<=n:=by
 have hsh:WShape.hasAll [] args [.list .int]=true:=(pre_splitW hpre).1;have hc:l.pre.holds [] {args:=args}=true:=(pre_splitW hpre).2;clear 5(hasAllW_cons hsh)d r rfl h1 h2;obtain rfl:=hasAllW_nil h2;clear 5(hasW_list h1)xs rfl h3;clear 5(items_int h3)ns rfl;have hlen:ns.length<=n:=by
  unfold OpenLaw.pre at hc;have h4:(WTm.not (.lt (.lit (.int (n:Int))) (.len (.arg 0)))).holds [] {args:=[.list (ns.map .int)]}=true:=by
   have h4:=(holds_andW hc).1;rw[hn] at h4;exact h4
  have h5:=condW_of h4 (w_not (w_lt w_lit (w_len_list (w_arg rfl))));rw[ui4] at h5;refine Nat.le_of_not_lt λq=>?_;have q':(n:Int)<((ns.length:Nat):Int):=by lia
  first
   |(rw[uk7 q'] at h5;exact absurd h5 (by decide))
   |(simp at h5;lia)
 cases hwl with
 |cons w1 w2=>
   cases w2
   cases w1 with
   |list ho hall=>exact⟨_,_,ns,rfl,rfl,ho,KN ns _ hall,hlen⟩
theorem Sk(l:OpenLaw)(args:List WData):l.row.toRowW.claim.post args (.bool true) args=true:=
 postW_of (r:=l.row.toRowW) (X:=(true==true))
  (show WShape.has [] (.bool true) .bool=true by first|rfl|decide|simp[WShape.has,WShape.arms,WShape.armsAll])
  (show(WTm.eq .res (.lit (.bool true))).value [] {args:=args,res:=some (.bool true),after:=args}=some (.bool (true==true)) from w_eq_bool (w_res rfl) w_lit) rfl
theorem attach_call{l:OpenLaw}{n:Nat}{q:gq}{loose:List Str}{XP:(Str->Option gk)->Heap->Prop}{YP:gu->Heap->Prop}{d:DefRec}
 (hn:l.most=some n) (hdf:d.params.defaults=[])
 (call:∀(w:gu) (s₀ s₁:gn) (mg mb:Str->Option gk) (fa:gm) (o:Obj) (pm cd doc:gk) (a:gm) (vs:List gk) (ns:List Int),
   Ground q loose [] XP w s₀ mg mb s₁.heap->YP w s₁.heap->
   s₁.heap.get? fa=some o->o.data=.func (docDef d.name d.params d.body d.scope pm cd doc)->s₁.heap.CodeRec cd d.name->mg d.name=some (.ref fa)->
   s₁.heap.get? a=some {cls:=.type "list",data:=.seq vs.toArray}->IntsAre vs ns->ns.length<=n->s₁.gens=#[]->
   codeAny (model l.prog w) callerA (.call (.ref fa) ⟨[.ref a],[]⟩) (λr s'=>r=.ok (.ret (.bool true))/\OldK s₁.heap s'.heap/\s'.os=s₁.os/\AllBare s'.gens) s₁) :
 WalkO q loose XP YP l.row.toRowW d [] (λf vs=>PySem.call f vs):=by
 intro w s₀ s₁ mg mb G Y fa o pm cd doc dV kV ho hd hcd hD hmg hg args vals as hpre hlay hrd hwl hlo;obtain rfl:dV=.none:=Dflts.none hD hdf;obtain rfl:kV=.none:=Dflts.noKw hD;clear 5(Sx hn hpre hwl)a vs ns rfl rfl hobj hints hlen;refine enter_call (jH (call w s₀ s₁ mg mb fa o pm cd doc a vs ns G Y ho (fd_plain hd) hcd hmg hobj hints hlen hg) λr s' hq=>?_);clear 5 hq rfl h2 h3 h4;exact⟨.inl ⟨.bool true,.bool true,[],rfl,λ_=>rfl,.bool true,Sk l _,λ_=>⟨List.Pairwise.nil,λ_ hm=>(nomatch hm)⟩⟩,h2,h3,h4⟩
section
variable{prog:gq}{w:gu}{A:Around}{E:gk->gn->Prop}{s:gn}{K:Frag}
noncomputable def fQ(h:Heap)(L d:gm):List (gm×Obj):=(List.range h.objs.size).filterMap λa=>if a=L\/a=d then none else(h.get? a).map λo=>(a,o)
end
end Att
namespace L2
open PySem PySem.Spec PyProof.Rows
theorem Mu:∀{vs:List gk}{ns:List Int},IntsAre vs ns->Vals (ns.map V.int) vs
 |_,_,.nil=>.nil
 |_,_,.cons n t h=>.cons ⟨t,rfl⟩ (Mu h)
def Ps(H:Hp):Prop:=∀b,H b=none\/∃o xs,H b=some (.frz o (.lst xs))
section
variable{P:gq}{w:gu}{fd:gy}{x:Str}
theorem Ue{K:gi}{mg mb:Str->Option gk}{CX:CXT}{k:Nat}{fa a:gm}{sp:Sp}{s₁:gn}{vs:List gk}{ns:List Int}
 (KX:K.In s₁.heap) (hns:s₁.heap.Ns mainGlobals mg) (hb:s₁.heap.Ns builtinsNs mb) (hbb:∀x:Str,x≠"__name__"->mb x=bootBuiltins x) (hlim:s₁.heap.NoLimit) (hg:s₁.gens=#[])
 (ha:s₁.heap.get? a=some {cls:=.type "list",data:=.seq vs.toArray}) (hi:IntsAre vs ns) (hl:ns.length<=sizeLine) (hr:Room k callerA)
 (F:∀base:Heap,K.In base->base.Ns mainGlobals mg->FnOk P w K mg base CX k fa fd [x] sp) (hbind:∀(s:gn) (u:gk),BindsTo s fd ⟨[u],[]⟩ [(x,u)])
 (hsp:∀H:Hp,Ps H->SqL K H a (ns.map V.int)->sp [.ref a] H (λv _=>v=.bl true) λ_ _ _=>False)
 (hCX:∀H e s',CX [] H s₁ (λ_ _ _=>False) e s'->False) :
 codeAny (model P w) callerA (.call (.ref fa) ⟨[.ref a],[]⟩) (λr s'=>r=.ok (.ret (.bool true))/\OldK s₁.heap s'.heap/\s'.os=s₁.os/\AllBare s'.gens) s₁:=by
 have rv:=Mu hi;have lenV:=hi.length
 -- from an abstract heap in which nothing but the script may be tracked
 have core:∀H:Hp,Ps H->SqL K H a (ns.map V.int)->HOk P w H s₁.heap->(∀b,H b≠none->b=a)->(H a≠none->K.lookup a=none)->
  codeAny (model P w) callerA (.call (.ref fa) ⟨[.ref a],[]⟩) (λr s'=>r=.ok (.ret (.bool true))/\OldK s₁.heap s'.heap/\s'.os=s₁.os/\AllBare s'.gens) s₁:=by
  intro H hO hS hok hA hK;have base_of:∀{b:gm}{o:Obj},s₁.heap.get? b=some o->H b=none->(Hx s₁.heap H).get? b=some o:=λe n=>T7 e n;have noA:∀{b:gm}{o:Obj}{es:Array DictEntry}{ep:Nat},s₁.heap.get? b=some o->o.data=.dict es ep->H b=none:=λ{b o es ep} e d=>by
   cases q:H b with
   |none=>rfl
   |some u=>
     have e':b=a:=hA b (by rw[q];simp);subst e';rw[ha] at e;cases e
     have d':Data.seq vs.toArray _=Data.dict es ep:=d
     cases d'
  have nsK:∀{b:gm}{m:Str->Option gk},s₁.heap.Ns b m->(Hx s₁.heap H).Ns b m:=λ{b m} ⟨o,es,ep,e,d,r⟩=>⟨o,es,ep,base_of e (noA e d),d,r⟩;have hKb:K.In (Hx s₁.heap H):=λb o e=>base_of (KX b o e) (by
   cases q:H b with
   |none=>rfl
   |some u=>
     have e':b=a:=hA b (by rw[q];simp);subst e';rw[hK (by rw[q];simp)] at e;cases e)
  have hM:Mod K mg (Hx s₁.heap H):=⟨hKb,nsK hns,⟨mb,nsK hb,hbb⟩,let ⟨mc,h1,h2⟩:=hlim;⟨mc,nsK h1,h2⟩⟩;have e0:Env0 P w K mg (Hx s₁.heap H) callerA [] s₁ H:=⟨rfl,hM,λb o e=>WQ e,jG (Rl _ _),trivial,λb hb=>absurd (show b∈([]:List gm) from hb) (by simp),hok,.of_eq hg⟩;refine jH ((F _ hKb (nsK hns)).run callerA [] s₁ H ⟨[.ref a],[]⟩ [.ref a] [.ref a] _ _ hr e0 (hbind s₁ (.ref a)) (.cons rfl .nil) (hsp H hO hS)) λr s' h=>?_
  cases r with
  |error e=>exact(hCX H e s' h).elim
  |ok fl=>
    cases fl with
    |next=>exact False.elim h
    |brk=>exact False.elim h
    |cont=>exact False.elim h
    |ret u=>
      clear 5 h v H' os bare un hok' r' q;have q':v=.bl true:=q;subst q';obtain rfl:u=Value.bool true:=r';refine⟨rfl,OldK.of_keep λb o e=>?_,os,bare⟩
      cases q:H b with
      |none=>exact un.keep b o e q (by intro z;exact absurd (show b∈([]:List gm) from z) (by simp)) (by simp)
      |some u=>
        rcases hO b with z|⟨ob,xs,z⟩
        .rw[q] at z;cases z
        .have z2:=un.frzs b ob _ z;obtain⟨e1,_⟩:=hok b _ z;obtain⟨e2,_⟩:=hok' b _ z2;rw[e] at e1;cases e1
         exact e2
 cases hk:K.lookup a with
 |some o=>
   -- the script is one of the module's own objects
   have e:=KX a o hk;rw[ha] at e
   cases e
   refine core (λ_=>none) (λ_=>.inl rfl) (.inr ⟨_,vs.toArray,_,hk,rfl,rfl,rfl,by rw[uf4,lenV];exact hl,by simpa using rv⟩) (λb u z=>by have z':(none:Option HO)=some u:=z;cases z') (λb z=>absurd rfl z) λz=>absurd rfl z
 |none=>
   refine core (λb=>if b=a then some (.frz {cls:=.type "list",data:=.seq vs.toArray} (.lst (ns.map V.int))) else none) (λb=>?_) (.inl (.inr ⟨{cls:=.type "list",data:=.seq vs.toArray},jY rfl⟩)) (λb u z=>?_) (λb z=>?_) λ_=>hk
   .by_cases hb:b=a
    .exact .inr ⟨_,_,jY hb⟩
    .exact .inl (jZ hb)
   .by_cases hb:b=a
    .have z':=(jY hb).symm.trans z
     cases z'
     subst hb;exact⟨ha,by rw[ui4];exact hl,vs,_,rv,ha⟩
    .have z':=(jZ hb).symm.trans z
     cases z'
   .by_cases hb:b=a
    .exact hb
    .exact absurd (jZ hb) z
theorem X9{l:PySem.W.OpenLaw}{n k:Nat}{q:gq}{loose:List Str}{XP:(Str->Option gk)->Heap->Prop}{YP:gu->Heap->Prop}{d:DefRec}{K:Params->gi}{CX:gu->CXT}{sp:gu->Sp}
 (hn:l.most=some n) (hn2:n<=sizeLine) (hdf:d.params.defaults=[]) (hr:Room k callerA)
 (hY:∀(w:gu) (h:Heap),YP w h->(K w.params).In h)
 (F:∀(w:gu) (mg:Str->Option gk) (fa:gm) (h:Heap),(K w.params).In h->h.Ns mainGlobals mg->mg d.name=some (.ref fa)->
   ∃fd:gy,(∀(s:gn) (u:gk),BindsTo s fd ⟨[u],[]⟩ [(x,u)])/\
    ∀base:Heap,(K w.params).In base->base.Ns mainGlobals mg->FnOk l.prog w (K w.params) mg base (CX w) k fa fd [x] (sp w))
 (hsp:∀(w:gu) (H:Hp) (a:gm) (ns:List Int),ns.length<=n->Ps H->SqL (K w.params) H a (ns.map V.int)->sp w [.ref a] H (λv _=>v=.bl true) λ_ _ _=>False)
 (hCX:∀(w:gu) (H:Hp) (s:gn) (e:gk) (s':gn),CX w [] H s (λ_ _ _=>False) e s'->False) :
 PySem.W.WalkO q loose XP YP l.row.toRowW d [] (λf vs=>PySem.call f vs):=by
 refine Att.attach_call hn hdf λw s₀ s₁ mg mb fa o pm cd doc a vs ns G Y ho hd hcd hmg hobj hints hlen hg=>?_;have KX:=hY w _ Y;clear 5(F w mg fa _ KX G.T.g hmg)fd hb hF;exact Ue KX G.T.g G.T.b G.T.builtins G.T.nolimit hg hobj hints (um4 hlen hn2) hr hF hb (λH hO hS=>hsp w H a ns hlen hO hS) λH e s'=>hCX w H s₁ e s'
noncomputable def En(s:Stmt):Arguments:=match s with
 |.FunctionDef _ a _ _ _ _ _ _ _ _=>a
 |_=>{posonlyargs:=[],args:=[],vararg:=none,kwonlyargs:=[],kw_defaults:=[],kwarg:=none,defaults:=[]}
noncomputable def BS(s:Stmt):List Stmt:=match s with
 |.FunctionDef _ _ b _ _ _ _ _ _ _=>b
 |_=>[]
noncomputable def AA(s:Stmt):Scope:=match s with
 |.FunctionDef _ _ _ _ _ _ sc _ _ _=>sc
 |_=>{kind:=.function,names:=[],isGenerator:=false,isCoroutine:=false}
abbrev CX0:CXT:=λ_ _ _ _ _ _=>False
abbrev E0:XK:=λ_ _ _=>False
variable{X:Cx}
theorem HH:FT CX0 X E0:=λ_ _ _ _ _ _ _ h=>h.elim
structure Fun(K:gi)(x qual:Str)(st:Stmt)(f:gm)(fd:gy):Prop where
 ex:∃(oc:gk) (od:Option gm) (kV doc pm:gk) (an:Option gm) (cdv ct:gk) (osl:Array (Option gk)),
  fd=PySem.W.fnOf x qual (En st) (BS st) (AA st) .none kV doc pm an cdv ct/\K.lookup f=some ⟨oc,od,.func fd,osl⟩/\PySem.W.codeIn K cdv qual=true
 kp:PySem.W.keepIn K (.ref f)=true
variable{qual:Str}{f:gm}
section
variable{P:gq}{w:gu}{K:gi}{mg:Str->Option gk}{base:Heap}
theorem Fun.ok{st:Stmt}{N ps:List Str}{k:Nat}{sp:Sp}(F:Fun K x qual st f fd)(S:FnScope N ps (AA st))(len:∀vs H Q E,sp vs H Q E->vs.length=ps.length)
 (hbody:∀(cdv:gk) (A:Around) (outer:List Env) (s:gn) (H:Hp) (vs:List V) (Q:VK) (E:XK),Room k (A.deeper (envOfC qual (AA st) s.heap.objs.size f cdv))->sp vs H Q E->
   ∃t,PSs (EV CX0 P w K mg base N qual (AA st) f cdv A outer s H E).nox (BS st) t/\t {nx:=λ_ H'=>Q .non H',rt:=Q} (start N vs) H):FnOk P w K mg base CX0 (k+1) f fd ps sp:=by
 clear 5 F.ex oc od kV doc pm an cdv ct osl rfl lk hcd;refine Vl lk hcd S len λA outer s H vs Q E hr hsp=>?_;clear 5(hbody cdv A outer s H vs Q E hr hsp)t h q;exact⟨t,h.nox,q⟩
theorem Fun.binds{st:Stmt}{ps:List Str}(F:Fun K x qual st f fd)
 (h:∀(kV doc pm:gk) (an:Option gm) (cdv ct:gk) (us:List gk),us.length=ps.length->bindArgs (PySem.W.fnOf x qual (En st) (BS st) (AA st) .none kV doc pm an cdv ct) ⟨us,[]⟩=pure (ps.zip us)):Binds K fd ps []:=by
 clear 5 F.ex oc od kV doc pm an cdv ct osl rfl lk hcd;exact .all (h kV doc pm an cdv ct)
theorem GP{st:Stmt}{oc:gk}{od an:Option gm}{osl:Array (Option gk)}{kV doc pm cdv ct:gk}(l:K.lookup f=some ⟨oc,od,.func (PySem.W.fnOf x qual (En st) (BS st) (AA st) .none kV doc pm an cdv ct),osl⟩)
 (c:PySem.W.codeIn K cdv qual=true) (k:PySem.W.keepIn K (.ref f)=true):Fun K x qual st f (PySem.W.fnOf x qual (En st) (BS st) (AA st) .none kV doc pm an cdv ct):=⟨⟨oc,od,kV,doc,pm,an,cdv,ct,osl,rfl,l,c⟩,k⟩
end
section
variable{X:Cx}
end
def f8(H H':Hp):Prop:=∀b o,H b=some o->H' b=some o
section
variable{κ:Type}[DecidableEq κ]
noncomputable def D6(kvs:List (κ×V))(k:κ):Option V:=(kvs.find? λkv=>decide (kv.1=k)).map (·.2)
noncomputable def D4(kvs:List (κ×V))(k:κ)(v:V):List (κ×V):=
 if (kvs.any λkv=>decide (kv.1=k))=true then kvs.map (λkv=>if kv.1=k then(kv.1,v) else kv) else kvs++[(k,v)]
theorem HN{p:κ×V}{r:List (κ×V)}{k:κ}(e:p.1=k):D6 (p::r) k=some p.2:=by simp[D6,uj1,e]
theorem HM{p:κ×V}{r:List (κ×V)}{k:κ}(e:¬p.1=k):D6 (p::r) k=D6 r k:=by simp[D6,uj1,e]
theorem Jt(kvs:List (κ×V))(k:κ)(v:V):(D4 kvs k v).length<=kvs.length+1:=by
 unfold D4
 split
 .rw[ui4];lia
 .rw[ue8,ug7,uj2];lia
theorem RelO.isSome_eq{o:Option V}{u:Option gk}(r:RelO o u):o.isSome=u.isSome:=by
 cases o with
 |none=>cases u with
   |none=>rfl
   |some _=>exact(show False from r).elim
 |some _=>cases u with
   |none=>exact(show False from r).elim
   |some _=>rfl
theorem KV.val{kvs:List (κ×V)}{vs:List (κ×gk)}(r:KV kvs vs)(k:κ):RelO (D6 kvs k) (valueAt vs k):=by
 unfold KV at r
 induction r with
 |nil=>exact True.intro
 |@cons p q ps qs h t ih=>
   clear 5 h h1 h2
   by_cases e:p.1=k
   .have e':q.1=k:=h1.symm.trans e;have b:valueAt (q::qs) k=some q.2:=by simp[valueAt,uj1,e']
    rw[HN e,b];exact h2
   .have e':¬q.1=k:=λz=>e (h1.trans z);have b:valueAt (q::qs) k=valueAt qs k:=by simp[valueAt,uj1,e']
    rw[HM e,b];exact ih
theorem KV.any{kvs:List (κ×V)}{vs:List (κ×gk)}(r:KV kvs vs)(k:κ):(kvs.any λkv=>decide (kv.1=k))=vs.any λkv=>decide (kv.1=k):=by
 unfold KV at r
 induction r with
 |nil=>rfl
 |cons h t ih=>rw[ul2,ul2,ih,h.1]
theorem KV.repl{kvs:List (κ×V)}{vs:List (κ×gk)}(r:KV kvs vs)(k:κ){y:V}{u:gk}(ry:RelV y u) :
 KV (kvs.map λkv=>if kv.1=k then(kv.1,y) else kv) (vs.map λkv=>if kv.1=k then(kv.1,u) else kv):=by
 unfold KV at r⊢
 induction r with
 |nil=>exact .nil
 |@cons p q ps qs h t ih=>
   rw[ul0,ul0];refine .cons ?_ ih;clear 5 h h1 h2
   by_cases e:p.1=k
   .rw[jY e,jY (h1.symm.trans e)];exact⟨h1,ry⟩
   .rw[jZ e,jZ (λz=>e (h1.trans z))];exact⟨h1,h2⟩
theorem KV.put{kvs:List (κ×V)}{vs:List (κ×gk)}(r:KV kvs vs)(k:κ){y:V}{u:gk}(ry:RelV y u):KV (D4 kvs k y) (stored vs k u):=by
 unfold D4 stored;rw[r.any k]
 by_cases e:(vs.any λkv=>decide (kv.1=k))=true
 .rw[jY e,jY e];exact r.repl k ry
 .rw[jZ e,jZ e];exact Paired.snoc r ⟨rfl,ry⟩
theorem KV.length{kvs:List (κ×V)}{vs:List (κ×gk)}(r:KV kvs vs):kvs.length=vs.length:=Paired.length r
end
theorem KO{k:Key}{u:gk}(r:RelV (kV k) u):(BT P w).is k u=true:=by
 cases k with
 |inl i=>clear 5((show ∃t,u=Value.int i t from r))t e;subst e;exact Ox P w i t
 |inr x=>clear 5((show ∃t,u=Value.str x t from r))t e;subst e;exact Oy P w x t
theorem Mi{P:gq}{w:gu}:∀{ks:List Key}{us:List gk},Vals (ks.map kV) us->ItemsAre (BT P w) ks us
 |[],_,r=>by rw[um6] at r;cases r;exact .nil
 |k::ks,_,r=>by
   rw[ul0] at r
   cases r with
   |cons h t=>exact .cons (KO h) (Mi t)
abbrev KT(H:Hp):List (List Key×V)->List (List Key×gm×gk)->Prop:=Paired λp q=>p.1=q.1/\H q.2.1=some (.tup (p.1.map kV))/\RelV p.2 q.2.2
theorem KT.val{H:Hp}{kvs:List (List Key×V)}{xs:List (List Key×gm×gk)}(r:KT H kvs xs)(k:List Key):RelO (D6 kvs k) ((atKey xs k).map (·.2)):=by
 induction r with
 |nil=>exact True.intro
 |@cons p q ps qs h t ih=>
   obtain⟨h1,_,h2⟩:=h
   by_cases e:p.1=k
   .have e':q.1=k:=h1.symm.trans e;have b:atKey (q::qs) k=some q.2:=by simp[atKey,uj1,e']
    rw[HN e,b];exact h2
   .have e':¬q.1=k:=λz=>e (h1.trans z);have b:atKey (q::qs) k=atKey qs k:=by simp[atKey,uj1,e']
    rw[HM e,b];exact ih
variable{kvs:List (Key×V)}
section
variable{P:gq}{w:gu}{H:Hp}{h:Heap}{a:gm}
theorem Vv{u:HO}(ok:HOk P w H h)(e:Rd H a u):ObjOk P w H h a u:=e.ok ok
theorem Vi(ok:HOk P w H h)(e:Rd H a (.dK kvs)):kvs.length<=sizeLine/\(a==sysModules)=false/\∃vs,KV kvs vs/\h.DictOf (BT P w) a vs:=
 show ObjOk P w H h a (.dK kvs) from Vv ok e
theorem MG(ok:HOk P w H h)(e:H a=some (.dK kvs)):kvs.length<=sizeLine/\(a==sysModules)=false/\∃vs,KV kvs vs/\h.DictOf (BT P w) a vs:=Vi ok (.inl e)
theorem Rz{ks:List Key}(ok:HOk P w H h)(e:H a=some (.tup (ks.map kV))):(tupleKind (BT P w)).is h ks a:=by
 obtain⟨_,its,r,o,h1,h2,n,h3⟩:=(show ObjOk P w H h a (.tup (ks.map kV)) from ok a _ e);exact⟨o,its.toArray,n,h1,h2,h3,by simpa using Mi r⟩
theorem aY{kvs:List (List Key×V)}(ok:HOk P w H h)(e:Rd H a (.dT kvs)):kvs.length<=sizeLine/\(a==sysModules)=false/\
 ∃xs,KT H kvs xs/\h.DictOfH (tupleKind (BT P w)) a xs:=by
 clear 5((show ObjOk P w H h a (.dT kvs) from Vv ok e))z y xs r o es ep h1 h2 h3 h4 h5;refine⟨z,y,xs,r,o,es,ep,h1,h2,h3,h4,λx hx=>?_,h5⟩;have all:∀{l:List (List Key×V)}{m:List (List Key×gm×gk)},KT H l m->∀x∈m,(tupleKind (BT P w)).is h x.1 x.2.1:=by
  intro l m q
  induction q with
  |nil=>intro x hx;exact nomatch hx
  |@cons p q ps qs hq t ih=>
    intro x hx;rcases uk9.mp hx with e|hx
    .subst e;exact Rz ok (by rw[<-hq.1];exact hq.2.1)
    .exact ih x hx
 exact all r x hx
end
def DGet(H:Hp)(a:gm)(y:V)(r:Option V):Prop:=
 (∃kvs k,Rd H a (.dK kvs)/\y=kV k/\r=D6 kvs k)\/∃kvs k b,Rd H a (.dT kvs)/\y=.ref b/\H b=some (.tup (k.map kV))/\r=D6 kvs k
def fZ(H:Hp)(a:gm)(y v:V)(H':Hp):Prop:=
 (∃kvs k,H a=some (.dK kvs)/\y=kV k/\kvs.length<sizeLine/\H'=upd H a (.dK (D4 kvs k v)))\/
 ∃kvs k b,H a=some (.dT kvs)/\y=.ref b/\H b=some (.tup (k.map kV))/\kvs.length<sizeLine/\H'=upd H a (.dT (D4 kvs k v))
theorem DGet.k{H:Hp}{a:gm}{k:Key}(e:H a=some (.dK kvs)):DGet H a (kV k) (D6 kvs k):=.inl ⟨kvs,k,.inl e,rfl,rfl⟩
section
variable{X:Cx}{gj:List (gm×Obj)}{σ:St}{H:Hp}{s:gn}{a:gm}{y v:V}{u r:gk}{o:Option V}{A:Around}{E:gk->gn->Prop}
theorem Inv.big(I:Inv X gj σ H s):sysModules<s.heap.objs.size:=by
 have h:mainGlobals<s.heap.objs.size:=(I.mod.glob.keeps I.bk).lt;exact Nat.lt_trans (by decide) h
theorem dF{Q:gk->gn->Prop}(hu:A.units+1<cLine)(I:Inv X gj σ H s)(g:DGet H a y o)(ry:RelV y u)(h:∀s',Inv X gj σ H s'->Q (.bool o.isSome) s') :
 wpAny (model X.prog X.w) A (compareOp .In u (.ref a)) Q E s:=by
 rcases g with⟨kvs,k,e,ey,l⟩|⟨kvs,k,b,e,ey,eb,l⟩
 .subst ey;clear 5(Vi I.hok e)z hd vs rel dd;refine wpAny_in_of (KO ry) hd dd.mapOf ?_;rw[<-(rel.val k).isSome_eq,<-l];exact h _ (I.tok _)
 .subst ey
  cases (show u=Value.ref b from ry)
  clear 5(aY I.hok e)z hd xs rel dd;refine wpAny_in_heap (tupleKind_room_in1 hu) (Rz I.hok eb) hd dd ?_;have q:=(rel.val k).isSome_eq;rw[Option.isSome_map] at q;rw[<-q,<-l];exact h _ (I.tok _)
theorem OK{h':Heap}{t':Nat}{ob:HO}(I:Inv X gj σ H s)(mu:Mut (H a))(hs:Heap.SameBut a s.heap h')(he:∃q,h'.get? a=some q)(new:ObjOk X.prog X.w (upd H a ob) h' a ob) :
 Inv X gj σ (upd H a ob) {s with heap:=h',toks:=t'}:=
 I.write (x:=a) (e:=a) mu (.inl rfl) (λb q hb z=>(hs.2 b hb).trans z) he new
theorem Nl{H':Hp}{h':Heap}{vs:List (Key×gk)}(z:kvs.length<=sizeLine)(hd:(a==sysModules)=false)(rel:KV kvs vs)(dd:h'.DictOf (BT P w) a vs) :
 ObjOk P w H' h' a (.dK kvs):=⟨z,hd,vs,rel,dd⟩
end
section
variable{X:Cx}{gj:List (gm×Obj)}{σ:St}{H:Hp}{s:gn}{a:gm}{kvs:List (Key×V)}{k:Key}{u:gk}{A:Around}{E:gk->gn->Prop}
end
section
variable{X:Cx}{o i e value:Expr}{pos pos' tpos:Pos}{td ty tv:TE}
end
theorem Nk{H:Hp}(h:Heap)(hb:sysModules<h.objs.size):ObjOk P w H (h.push {cls:=.type "dict",data:=.dict #[]}) h.objs.size (.dK []):=
 ⟨un5 _,ji.mpr (Ne.symm (um3 hb)),[],.nil,Heap.DictOf.new h⟩
def ao:TE:=λ_ H Q=>∀p,H p=none->Q (.ref p) (upd H p (.dK []))
section
variable{X:Cx}{pos:Pos}
theorem Ux:PE X (.Dict [] [] pos) ao:=λgj s σ H Q I h=>
 wpAny_Dict_empty ⟨.ref s.heap.objs.size,_,I.laid (a:=s.heap.objs.size) (o:=.dK []) (t':=s.toks) (λ_ _ q=>ub8 _ q) (un4 _) (Nk s.heap I.big),rfl,h _ (I.hok.fresh (un4 _))⟩
end
def K6:List (TE×TE)->St->Hp->(List (V×V)->Hp->Prop)->Prop
 |[],_,H,Q=>Q [] H
 |(tk,tv)::r,σ,H,Q=>tk σ H λx H1=>tv σ H1 λy H2=>K6 r σ H2 λps H3=>Q ((x,y)::ps) H3
abbrev VV:List (V×V)->List (gk×gk)->Prop:=Paired λp q=>RelV p.1 q.1/\RelV p.2 q.2
def PPs(X:Cx)(pos:Pos)(keys:List (Option Expr))(values:List Expr)(trs:List (TE×TE)):Prop:=
 ∀(gj:List (gm×Obj)) (s:gn) (σ:St) (H:Hp) (Q:List (V×V)->Hp->Prop),Inv X gj σ H s->K6 trs σ H Q->
  wpAny (model X.prog X.w) X.A (evalPairs (pairTrees keys values X.env pos)) (λvs s'=>∃ps H',Inv X gj σ H' s'/\VV ps vs/\Q ps H') X.xe s
theorem Xa{pos:Pos}:PPs X pos [] [] []:=λgj s σ H Q I h=>pairTrees_nil_walk ⟨[],H,I,.nil,h⟩
theorem UD{pos:Pos}{k v:Expr}{ks:List (Option Expr)}{vs:List Expr}{tk tv:TE}{trs:List (TE×TE)}(hk:PE X k tk)(hv:PE X v tv)(hr:PPs X pos ks vs trs) :
 PPs X pos (some k::ks) (v::vs) ((tk,tv)::trs):=λgj s σ H Q I h=>
 pairTrees_cons_walk (thn (hk gj s σ H _ I h) λu s1 ⟨x,H1,I1,rx,q1⟩=>thn (hv gj s1 σ H1 _ I1 q1) λw2 s2 ⟨y,H2,I2,ry,q2⟩=>
  thn (hr gj s2 σ H2 _ I2 q2) λws s3 ⟨ps,H3,I3,rel,q3⟩=>⟨(x,y)::ps,H3,I3,.cons ⟨rx,ry⟩ rel,q3⟩)
def Gc(kvs more:List (Key×V)):List (Key×V):=more.foldl (λacc kv=>D4 acc kv.1 kv.2) kvs
theorem KV.merge:∀{more:List (Key×V)}{rs:List (Key×gk)}{kvs:List (Key×V)}{vs:List (Key×gk)},KV more rs->KV kvs vs->KV (Gc kvs more) (merged vs rs):=by
 intro more rs kvs vs r;unfold KV at r
 induction r generalizing kvs vs with
 |nil=>intro q;exact q
 |@cons p q ps qs h t ih=>
   intro r0;have e:KV (D4 kvs p.1 p.2) (stored vs q.1 q.2):=by
    have:=r0.put p.1 h.2;rw[<-h.1];exact this
   exact ih e
theorem HV:∀(more kvs:List (Key×V)),(Gc kvs more).length<=kvs.length+more.length
 |[],kvs=>by show kvs.length<=kvs.length+0;lia
 |p::r,kvs=>by
   have h1:=HV r (D4 kvs p.1 p.2);have h2:=Jt kvs p.1 p.2;show(Gc (D4 kvs p.1 p.2) r).length<=_;rw[ug7];lia
theorem Kt{P:gq}{w:gu}:∀{kvs:List (Key×V)}{ws:List (gk×gk)},VV (kvs.map λkv=>(kV kv.1,kv.2)) ws->∃rs,Carries (BT P w) ws rs/\KV kvs rs
 |[],_,r=>by rw[um6] at r;cases r;exact⟨[],True.intro,.nil⟩
 |p::kvs,_,r=>by
   rw[ul0] at r
   cases r with
   |@cons a b as bs h t=>
     clear 5(Kt (P:=P) (w:=w) t)rs c q;clear 5 b b1 b2;exact⟨(p.1,b2)::rs,⟨KO h.1,rfl,c⟩,.cons ⟨rfl,h.2⟩ q⟩
def bZ(trs:List (TE×TE)):TE:=λσ H Q=>∀p,H p=none->K6 trs σ (upd H p (.dK [])) λps H2=>H2 p=some (.dK [])/\∃kvs:List (Key×V),ps=kvs.map (λkv=>(kV kv.1,kv.2))/\kvs.length<=15/\Q (.ref p) (upd H2 p (.dK (Gc [] kvs)))
theorem W1{pos:Pos}{keys:List (Option Expr)}{values:List Expr}{trs:List (TE×TE)}(h:PPs X pos keys values trs)(hall:keys.all (·.isSome)=true)(hl:keys.length=values.length)(h0:keys≠[])
 (h15:keys.length<=15):PE X (.Dict keys values pos) (bZ trs):=by
 intro gj s σ H Q I q;have hn:=I.hok.fresh (un4 s.heap.objs.size);have I1:=I.laid (a:=s.heap.objs.size) (o:=.dK []) (h':=s.heap.push {cls:=.type "dict",data:=.dict #[]}) (t':=s.toks) (λ_ _ q=>ub8 _ q) (un4 _) (Nk s.heap I.big);refine wpAny_Dict_walk (knd:=BT X.prog X.w) hall hl h0 h15 (thn (h gj _ σ _ _ I1 (q _ hn)) λws s2 z9=>?_);clear 5 z9 ps H2 I2 rel e kvs ep lk q2;subst ep;clear 5(Kt (P:=X.prog) (w:=X.w) rel)rs c rk;clear 5(MG I2.hok e)z hd vs0 r0 dd
 cases r0
 refine⟨rs,c,dd,λh' dd' hs=>⟨.ref s.heap.objs.size,_,?_,rfl,q2⟩⟩;have hz:(Gc [] kvs).length<=sizeLine:=by
  have h1:=HV kvs [];rw[uj2] at h1;rw[jN];lia
 have he:∃q,h'.get? s.heap.objs.size=some q:=let ⟨q,_,_,hq,_⟩:=dd';⟨q,hq⟩;exact OK I2 (by rw[e];exact True.intro) hs he (Nl hz hd (rk.merge .nil) dd')
theorem FY{env:Env}:∀(l:List (Str×NameKind)) (cs:List (Str×gm)),(∀x c,cs.lookup x=some c->env.cells.lookup x=some c)->(∀y∈l,y.2=.free->∃c,env.cells.lookup y.1=some c)->
 ∃cl,(forIn l cs λ(x:Str×NameKind) r=>(match x with|(name,kind)=>if (kind==NameKind.free)=true then do let c <-cellOf env name;pure (ForInStep.yield ((name,c)::r)) else pure (ForInStep.yield r):Sem (ForInStep (List (Str×gm)))))=pure cl/\
  (∀x c,cl.lookup x=some c->env.cells.lookup x=some c)/\(∀x c,cs.lookup x=some c->∃c',cl.lookup x=some c')/\∀y∈l,y.2=.free->∃c,cl.lookup y.1=some c
 |[],cs,h,_=>⟨cs,rfl,h,λ_ c e=>⟨c,e⟩,λ_ z=>nomatch z⟩
 |(n,k)::l,cs,h,hf=>by
   by_cases hk:k=.free
   .subst hk;clear 5(hf (n,.free) ue4 rfl)c hc;have hc':env.cells.lookup n=some c:=hc;have e:cellOf env n=pure c:=by unfold cellOf;rw[hc']
    obtain⟨cl,e1,e2,e3,e4⟩:=FY l ((n,c)::cs) (λx c' q=>by
     rw[uh2] at q
     by_cases hx:(x==n)=true
     .rw[hx] at q;cases q;rw[eq_of_beq hx];exact hc'
     .rw[uf9.mpr hx] at q;exact h x c' q) (λy hy=>hf y (ud2 _ hy))
    have self:((n,c)::cs).lookup n=some c:=by rw[uh2,ui1]
    refine⟨cl,?_,e2,λx c' q=>?_,λy hy hyf=>?_⟩
    .rw[List.forIn_cons];simp only[ui1,jW,e];exact e1
    .by_cases hx:(x==n)=true
     .rw[eq_of_beq hx];exact e3 n c self
     .exact e3 x c' (by rw[uh2,uf9.mpr hx];exact q)
    .rcases uk9.mp hy with z|z
     .subst z;exact e3 n c self
     .exact e4 y z hyf
   .have hb:(k==NameKind.free)=false:=by simpa using hk
    clear 5(FY l cs h (λy hy=>hf y (ud2 _ hy)))cl e1 e2 e3 e4;refine⟨cl,?_,e2,e3,λy hy hyf=>?_⟩
    .rw[List.forIn_cons];simp only[hb,ue9,jU];exact e1
    .rcases uk9.mp hy with z|z
     .subst z;exact absurd hyf hk
     .exact e4 y z hyf
theorem Kv{scope:Scope}{env:Env}(h:∀y∈scope.names,y.2=.free->∃c,env.cells.lookup y.1=some c) :
 ∃cl,closureFor scope env=pure cl/\(∀x c,cl.lookup x=some c->env.cells.lookup x=some c)/\∀y∈scope.names,y.2=.free->∃c,cl.lookup y.1=some c:=by
 obtain⟨cl,e1,e2,_,e4⟩:=FY (env:=env) scope.names [] (λ_ _ q=>nomatch q) h;refine⟨cl,?_,e2,e4⟩;simp only[closureFor]
 first|(rw[e1];rfl)|(simp only[e1];rfl)|(trace_state;exact e1)
theorem Nh{prog:gq}{A:Around}{R:Result->gn->Prop}{s:gn}{elt target iter:Expr}{ifs:List Expr}{scope:Scope}{pos:Pos}{it acc:gk}{env:Env}(I:Nat->gn->Prop)
 (turn:∀n s,I n s->wpAny (model prog w) A (pyNext it) (λr s₁=>match r with
   |none=>R (.ok .next) s₁
   | some v=>wpAny (model prog w) A (letOwnedTupleGo target it v) (λ_ s₁'=>wpAny (model prog w) A (assign target env v) (λ_ s₂=>
      wpAny (model prog w) A (forIn ifs true λc r=>if r=true then do let ok <-isTrue c env (eval c env);pure (ForInStep.yield ok) else pure (ForInStep.yield r)) (λok s₃=>
       if ok=true then wpAny (model prog w) A (eval elt env) (λx s₄=>
        wpAny (model prog w) A (call (.builtin "list.append") [acc,x]) (λ_ s₅=>∃m,m<n/\I m s₅) (λ_ _=>False) s₄) (λ_ _=>False) s₃
       else ∃m,m<n/\I m s₃) (λ_ _=>False) s₂) (λ_ _=>False) s₁') (λ_ _=>False) s₁) (λ_ _=>False) s)
 (n:Nat) (h:I n s) :
 codeAny (model prog w) A (.compLoop (.ListComp elt [⟨target,iter,ifs,0⟩] scope pos) 0 it acc env) R s:=by
 refine codeAny_loop rfl I (λn s hI=>?_) n h;show wpAny _ A ((compTurn (.ListComp elt [⟨target,iter,ifs,0⟩] scope pos) 0 it acc env).onRaise (λx=>do noteFrame x env;theTreesLotGoes x)) _ _ s;refine wpAny_noted ?_;rw[compTurn_list];refine un8 (jB (un8 (uo0 (turn n s hI) (λr s₁ h₁=>?_) λ_ _ h'=>h'.elim)))
 cases r with
 |none=>exact un9 h₁
 |some v=>
   refine un8 (uo0 h₁ (λ_ s₁' h₁'=>?_) λ_ _ h'=>h'.elim);refine un8 (uo0 h₁' (λ_ s₂ h₂=>un8 (uo0 h₂ (λok s₃ h₃=>?_) λ_ _ h'=>h'.elim)) λ_ _ h'=>h'.elim)
   cases ok with
   |false=>exact un9 ⟨rfl,h₃⟩
   |true=>
     exact un8 (un8 (uo0 h₃ (λx s₄ h₄=>un8 (uo0 h₄ (λ_ s₅ h₅=>un9 (un9 ⟨rfl,h₅⟩)) λ_ _ h'=>h'.elim)) λ_ _ h'=>h'.elim))
end
noncomputable def Ci(X:Cx)(N':List Str)(scope:Scope)(cl:List (Str×gm))(C:gm)(s2:gn)(H2:Hp)(fp:List gm):Cx where
 prog:=X.prog
 w:=X.w
 K:=X.K
 mg:=X.mg
 base:=X.base
 A:=X.A
 N:=N'
 s₀:=s2
 H₀:=H2
 env:=compEnvC scope cl C X.env
 outer:=X.stack
 stack:=X.stack
 ex:=fp
 fn:=λx=>scope.names.lookup x==some .cell
 calm:=X.calm
 pn:=[]
 xe:=λ_ _=>False
theorem Ju(h:Str->NameKind->NameKind)(x:Str):∀l:List (Str×NameKind),(l.map λp=>(p.1,h p.1 p.2)).lookup x=(l.lookup x).map (h x)
 |[]=>rfl
 |(n,k)::l=>by
   show List.lookup x ((n,h n k)::_)=_;rw[uh2,uh2]
   by_cases hx:(x==n)=true
   .rw[hx,eq_of_beq hx];rfl
   .rw[uf9.mpr hx];exact Ju h x l
theorem GY(scope:Scope)(env:Env)(x:Str):(relabel scope env).names.lookup x=(scope.names.lookup x).map λk=>if (k==.free&&env.scope.kind==.function&&env.kindOf x==some .cell)=true then .cell else k:=by
 rw[<-Ju (λn k=>if (k==NameKind.free&&env.scope.kind==.function&&env.kindOf n==some .cell)=true then .cell else k) x scope.names];unfold relabel;dsimp only
 congr 1
 apply ue0;intro p _;clear 5 p n k;dsimp only
 split<;>rfl
theorem CT{x:Str}{k:NameKind}:∀{l:List (Str×NameKind)},l.lookup x=some k->(x,k)∈l
 |(n,k')::l,h=>by
   rw[uh2] at h
   by_cases hx:(x==n)=true
   .rw[hx] at h;cases h;rw[eq_of_beq hx];exact ue4
   .rw[uf9.mpr hx] at h;exact ud2 _ (CT h)
theorem N5{scope:Scope}{env:Env}{x:Str}(h:(relabel scope env).names.lookup x=some .cell\/(relabel scope env).names.lookup x=some .free):scope.names.lookup x=some .free\/scope.names.lookup x=some .cell:=by
 rw[GY] at h
 cases e:scope.names.lookup x with
 |none=>rw[e] at h;rcases h with h|h<;>cases h
 |some k=>
   by_cases hk:k=.free
   .rw[hk];exact .inl rfl
   .have hb:(k==NameKind.free)=false:=by simpa using hk
    rw[e] at h;simp only[uj3,hb,uk3,ue9,jU] at h;rcases h with h|h
    .cases h;exact .inr rfl
    .cases h;exact absurd rfl hk
def PIf(X:Cx)(ifs:List Expr)(t:TT):Prop:=
 ∀(gj:List (gm×Obj)) (s:gn) (σ:St) (H:Hp) (Q:Bool->Hp->Prop),Inv X gj σ H s->t σ H Q->
  wpAny (model X.prog X.w) X.A (forIn ifs true λc r=>if r=true then do let ok <-isTrue c X.env (eval c X.env);pure (ForInStep.yield ok) else pure (ForInStep.yield r)) (TP X gj σ Q) X.xe s
def b8:TT:=λ_ H Q=>Q true H
theorem W6{X:Cx}:PIf X [] b8:=λ_ _ _ H _ I h=>wpAny_tests_nil ⟨H,I,h⟩
def SH(J:It)(g:TG)(tt:TT)(te:TE)(σ₀:St)(H1:Hp)(Fin:List V->Hp->Prop):Prop:=
 ∃W:Nat->Nat->List V->St->Hp->Prop,(∃m,W 0 m [] σ₀ H1)/\∀i m acc σ' H',W i m acc σ' H'->acc.length<=sizeLine/\
  ((J.stop i H'/\Fin acc H')\/
    (J.go i H'/\∀x H2,J.yld i H' x H2->g x σ' H2 λσ3 H3=>tt σ3 H3 λb H4=>if b=true then te σ3 H4 λv H5=>∃m',m'<m/\W (i+1) m' (acc++[v]) σ3 H5 else ∃m',m'<m/\W (i+1) m' acc σ3 H4))
def Qt(wi:TI)(g:TG)(tt:TT)(te:TE)(σf:St->St):TE:=λσ H Q=>wi σ H λJ H1=>SH J g tt te (σf σ) H1 λacc H'=>∀p,H' p=none->acc.length<=sizeLine->Q (.ref p) (upd H' p (.lst acc))
section
variable{cl:List (Str×gm)}
section
variable{M:Model}{A:Around}{E:gk->gn->Prop}{s:gn}
theorem WK{scope:Scope}{globals:gm}{qual:Str}{env:Env}{Q:Env->gn->Prop}
 (hQ:Q (newEnv scope s.heap.objs.size globals (cellsFrom (s.heap.objs.size+1) scope.names cl) qual none .none (some env) builtinsNs) {s with heap:=pushCells (s.heap.push {cls:=.type "dict",data:=.dict #[]}) scope.names}) :
 wpAny M A (newFunctionEnv scope globals cl [] qual none .none (some env)) Q E s:=by
 simp only[newFunctionEnv,Option.isSome_some,jW];refine un8 (wpAny_alloc ?_);refine un8 (wpAny_layCells _ (λname kind cells=>by cases hkc:kind==NameKind.cell<;>simp[hkc]) _ _ _ _ ?_);rw[show({s with heap:=s.heap.push {cls:=.type "dict",data:=.dict #[]} }:gn).heap.objs.size=s.heap.objs.size+1 from uk4 ..];exact un8 (un9 (un9 hQ))
end
structure CmpOk(X:Cx)(scope:Scope)(N':List Str)(σf:St->St):Prop where
 kind:scope.kind=.function
 cf:∃k:Option Str,(∀n cl,cellsFrom n scope.names cl=match k with|none=>cl|some x=>(x,n)::cl)/\(∀y,scope.names.lookup y=some .cell->k=some y)/\(∀y,k=some y->scope.names.lookup y=some .cell)
 loc:∀y∈scope.names,y.2=.local->scope.names.lookup y.1=some .local
 free:∀y∈scope.names,y.2=.free->X.env.kindOf y.1=some .cell\/X.env.kindOf y.1=some .free
 len:∀σ:St,σ.length=X.N.length->(σf σ).length=N'.length
 vals:∀(σ:St) (j:Nat) (x:Str) (v:V),N'[j]?=some x->(σf σ)[j]?=some (some v)->∃i:Nat,X.N[i]?=some x/\σ[i]?=some (some v)/\scope.names.lookup x=some .free
variable{gj:List (gm×Obj)}{σ:St}{H2:Hp}{s2:gn}{fp:List gm}
section
variable{X:Cx}{tg elt iter:Expr}{ifs:List Expr}{scope:Scope}{pos:Pos}{N':List Str}{wi:TI}{g:TG}{tt:TT}{te:TE}{σf:St->St}
theorem Yy{C:gm}(O:CmpOk X scope N' σf)(I2:Inv X gj σ H2 s2)(f2:∀b∈fp,FpOk X gj H2 b)(hC:s2.heap.objs.size<=C)
 (hlt:∀b∈fp,b<s2.heap.objs.size) (e3:∀x c,cl.lookup x=some c->X.env.cells.lookup x=some c\/s2.heap.objs.size<=c) (ei:∀x y c,cl.lookup x=some c->cl.lookup y=some c->x=y) (e5:∀x c,scope.names.lookup x=some .cell->cl.lookup x=some c->s2.heap.objs.size<=c) (e4:∀y,scope.names.lookup y=some .free\/scope.names.lookup y=some .cell->∃c,cl.lookup y=some c):(Ci X N' scope cl C s2 H2 fp).Ok where
 mod:=I2.ok.mod
 kind:=O.kind
 glob:=I2.ok.glob
 blt:=I2.ok.blt
 above:=hC
 inj:=ei
 has:=λx h=>e4 x (N5 (env:=X.env) (x:=x) h)
 cab:=λx c h e=>e5 x c (by simpa[Ci] using h) e
 hd:=I2.ok.hd
 frames:=I2.ok.frames
 stk:=.inl rfl
 exf:=λb hb=>⟨um3 (ue3 (hlt b hb) hC),λx c e=>(e3 x c e).elim (λz=>(f2 b hb).2.2.2.2.1 x c z) λz=>um5 (ue3 (hlt b hb) z)⟩
 bs:=I2.bs
 bsz:=um4 I2.ok.bsz I2.sz
 noex:=λb o e hb=>by
  rcases (f2 b hb).2.2.2.1 with z|z
  .exact I2.ok.noex b o e z
  .exact absurd (ue3 (um2 (I2.ok.bs b o e).1) z) (uk8 _)
 exfs:=λb hb z=>by
  rcases uk9.mp (I2.stkSub b z) with q|q
  .exact(f2 b hb).2.1 q
  .exact(f2 b hb).2.2.1 q
 funs:=I2.stack
 frf:=I2.stkFree
theorem aj(I2:Inv X gj σ H2 s2){a:gm}(h:s2.heap.objs.size<=a):a∉frs X.stack:=λhb=>by
 rcases uk9.mp (I2.stkSub a hb) with q|q
 .exact absurd (ue3 I2.lt h) (by rw[q];exact uk8 _)
 .exact I2.nofs h q
theorem MZ{it:gm}{tn:Nat->Heap->Prop}{J:It}{Fin:List V->Hp->Prop}{RR:gk->gm->Result->gn->Prop}{E:gk->gn->Prop}(O:CmpOk X scope N' σf)(hc:X.calm=true)
 (I2:Inv X gj σ H2 s2) (T:Turn X.prog X.w X.K tg J fp it tn) (st2:tn 0 s2.heap) (f2:∀b∈fp,FpOk X gj H2 b)
 (e2:∀x c,cl.lookup x=some c->X.env.cells.lookup x=some c) (e4:∀y∈scope.names,y.2=.free->∃c,cl.lookup y.1=some c)
 (hg:∀cl C,PG (Ci X N' scope cl C s2 H2 fp) tg g) (ht:∀cl C,PIf (Ci X N' scope cl C s2 H2 fp) ifs tt) (he:∀cl C,PE (Ci X N' scope cl C s2 H2 fp) elt te)
 (B:SH J g tt te (σf σ) H2 Fin)
 (fin:∀cl C s' σ' H' acc m,s2.heap.objs.size<=C->C≠s2.heap.objs.size->Inv (Ci X N' scope cl C s2 H2 fp) [] σ' H' s'->H' s2.heap.objs.size=none->acc.length<=sizeLine->(∃its n,Vals acc its/\s'.heap.get? s2.heap.objs.size=some { cls:=.type "list",data:=.seq its.toArray n })->Fin acc H'->s'.heap.Ns C m->
   RR (.ref s2.heap.objs.size) C (.ok .next) s') :
 wpAny (model X.prog X.w) X.A (newList []) (λacc s₃=>wpAny (model X.prog X.w) X.A (newFunctionEnv scope X.env.globals cl [] X.env.qual none .none (some X.env)) (λcenv s₄=>
  codeAny (model X.prog X.w) X.A (.compStart (.ListComp elt [⟨tg,iter,ifs,0⟩] scope pos) 0 (.ref it) acc {cenv with scope:=relabel scope X.env}) (RR acc cenv.locals) s₄) E s₃) E s2:=by
 refine jp (WK ?_);dsimp only;generalize hH2:s2.heap.push {cls:=.type "list",dict:=none,data:=.seq ([]:List gk).toArray}=HP;have hC:HP.objs.size=s2.heap.objs.size+1:=by rw[<-hH2,uk4]
 generalize hDD:s2.heap.objs.size=DD at *;generalize hCC:HP.objs.size=CC at *;clear 5 O.cf kc hcf hk1 hk2;obtain⟨h₁,hh₁⟩:∃h₁,h₁=pushCells (HP.push {cls:=.type "dict",data:=.dict #[]}) scope.names:=⟨_,rfl⟩;obtain⟨cs,hcs⟩:∃cs,cs=cellsFrom (CC+1) scope.names cl:=⟨_,rfl⟩;rw[<-hh₁,<-hcs];have hkp:∀b o,HP.get? b=some o->h₁.get? b=some o:=λb o e=>by rw[hh₁];exact pushCells_keeps _ _ b o (ub8 _ e)
 have hns₁:h₁.Ns CC (λ_=>none):=by rw[hh₁,<-hCC];exact(Heap.Ns.new HP (.type "dict")).keeps (pushCells_keeps _ _)
 have hcn:∀k,kc=some k->h₁.IsCell (CC+1) none:=λk hk=>by
  have ok:=cellsFrom_ok scope.names (HP.push {cls:=.type "dict",data:=.dict #[]}) (CC+1) [] ⟨λ_ _ hm=>(nomatch hm),List.Pairwise.nil⟩ (by rw[uk4,hCC];exact un4 _);rw[uk4,hCC,hcf,hk,<-hh₁] at ok;exact(ok.empty k (CC+1) ue4).1
 have hDC:DD≠CC:=by rw[hC];exact um3 (ug8 _)
 have hCle:s2.heap.objs.size<=CC:=by rw[hC,hDD];exact un6 _
 have hlt:∀b∈fp,b<s2.heap.objs.size:=λb hb=>by obtain⟨o,e,_⟩:=T.obj _ _ st2 b hb;exact um2 e
 have hlt':∀b∈fp,b<DD:=λb hb=>by rw[<-hDD];exact hlt b hb
 have below:∀b,b<DD->b≠CC/\b≠DD:=λb hb=>⟨by rw[hC];exact um3 (ug0 hb),um3 hb⟩;have old:∀b o,s2.heap.get? b=some o->h₁.get? b=some o:=λb o e=>hkp b o (hH2 ▸ ub8 _ e);have hacc:h₁.get? DD=some {cls:=.type "list",data:=.seq ([]:List gk).toArray}:=by
  refine hkp _ _ ?_;rw[<-hH2,<-hDD];exact ud7 _ rfl
 have lt2:∀x c,X.env.cells.lookup x=some c->c<s2.heap.objs.size:=λx c e=>by clear 5(I2.cell x c e)v q;exact q.lt
 have hCn:s2.heap.objs.size<=CC+1:=Nat.le_succ_of_le hCle;have cs0:∀x c,cs.lookup x=some c->(kc=some x/\c=CC+1)\/(kc≠some x/\cl.lookup x=some c):=λx c e=>by
  rw[hcs,hcf] at e
  cases kc with
  |none=>exact .inr ⟨by simp,e⟩
  |some k=>
    dsimp only at e;rw[uh2] at e
    by_cases q:(x==k)=true
    .rw[q] at e;cases e;exact .inl ⟨by rw[eq_of_beq q],rfl⟩
    .rw[uf9.mpr q] at e;exact .inr ⟨λz=>q (by cases z;simp),e⟩
 have cs1:∀x c,cl.lookup x=some c->kc≠some x->cs.lookup x=some c:=λx c e n=>by
  rw[hcs,hcf]
  cases kc with
  |none=>exact e
  |some k=>
    dsimp only;rw[uh2,show(x==k)=false from by simpa using λz=>n (by rw[z])];exact e
 have cs2:∀k,kc=some k->cs.lookup k=some (CC+1):=λk hk=>by
  rw[hcs,hcf,hk];dsimp only;rw[uh2,ui1]
 have fn0:∀x,scope.names.lookup x=some .free->kc≠some x:=λx h z=>by rw[hk2 x z] at h;cases h
 have ok:=Yy (cl:=cs) (C:=CC) O I2 f2 hCle hlt (λx c e=>(cs0 x c e).elim (λz=>.inr (by rw[z.2];exact hCn)) λz=>.inl (e2 x c z.2))
  (λx y c h1 h2=>by
    rcases cs0 x c h1 with z|z<;>rcases cs0 y c h2 with z'|z'
    .have:=z.1.symm.trans z'.1;cases this;rfl
    .have:=lt2 y c (e2 y c z'.2);rw[z.2] at this;exact absurd (ue3 this hCn) (uk8 _)
    .have:=lt2 x c (e2 x c z.2);rw[z'.2] at this;exact absurd (ue3 this hCn) (uk8 _)
    .exact I2.ok.inj x y c (e2 x c z.2) (e2 y c z'.2))
  (λx c h e=>(cs0 x c e).elim (λz=>by rw[z.2];exact hCn) λz=>absurd (hk1 x h) z.1)
  (λy h=>h.elim (λz=>by clear 5(e4 _ (CT z) rfl)c q;exact⟨c,cs1 y c q (fn0 y z)⟩) λz=>⟨_,cs2 y (hk1 y z)⟩)
 have hfs:DD∉frs X.stack:=aj I2 (by rw[hDD];exact un4 _);obtain⟨W,⟨m0,w0⟩,turn⟩:=B
 let X':Cx:=Ci X N' scope cs CC s2 H2 fp
 have I0:Inv X' [] (σf σ) H2 {s2 with heap:=h₁ }:=by
  refine⟨ok,rfl,I2.bare,Un.kept old,⟨_,hns₁,λj x v q1 q2 q3=>?_⟩,λx c e=>?_,I2.hok.fresh hCle,λx c e=>(cs0 x c e).elim (λz=>by rw[z.2];exact I2.hok.fresh hCn) (λz=>I2.freeC x c (e2 x c z.2)),(λp hp=>nomatch hp),I2.hok.kept old,O.len σ I2.len⟩
  .clear 5(O.vals σ j x v q1 q2)i n1 n2 n3;obtain⟨m,_,hl⟩:=I2.loc;have hfr:=O.free _ (CT n3) rfl;clear 5(hl i x v n1 n2 (.inr hfr))u r l;refine⟨u,r,?_⟩;rcases l with⟨k,_⟩|⟨_,c,ec,hcell⟩
   .rcases hfr with z|z<;>(have z':=k.symm.trans z;cases z')
   .clear 5(e4 _ (CT n3) rfl)c' ec';have z:=e2 _ _ ec';have ez:X.env.cells.lookup x=some c':=z;rw[ec] at ez
    cases ez
    refine .inr ⟨?_,c,cs1 x c ec' (fn0 x n3),?_⟩
    .show(relabel scope X.env).names.lookup x=some .cell\/(relabel scope X.env).names.lookup x=some .free;rw[GY,n3];simp only[uj3]
     split
     .exact .inl rfl
     .exact .inr rfl
    .clear 5 hcell o ho hd;exact⟨o,old _ _ ho,hd⟩
  .rcases cs0 x c e with z|z
   .rw[z.2];exact⟨none,hcn x z.1⟩
   .clear 5(I2.cell x c (e2 x c z.2))v o ho hd;exact⟨v,o,old _ _ ho,hd⟩
 have loop:∀s₃:gn,s₃ = {s2 with heap:=h₁ }->
  codeAny (model X.prog X.w) X.A (.compLoop (.ListComp elt [⟨tg,iter,ifs,0⟩] scope pos) 0 (.ref it) (.ref DD) (compEnvC scope cs CC X.env)) (RR (.ref DD) CC) s₃:=by
  rintro s₃ rfl;refine Nh (λn s'=>∃i acc its nn σ' H',Inv X' [] σ' H' s'/\tn i s'.heap/\(∀b∈fp,H' b=none)/\Vals acc its/\s'.heap.get? DD=some {cls:=.type "list",data:=.seq its.toArray nn}/\H' DD=none/\W i n acc σ' H') ?_ m0
   ⟨0,[],[],0,σf σ,H2,I0,T.keep _ _ _ st2 (λb _ o e=>old b o e),λb hb=>(f2 b hb).1,.nil,hacc,I2.hok.fresh (by rw[hDD];exact un4 _),w0⟩
  rintro n s' ⟨i,acc,its,nn,σ3,H3,I3,st3,fr3,hv,hD,hDn,w3⟩;have I3p:Inv X' [(DD,({cls:=.type "list",data:=.seq its.toArray nn}:Obj))] σ3 H3 s':=I3.pins_of λp hp=>by
   have e:p=(DD,({cls:=.type "list",data:=.seq its.toArray nn}:Obj)):=by simpa using hp
   subst e;exact⟨hD,hDn,hDC,hfs,λv z=>nomatch z⟩
  have stat:∀{pins':List (gm×Obj)}{H':Hp},(∀p∈pins',p.1=DD)->(∀b∈fp,H' b=none)->∀b∈fp,FpOk X' pins' H' b:=λ{pins' H'} hp hn b hb=>
   ⟨hn b hb,(ok.exf b hb).1,ok.exfs b hb,.inl hb,(ok.exf b hb).2,λp hp' z=>by
    have e:p.1=DD:=hp p (by simpa[X',Ci] using hp');exact absurd (hlt' b hb) (by rw[<-z,e];exact uk8 _)⟩
  have one:∀p∈[(DD,({cls:=.type "list",data:=.seq its.toArray nn}:Obj))],p.1=DD:=λp hp=>by
   have e:p=(DD,({cls:=.type "list",data:=.seq its.toArray nn}:Obj)):=by simpa using hp
   rw[e]
  clear 5(turn i n acc σ3 H3 w3)hz tr;rcases tr with⟨stop,qf⟩|⟨go,step⟩
  .refine thn (T.done X' rfl rfl rfl hc i _ s' σ3 H3 (λ_ _=>False) I3p (stat one fr3) st3 stop) λr s4 z9=>?_;clear 5 z9 hr I4;subst hr;obtain⟨m4,hm4,_⟩:=I4.loc;have pD:=(I4.pin (DD,({cls:=.type "list",data:=.seq its.toArray nn}:Obj)) (by simp[X',Ci])).1;have I4':Inv X' [] σ3 H3 s4:=I4.pins_of λp hp=>nomatch hp;exact fin cs CC s4 σ3 H3 acc m4 (by rw[hDD] at hCle;exact hCle) (Ne.symm hDC) I4' hDn hz ⟨its,nn,hv,pD⟩ qf hm4
  .refine thn (T.item X' rfl rfl rfl hc i _ s' σ3 H3 (λ_ _=>False) I3p (stat one fr3) st3 go) λr s4 z9=>?_;clear 5 z9 u hr h4;subst hr;refine thn h4 λ_ s5 z9=>?_;clear 5 z9 x H5 I5 r5 y5 st5 fr5;have I5':=I5.pinned (stat one fr5) (T.obj _ _ st5);refine thn (hg cs CC _ s5 σ3 H5 x u _ I5' r5 (step x H5 y5)) λ_ s6 z9=>?_;clear 5 z9 σ6 H6 I6 q6;refine thn (ht cs CC _ s6 σ6 H6 _ I6 q6) λb s7 z9=>?_;clear 5 z9 H7 I7 q7;have back:∀{H8:Hp}{s8:gn},Inv X' ([(DD,({cls:=.type "list",data:=.seq its.toArray nn}:Obj))]++ID fp s5.heap) σ6 H8 s8->
    s8.heap.get? DD=some {cls:=.type "list",data:=.seq its.toArray nn}/\H8 DD=none/\tn (i+1) s8.heap/\(∀b∈fp,H8 b=none)/\Inv X' [] σ6 H8 s8:=λ{H8 s8} I8=>by
    have p1:=I8.pin (DD,({cls:=.type "list",data:=.seq its.toArray nn}:Obj)) (by simp[X',Ci]);refine⟨p1.1,p1.2.1,T.keep _ _ _ st5 λb hb o e=>(I8.pin (b,o) (uc5 _ (uc5 _ (FJ hb e)))).1,λb hb=>?_,I8.pins_of λp hp=>nomatch hp⟩;obtain⟨o,e,_⟩:=T.obj _ _ st5 b hb;exact(I8.pin (b,o) (uc5 _ (uc5 _ (FJ hb e)))).2.1
   cases b with
   |false=>
     rw[jZ ue5] at q7⊢;clear 5 q7 m' hm w7;clear 5(back I7)a1 a2 a3 a4 a5;exact⟨m',hm,i+1,acc,its,nn,σ6,H7,a5,a3,a4,hv,a1,a2,w7⟩
   |true=>
     rw[jY rfl] at q7⊢;refine thn (he cs CC _ s7 σ6 H7 _ I7 q7) λy s8 z9=>?_;clear 5 z9 v8 H8 I8 r8 m' hm w8;clear 5(back I8)a1 a2 a3 a4 a5;have hsz:its.toArray.size<=sizeLine:=by
      have e:=hv.length;simpa[e] using hz
     refine wpAny_list_append_plain (hsz:=hsz) ⟨nn,a1⟩ λh9 hl9 hs9=>?_;clear 5 hl9 n9 e9;have e9':h9.get? DD=some {cls:=.type "list",data:=.seq (its++[y]).toArray n9}:=by simpa using e9
     refine⟨m',hm,i+1,acc++[v8],its++[y],n9,σ6,H8,a5.turned (t':=s8.toks) (h':=h9) (it:=DD) (λb o hb e=>hs9.extBut b o hb e) a2 hDC (.inr (show s2.heap.objs.size<=DD by rw[hDD];exact un4 _)) (λx' c e z=>?_) (λp hp=>nomatch hp),T.keep _ _ _ a3 λb hb o e=>hs9.extBut b o (um3 (hlt' b hb)) e,a4,hv.append (.cons r8 .nil),e9',a2,w8⟩;rcases cs0 x' c e with q|q
     .rw[q.2] at z;have z2:s2.heap.objs.size<=CC:=by rw[hDD];rw[hDD] at hCle;exact hCle
      rw[hDD,<-z] at z2;exact uk8 _ z2
     .have:=lt2 x' c (e2 x' c q.2);rw[hDD,z] at this;exact uk8 _ this
 exact codeAny_compStart_list (loop _ rfl) (T.self _ 0 _ _ _ (T.keep _ _ _ st2 λb _ o e=>old b o e) (loop _ rfl))
end
section
variable{X:Cx}{tg elt iter:Expr}{ifs:List Expr}{scope:Scope}{pos:Pos}{N':List Str}{wi:TI}{g:TG}{tt:TT}{te:TE}{σf:St->St}
theorem Mb{σ':St}{H':Hp}{s':gn}{C:gm}{acc:List V}{its:List gk}{n:Nat}{h':Heap}(I2:Inv X gj σ H2 s2)(f2:∀b∈fp,FpOk X gj H2 b)
 (hC:s2.heap.objs.size<=C) (hCD:C≠s2.heap.objs.size) (I':Inv (Ci X N' scope cl C s2 H2 fp) [] σ' H' s') (hDn:H' s2.heap.objs.size=none) (hz:acc.length<=sizeLine) (hv:Vals acc its)
 (hD:s'.heap.get? s2.heap.objs.size=some {cls:=.type "list",data:=.seq its.toArray n}) (hs:Heap.SameBut C s'.heap h') :
 Inv X gj σ (upd H' s2.heap.objs.size (.lst acc)) {s' with heap:=h'}:=by
 have U:=I'.base;have lt:∀b o,s2.heap.get? b=some o->b≠C/\b≠s2.heap.objs.size:=λb o e=>⟨um3 (ue3 (um2 e) hC),um3 (um2 e)⟩;have neD:∀b u,H' b=some u->b≠s2.heap.objs.size:=λb u e=>AH e hDn;have neC:∀b u,H' b=some u->b≠C:=λb u e=>AH e I'.free;refine I2.call' (s':={s' with heap:=h'}) (ch:=fp) I'.os ⟨λb o e n hb hx=>?_,λb o e n hb hx=>?_,λb o e n hx=>?_,λb o e hx=>?_,λb xs e=>?_,λb o u e=>?_,λb ps e=>?_⟩ ?_ I'.bare λb hb=>⟨(f2 b hb).2.2.2.1,(f2 b hb).2.1,(f2 b hb).2.2.2.2.1,(f2 b hb).2.2.2.2.2⟩
 .exact hs.extBut b o (lt b o e).1 (U.keep b o e n hb hx)
 .clear 5(U.slot b o e n hb hx)sl q;exact⟨sl,hs.extBut b _ (lt b o e).1 q⟩
 .rw[Aq (lt b o e).2];exact U.free b o e n hx
 .clear 5(U.there b o e hx)o' q;exact⟨o',hs.extBut b _ (lt b o e).1 q⟩
 .have q:=U.tups b xs e;rw[Aq (neD b _ q)];exact q
 .have q:=U.frzs b o u e;rw[Aq (neD b _ q)];exact q
 .clear 5(U.tbls b ps e)m q;exact⟨m,by rw[Aq (neD b _ q)];exact q⟩
 .intro b u e
  by_cases hb:b=s2.heap.objs.size
  .subst hb;rw[AC] at e
   cases e
   exact⟨hz,its,n,hv,hs.extBut _ _ (Ne.symm hCD) hD⟩
  .rw[Aq hb] at e;refine(I'.hok b u e).stay (λc v hc q=>hs.extBut c v ?_ q) (λc q=>by rw[Aq (neD c _ q)];exact q) λc xs q=>by rw[Aq (neD c _ q)];exact q
   rcases hc with z|z
   .rw[z];exact neC b u e
   .exact neC c _ z
theorem W0(O:CmpOk X scope N' σf)(hc:X.calm=true)(hi:PI X tg iter wi)
 (hg:∀cl C s2 H2 fp,PG (Ci X N' scope cl C s2 H2 fp) tg g) (ht:∀cl C s2 H2 fp,PIf (Ci X N' scope cl C s2 H2 fp) ifs tt) (he:∀cl C s2 H2 fp,PE (Ci X N' scope cl C s2 H2 fp) elt te)
 (hs:∀x,foldedSetIterable iter X.env x=pure x:=by intro _;rfl):PE X (.ListComp elt [⟨tg,iter,ifs,0⟩] scope pos) (Qt wi g tt te σf):=by
 intro gj s σ H Q I h;obtain⟨cl,e1,e2,e4⟩:=Kv (scope:=scope) (env:=X.env) λy hy hf=>I.ok.has y.1 (O.free y hy hf);rw[eval_ListComp];refine wpAny_comprehension_free (use:=none) rfl hs e1 O.kind O.loc (thn (hi gj s σ H _ I h) λv s1 h1=>thn h1 λitv s2 h2=>?_);clear 5 h2 it fp tn J H2 rfl I2 T st2 f2 B;refine MZ (RR:=λacc C=>compPost (model X.prog X.w) X.A X.xe none (EP X gj σ Q) acc C) O hc I2 T st2 f2 e2 e4 (λcl C=>hg cl C s2 H2 fp) (λcl C=>ht cl C s2 H2 fp) (λcl C=>he cl C s2 H2 fp) B ?_;intro cl' C s' σ' H' acc m hC hCD I' hDn hz hL fin hn;clear 5 hL its n hv hD;refine⟨m,hn,λh' hs'=>?_⟩;exact⟨.ref s2.heap.objs.size,upd H' _ (.lst acc),Mb I2 f2 hC hCD I' hDn hz hv hD hs',rfl,fin _ hDn hz⟩
theorem Xc{i:Nat}{y:Str}{py spos:Pos}(O:CmpOk X scope N' σf)(hc:X.calm=true)(hN:X.N.Nodup)(hiN:X.N[i]?=some y)(hx:X.env.scope.names.lookup y=some .local)(hi:PI X tg iter wi)
 (hg:∀cl C s2 H2 fp,PG (Ci X N' scope cl C s2 H2 fp) tg g) (ht:∀cl C s2 H2 fp,PIf (Ci X N' scope cl C s2 H2 fp) ifs tt) (he:∀cl C s2 H2 fp,PE (Ci X N' scope cl C s2 H2 fp) elt te)
 (hsw:swapsWith (.ListComp elt [⟨tg,iter,ifs,0⟩] scope pos) (some (.Name y py)) spos.line X.env=pure true:=by rfl)
 (hs:∀x,foldedSetIterable iter X.env x=pure x:=by intro _;rfl):PS X (.Assign [.Name y py] (.ListComp elt [⟨tg,iter,ifs,0⟩] scope pos) spos) (Oi (Qt wi g tt te σf) (KH i)):=by
 intro gj s σ H D I h;obtain⟨cl,e1,e2,e4⟩:=Kv (scope:=scope) (env:=X.env) λy hy hf=>I.ok.has y.1 (O.free y hy hf);rw[exec_Assign_Name_used _ _ _ _ hsw];refine un8 (jB (un8 ?_));show wpAny _ X.A (do let _ <-comprehension (.ListComp elt [⟨tg,iter,ifs,0⟩] scope pos) scope X.env _ (newList []) false (eval iter X.env) (some (assign (.Name y py) X.env))) _ _ s;refine un8 (thn (wpAny_comprehension_free (use:=some (assign (.Name y py) X.env)) (Q:=λ_ s'=>SP X gj D .next s') rfl hs e1 O.kind O.loc (thn (hi gj s σ H _ I h) λv s1 h1=>thn h1 λitv s2 h2=>?_)) (λ_ s' hq=>un9 (un9 hq)));clear 5 h2 it fp tn J H2 rfl I2 T st2 f2 B;refine MZ (RR:=λacc C=>compPost (model X.prog X.w) X.A X.xe (some (assign (.Name y py) X.env)) (λ_ s'=>SP X gj D .next s') acc C) O hc I2 T st2 f2 e2 e4 (λcl C=>hg cl C s2 H2 fp) (λcl C=>ht cl C s2 H2 fp) (λcl C=>he cl C s2 H2 fp) B ?_;intro cl' C s' σ' H' acc m hC hCD I' hDn hz hL fin hn;clear 5 hL its n hv hD;show wpAny _ X.A (assign (.Name y py) X.env (.ref s2.heap.objs.size)) _ _ _;have I3:=Mb I2 f2 hC hCD I' hDn hz hv hD (Heap.SameBut.refl ..);refine wpAny_assign_Name (Ms I3 hN hiN (.inl hx) (v:=.ref s2.heap.objs.size) rfl (λs4 I4 z9=>?_) (.inr hx));clear 5 z9 a hsb ha;have hCL:C≠X.env.locals:=um5 (ue3 I2.lt hC);have hCc:∀x c,X.env.cells.lookup x=some c->c≠C:=λx c e z=>by
  clear 5(I2.cell x c e)v q;exact absurd (ue3 q.lt (by rw[z];exact hC)) (uk8 _)
 have hCa:C≠a:=by
  rcases ha with z|z
  .rw[z];exact hCL
  .exact λq=>hCc _ _ z q.symm
 refine⟨m,hn.sameBut hsb hCa,λh' hs'=>?_⟩;have hnC:(upd H' s2.heap.objs.size (.lst acc)) C=none:=by rw[Aq hCD];exact I'.free
 refine⟨_,_,I4.turned (t':=s4.toks) (h':=h') (it:=C) (λb o hb e=>hs'.extBut b o hb e) hnC hCL (.inr (um4 I2.sz hC)) hCc (λp hp z=>?_),fin _ hDn hz⟩;exact absurd (ue3 (um2 (I2.pin p hp).1) (by rw[z];exact hC)) (uk8 _)
end
end
set_option autoImplicit false
inductive D where
 |non|bl (b:Bool)|int (i:Int)|str (x:Str)|tup (xs:List D)|lst (xs:List D)|scr (ns:List Int)|dic|obj (k:Nat)|ty (n:String)|exc (n:Str) (xs:List D)
set_option genInjectivity false in structure Cf where
 ι:List gm
 O:gm->Prop
def Cf.A(c:Cf)(a:gm):Prop:=a∈c.ι\/c.O a
def Scr(K:gi)(c:Cf)(H:Hp)(a:gm)(vs:List V):Prop:=
 ((∃o,H a=some (.frz o (.lst vs)))/\¬c.A a)\/
   ∃(o:Obj) (its:Array gk) (n:Nat),K.lookup a=some o/\o.cls=.type "list"/\o.dict=none/\o.data=.seq its n/\its.size<=sizeLine/\Vals vs its.toList
def XIs(qx:Bool)(x C:gm)(dx:Option gm)(h:Heap):Prop:=∃(o:Obj) (vs:Array gk),h.get? x=some o/\o.cls=.ref C/\o.dict=dx/\o.data=.fields vs/\(qx=true->vs[2]?=some .none/\4<vs.size)
noncomputable def JI(n:Str):List Str:=if n = "NoTalk" then ["at"] else if n = "Broken" then ["at", "side"] else []
def XFld(c:Cf)(H:Hp)(dx:Option gm)(ns:List Str)(vs:List V):Prop:=match dx with
 |none=>vs=[]
 |some d=>H d=some (.xd (ns.zip vs))/\¬c.A d
mutual
inductive Rep(K:gi)(c:Cf)(H:Hp):V->D->Prop where
 |non:Rep K c H .non .non
 |bl (b:Bool):Rep K c H (.bl b) (.bl b)
 |int (i:Int):Rep K c H (.int i) (.int i)
 |str (x:Str):Rep K c H (.str x) (.str x)
 |ty (n:String):Rep K c H (.ty n) (.ty n)
 |tup {a:gm}{vs:List V}{ds:List D}:H a=some (.tup vs)->¬c.A a->Reps K c H vs ds->Rep K c H (.ref a) (.tup ds)
 |lst {a:gm}{vs:List V}{ds:List D}:H a=some (.lst vs)->¬c.A a->Reps K c H vs ds->Rep K c H (.ref a) (.lst ds)
 |scr {a:gm}{ns:List Int}:Scr K c H a (ns.map V.int)->Rep K c H (.ref a) (.scr ns)
 |dic {a:gm}:H a=some (.dK [])->¬c.A a->Rep K c H (.ref a) .dic
 |obj {a:gm}{k:Nat}:c.ι[k]?=some a->Rep K c H (.ref a) (.obj k)
 |exc {qx:Bool}{x C:gm}{dx:Option gm}{n:Str}{vs:List V}{ds:List D}:PySem.W.nsIn K mainGlobals n=some (some (.ref C))->H x=some (.ext (XIs qx x C dx))->¬c.A x->XFld c H dx (JI n) vs->Reps K c H vs ds->Rep K c H (.ref x) (.exc n ds)
inductive Reps(K:gi)(c:Cf)(H:Hp):List V->List D->Prop where
 |nil:Reps K c H [] []
 |cons {v:V}{d:D}{vs:List V}{ds:List D}:Rep K c H v d->Reps K c H vs ds->Reps K c H (v::vs) (d::ds)
end
structure Ext(c:Cf)(H:Hp)(c':Cf)(H':Hp):Prop where
 keep:∀b o,H b=some o->¬c.A b->H' b=some o
 av:∀b o,H b=some o->c'.A b->c.A b
 io:∀(k:Nat) (a:gm),c.ι[k]?=some a->c'.ι[k]?=some a
section
variable{c:Cf}{H:Hp}
theorem Ext.refl:Ext c H c H:=⟨λ_ _ h _=>h,λ_ _ _ h=>h,λ_ _ h=>h⟩
theorem Ext.trans{c1 c2:Cf}{H1 H2:Hp}(a:Ext c H c1 H1)(b:Ext c1 H1 c2 H2):Ext c H c2 H2:=by
 refine⟨λx o h n=>?_,λx o h n=>?_,λk x h=>b.io k x (a.io k x h)⟩
 .exact b.keep x o (a.keep x o h n) λz=>n (a.av x o h z)
 .by_cases q:c.A x
  .exact q
  .exact a.av x o h (b.av x o (a.keep x o h q) n)
variable{K:gi}{a:gm}{vs:List V}
theorem Scr.mono{c':Cf}{H':Hp}(e:Ext c H c' H')(h:Scr K c H a vs):Scr K c' H' a vs:=by
 rcases h with⟨⟨o,h⟩,n⟩|h
 .exact .inl ⟨⟨o,e.keep _ _ h n⟩,λz=>n (e.av _ _ h z)⟩
 .exact .inr h
theorem Scr.sq(h:Scr K c H a vs):SqL K H a vs:=by
 rcases h with⟨h,_⟩|h
 .exact .inl (.inr h)
 .exact .inr h
theorem XFld.mono{c':Cf}{H':Hp}{dx:Option gm}{ns:List Str}(e:Ext c H c' H')(h:XFld c H dx ns vs):XFld c' H' dx ns vs:=by
 cases dx with
 |none=>exact h
 |some d=>exact⟨e.keep _ _ h.1 h.2,λz=>h.2 (e.av _ _ h.1 z)⟩
mutual
theorem Rep.mono{K:gi}{c c':Cf}{H H':Hp}(e:Ext c H c' H'){v:V}{d:D}(r:Rep K c H v d):Rep K c' H' v d:=by
 cases r with
 |non=>exact .non
 |bl b=>exact .bl b
 |int i=>exact .int i
 |str x=>exact .str x
 |ty n=>exact .ty n
 |tup h n r=>exact .tup (e.keep _ _ h n) (λz=>n (e.av _ _ h z)) (Reps.mono e r)
 |lst h n r=>exact .lst (e.keep _ _ h n) (λz=>n (e.av _ _ h z)) (Reps.mono e r)
 |scr h=>exact .scr (h.mono e)
 |dic h n=>exact .dic (e.keep _ _ h n) (λz=>n (e.av _ _ h z))
 |obj h=>exact .obj (e.io _ _ h)
 |exc g h n f r=>exact .exc g (e.keep _ _ h n) (λz=>n (e.av _ _ h z)) (f.mono e) (Reps.mono e r)
theorem Reps.mono{K:gi}{c c':Cf}{H H':Hp}(e:Ext c H c' H'){vs:List V}{ds:List D}(r:Reps K c H vs ds):Reps K c' H' vs ds:=by
 cases r with
 |nil=>exact .nil
 |cons h t=>exact .cons (Rep.mono e h) (Reps.mono e t)
end
section
variable{K:gi}{c:Cf}{H:Hp}
theorem Reps.length:∀{vs:List V}{ds:List D},Reps K c H vs ds->vs.length=ds.length
 |_,_,.nil=>rfl
 |_,_,.cons _ t=>by simp[Reps.length t]
theorem Reps.get:∀{vs:List V}{ds:List D}{i:Nat}{v:V}{d:D},Reps K c H vs ds->vs[i]?=some v->ds[i]?=some d->Rep K c H v d
 |_,_,_,_,_,.nil,e,_=>by simp at e
 |_,_,0,_,_,.cons r _,e,e'=>by simp at e e';subst e e';exact r
 |_,_,i+1,_,_,.cons _ t,e,e'=>Reps.get (i:=i) t (by simpa using e) (by simpa using e')
theorem Reps.at:∀{vs:List V}{ds:List D}{i:Nat}{d:D},Reps K c H vs ds->ds[i]?=some d->∃v,vs[i]?=some v/\Rep K c H v d
 |_,_,_,_,.nil,e=>by simp at e
 |_,_,0,_,.cons r _,e=>by simp at e;subst e;exact⟨_,rfl,r⟩
 |_,_,i+1,_,.cons _ t,e=>by
   clear 5(Reps.at (i:=i) t (by simpa using e))v h1 h2;exact⟨v,by simpa using h1,h2⟩
theorem Reps.append{vs ws:List V}{ds es:List D}(r:Reps K c H vs ds)(s:Reps K c H ws es):Reps K c H (vs++ws) (ds++es):=by
 cases r with
 |nil=>exact s
 |cons r t=>exact .cons r (Reps.append t s)
theorem Reps.take:∀{vs:List V}{ds:List D} (n:Nat),Reps K c H vs ds->Reps K c H (vs.take n) (ds.take n)
 |_,_,0,_=>.nil
 |_,_,_+1,.nil=>.nil
 |_,_,n+1,.cons r t=>.cons r (Reps.take n t)
theorem Reps.drop:∀{vs:List V}{ds:List D} (n:Nat),Reps K c H vs ds->Reps K c H (vs.drop n) (ds.drop n)
 |_,_,0,r=>r
 |_,_,_+1,.nil=>.nil
 |_,_,n+1,.cons _ t=>Reps.drop n t
theorem Reps.ints:∀ns:List Int,Reps K c H (ns.map V.int) (ns.map D.int)
 |[]=>.nil
 |n::r=>.cons (.int n) (Reps.ints r)
theorem Reps.rep{vs:List V}{ds:List D}(h:Reps K c H vs ds):∀k:Nat,Reps K c H (List.replicate k vs).flatten (List.replicate k ds).flatten
 |0=>.nil
 |k+1=>by
   rw[ud9,ud9,uf7,uf7];exact h.append (Reps.rep h k)
end
inductive Ob where
 |lst (xs:List D)
 |dct (kvs:List (Key×D))
 |ins (n:Str) (fs:List (Str×D))
set_option genInjectivity false in inductive Sl where
 |val (d:D)
 |own (xs:List D)
set_option genInjectivity false in structure T where
 env:List (Option Sl)
 S:List Ob
def KVR(K:gi)(c:Cf)(H:Hp):List (Key×V)->List (Key×D)->Prop:=Paired λp q=>p.1=q.1/\Rep K c H p.2 q.2
noncomputable def Lv:List Str:=["Reader", "Side", "Lasting", "Parley", "Listener", "Relay", "Desk"]
noncomputable def atN:List Str:=["grammar", "standing", "wires", "places", "side", "said", "taken", "handed", "left", "right", "under_way", "grammars", "standings", "heard", "left_grammar", "right_grammar", "rows", "pair", "broken", "parley"]
def FldR(K:gi)(c:Cf)(H:Hp):List (Str×V)->List (Str×D)->Prop:=Paired λp q=>p.1=q.1/\Rep K c H p.2 q.2
def ObR(K:gi)(c:Cf)(H:Hp)(a:gm):Ob->Prop
 |.lst ds=>∃vs,H a=some (.lst vs)/\Reps K c H vs ds
 |.dct kvs=>∃us,H a=some (.dK us)/\KVR K c H us kvs
 |.ins n fs=>(n∈Lv/\∀p∈fs,p.1∈atN)/\∃C dx us,PySem.W.nsIn K mainGlobals n=some (some (.ref C))/\H a=some (.ins C dx us)/\FldR K c H us fs
theorem ObR.mono{K:gi}{c c':Cf}{H H':Hp}{a:gm}{o:Ob}(e:Ext c H c' H')(h:ObR K c H a o)(ha:H' a=H a):ObR K c' H' a o:=by
 cases o with
 |lst ds=>clear 5 h vs h1 h2;exact⟨vs,ha.trans h1,h2.mono e⟩
 |dct kvs=>clear 5 h us h1 h2;exact⟨us,ha.trans h1,Paired.mapP h2 λ_ _ z=>⟨z.1,z.2.mono e⟩⟩
 |ins n fs=>clear 5 h h0 C dx us g h1 h2;exact⟨h0,C,dx,us,g,ha.trans h1,Paired.mapP h2 λ_ _ z=>⟨z.1,z.2.mono e⟩⟩
theorem ObR.some{o:Ob}(h:ObR K c H a o):∃u,H a=some u:=by
 cases o with
 |lst ds=>obtain⟨vs,h1,_⟩:=h;exact⟨_,h1⟩
 |dct kvs=>obtain⟨us,h1,_⟩:=h;exact⟨_,h1⟩
 |ins n fs=>obtain⟨_,_,_,_,_,h1,_⟩:=h;exact⟨_,h1⟩
structure SInv(K:gi)(c:Cf)(S:List Ob)(H:Hp):Prop where
 len:c.ι.length=S.length
 nd:c.ι.Nodup
 obs:∀(k:Nat) (a:gm) (o:Ob),c.ι[k]?=some a->S[k]?=some o->ObR K c H a o
 trk:∀b,c.O b->∃o,H b=some o
 dis:∀b,c.O b->b∉c.ι
variable{S:List Ob}
theorem SInv.trkA(s:SInv K c S H){b:gm}(h:c.A b):∃o,H b=some o:=by
 rcases h with h|h
 .clear 5(List.mem_iff_getElem.mp h)k hk e;have e1:c.ι[k]?=some b:=by rw[ub3 hk,e]
  have hk':k<S.length:=by rw[<-s.len];exact hk
  exact(s.obs k b _ e1 (ub3 hk')).some
 .exact s.trk b h
theorem SInv.free(s:SInv K c S H){b:gm}(h:H b=none):¬c.A b:=λz=>by
 clear 5(s.trkA z)o e;rw[h] at e;cases e
structure FInv(K:gi)(Oo:gm->Prop)(c:Cf)(t:T)(σ:St)(H:Hp):Prop where
 s:SInv K c t.S H
 len:t.env.length=σ.length
 sub:∀b,Oo b->c.O b
 val:∀(i:Nat) (d:D),t.env[i]?=some (some (.val d))->∃v,σ[i]?=some (some v)/\Rep K c H v d
 own:∀(i:Nat) (ds:List D),t.env[i]?=some (some (.own ds))->∃a vs,σ[i]?=some (some (.ref a))/\c.O a/\¬Oo a/\H a=some (.lst vs)/\Reps K c H vs ds
 inj:∀(i j:Nat) (ds es:List D) (a:gm),t.env[i]?=some (some (.own ds))->t.env[j]?=some (some (.own es))->σ[i]?=some (some (.ref a))->σ[j]?=some (some (.ref a))->i=j
structure Stp(Oo:gm->Prop)(c:Cf)(H:Hp)(c':Cf)(H':Hp):Prop where
 ext:Ext c H c' H'
 oo:∀b,Oo b->H' b=H b
theorem Stp.refl{Oo:gm->Prop}{c:Cf}{H:Hp}:Stp Oo c H c H:=⟨.refl,λ_ _=>rfl⟩
theorem Stp.trans{Oo:gm->Prop}{c c1 c2:Cf}{H H1 H2:Hp}(a:Stp Oo c H c1 H1)(b:Stp Oo c1 H1 c2 H2):Stp Oo c H c2 H2:=
 ⟨a.ext.trans b.ext,λx h=>(b.oo x h).trans (a.oo x h)⟩
section
variable{K:gi}{Oo:gm->Prop}{c:Cf}{t:T}{σ:St}{H:Hp}
theorem Ext.laid(s:SInv K c S H){p:gm}{o:HO}(h:H p=none):Ext c H c (upd H p o):=
 ⟨λb u e _=>by rw[Aq (AH e h)];exact e,λ_ _ _ z=>z,λ_ _ e=>e⟩
theorem SInv.laid{S:List Ob}(s:SInv K c S H){p:gm}{o:HO}(h:H p=none):SInv K c S (upd H p o):=
 ⟨s.len,s.nd,λk a u e1 e2=>by
  have q:=s.obs k a u e1 e2;clear 5 q.some w hw;exact q.mono (Ext.laid s h) (Aq (AH hw h)),
  λb z=>by clear 5(s.trk b z)u e;exact⟨u,by rw[Aq (AH e h)];exact e⟩,s.dis⟩
theorem FInv.laid(f:FInv K Oo c t σ H){p:gm}{o:HO}(h:H p=none):FInv K Oo c t σ (upd H p o):=by
 have e:=Ext.laid (o:=o) f.s h;refine⟨f.s.laid h,f.len,f.sub,λi d q=>?_,λi ds q=>?_,f.inj⟩
 .clear 5(f.val i d q)v h1 h2;exact⟨v,h1,h2.mono e⟩
 .clear 5(f.own i ds q)a vs h1 h2 h3 h4 h5;exact⟨a,vs,h1,h2,h3,by rw[Aq (AH h4 h)];exact h4,h5.mono e⟩
theorem FInv.stp_laid(f:FInv K Oo c t σ H){p:gm}{o:HO}(h:H p=none):Stp Oo c H c (upd H p o):=
 ⟨Ext.laid f.s h,λb z=>by clear 5(f.s.trk b (f.sub b z))u e;exact Aq (AH e h)⟩
theorem FInv.set(f:FInv K Oo c t σ H){i:Nat}{v:V}{d:D}(r:Rep K c H v d):FInv K Oo c {t with env:=t.env.set i (some (.val d))} (σ.set i (some v)) H:=by
 have neq:∀{j:Nat}{x:Sl},(t.env.set i (some (.val d)))[j]?=some (some x)->(j=i/\x=.val d/\j<t.env.length)\/(j≠i/\t.env[j]?=some (some x)):=λ{j x} q=>by
  by_cases h:j=i
  .subst h;rw[ug1] at q
   split at q
   .split at q
    .next h1=>injection q with q;injection q with q;exact .inl ⟨rfl,q.symm,h1⟩
    .cases q
   .next h1=>exact absurd rfl h1
  .rw[ud3 (Ne.symm h)] at q;exact .inr ⟨h,q⟩
 refine⟨f.s,by simp[f.len],f.sub,λj e q=>?_,λj ds q=>?_,λj k ds es a q1 q2 q3 q4=>?_⟩
 .rcases neq q with⟨rfl,z,hl⟩|⟨h,q⟩
  .cases z
   exact⟨v,by rw[ub7 (by rw[<-f.len];exact hl)],r⟩
  .clear 5(f.val j e q)u h1 h2;exact⟨u,by rw[ud3 (Ne.symm h)];exact h1,h2⟩
 .rcases neq q with⟨rfl,z,_⟩|⟨h,q⟩
  .cases z
  .clear 5(f.own j ds q)a vs h1 h2;exact⟨a,vs,by rw[ud3 (Ne.symm h)];exact h1,h2⟩
 .rcases neq q1 with⟨_,z,_⟩|⟨h,q1⟩
  .cases z
  rcases neq q2 with⟨_,z,_⟩|⟨h',q2⟩
  .cases z
  rw[ud3 (Ne.symm h)] at q3;rw[ud3 (Ne.symm h')] at q4;exact f.inj j k ds es a q1 q2 q3 q4
theorem FInv.setOwn(f:FInv K Oo c t σ H){i:Nat}{p:gm}{vs:List V}{ds:List D}(h:H p=none)(r:Reps K c H vs ds) :
 ∃c',FInv K Oo c' {t with env:=t.env.set i (some (.own ds))} (σ.set i (some (.ref p))) (upd H p (.lst vs))/\Stp Oo c H c' (upd H p (.lst vs)):=by
 let c':Cf:=⟨c.ι,λb=>c.O b\/b=p⟩
 have nA:¬c.A p:=f.s.free h;have ext:Ext c H c' (upd H p (.lst vs)):=by
  refine⟨λb u e _=>by rw[Aq (AH e h)];exact e,λb u e z=>?_,λ_ _ e=>e⟩;rcases z with z|z|z
  .exact .inl z
  .exact .inr z
  .subst z;rw[h] at e;cases e
 have stp:Stp Oo c H c' (upd H p (.lst vs)):=⟨ext,λb z=>by clear 5(f.s.trk b (f.sub b z))u e;exact Aq (AH e h)⟩;have sinv:SInv K c' t.S (upd H p (.lst vs)):=by
  refine⟨f.s.len,f.s.nd,λk a u e1 e2=>?_,λb z=>?_,λb z hb=>?_⟩
  .have q:=f.s.obs k a u e1 e2;clear 5 q.some w hw;exact q.mono ext (Aq (AH hw h))
  .rcases z with z|z
   .clear 5(f.s.trk b z)u e;exact⟨u,by rw[Aq (AH e h)];exact e⟩
   .subst z;exact⟨_,AC⟩
  .rcases z with z|z
   .exact f.s.dis b z hb
   .subst z;exact nA (.inl hb)
 have neq:∀{j:Nat}{x:Sl},(t.env.set i (some (.own ds)))[j]?=some (some x)->(j=i/\x=.own ds/\j<t.env.length)\/(j≠i/\t.env[j]?=some (some x)):=λ{j x} q=>by
  by_cases h:j=i
  .subst h;rw[ug1] at q
   split at q
   .split at q
    .next h1=>injection q with q;injection q with q;exact .inl ⟨rfl,q.symm,h1⟩
    .cases q
   .next h1=>exact absurd rfl h1
  .rw[ud3 (Ne.symm h)] at q;exact .inr ⟨h,q⟩
 have fresh:∀(j:Nat) (es:List D),t.env[j]?=some (some (.own es))->σ[j]?≠some (some (.ref p)):=λj es q z=>by
  obtain⟨a,vs',h1,_,_,h4,_⟩:=f.own j es q;rw[h1] at z;injection z with z;injection z with z;injection z with z;subst z;rw[h] at h4;cases h4
 refine⟨c',⟨sinv,by simp[f.len],λb z=>.inl (f.sub b z),λj e q=>?_,λj es q=>?_,λj k ds' es a q1 q2 q3 q4=>?_⟩,stp⟩
 .rcases neq q with⟨_,z,_⟩|⟨hn,q⟩
  .cases z
  .clear 5(f.val j e q)u h1 h2;exact⟨u,by rw[ud3 (Ne.symm hn)];exact h1,h2.mono ext⟩
 .rcases neq q with⟨rfl,z,hl⟩|⟨hn,q⟩
  .cases z
   refine⟨p,vs,by rw[ub7 (by rw[<-f.len];exact hl)],.inr rfl,λz=>?_,AC,r.mono ext⟩;clear 5(f.s.trk p (f.sub p z))u e;rw[h] at e;cases e
  .clear 5(f.own j es q)a ws h1 h2 h3 h4 h5;exact⟨a,ws,by rw[ud3 (Ne.symm hn)];exact h1,.inl h2,h3,by rw[Aq (AH h4 h)];exact h4,h5.mono ext⟩
 .rcases neq q1 with⟨z1,z2,l1⟩|⟨n1,r1⟩
  .rcases neq q2 with⟨y1,_,_⟩|⟨n2,r2⟩
   .rw[z1,y1]
   .subst z1;rw[ub7 (by rw[<-f.len];exact l1)] at q3;injection q3 with q3;injection q3 with q3;injection q3 with q3;subst q3
    rw[ud3 (Ne.symm n2)] at q4;exact absurd q4 (fresh k es r2)
  .rcases neq q2 with⟨y1,y2,l2⟩|⟨n2,r2⟩
   .subst y1;rw[ub7 (by rw[<-f.len];exact l2)] at q4;injection q4 with q4;injection q4 with q4;injection q4 with q4;subst q4
    rw[ud3 (Ne.symm n1)] at q3;exact absurd q3 (fresh j ds' r1)
   .rw[ud3 (Ne.symm n1)] at q3;rw[ud3 (Ne.symm n2)] at q4;exact f.inj j k ds' es a r1 r2 q3 q4
theorem FInv.frz(f:FInv K Oo c t σ H){i:Nat}{ds:List D}(q:t.env[i]?=some (some (.own ds))) :
 ∃c' v,FInv K Oo c' {t with env:=t.env.set i (some (.val (.lst ds)))} σ H/\Stp Oo c H c' H/\σ[i]?=some (some v)/\Rep K c' H v (.lst ds):=by
 clear 5(f.own i ds q)a vs h1 h2 h3 h4 h5
 let c':Cf:=⟨c.ι,λb=>c.O b/\b≠a⟩
 have ext:Ext c H c' H:=⟨λ_ _ e _=>e,λb u e z=>z.elim .inl λw=>.inr w.1,λ_ _ e=>e⟩;have sinv:SInv K c' t.S H:=⟨f.s.len,f.s.nd,λk b u e1 e2=>(f.s.obs k b u e1 e2).mono ext rfl,λb z=>f.s.trk b z.1,λb z=>f.s.dis b z.1⟩;have nA:¬c'.A a:=λz=>z.elim (λw=>f.s.dis a h2 w) λw=>w.2 rfl;have hσ:σ.set i (some (.ref a))=σ:=by
  apply List.ext_getElem?;intro j
  by_cases hj:j=i
  .subst hj;rw[ub7 (by have:=(ua9.mp h1).1;exact this),h1]
  .rw[ud3 (Ne.symm hj)]
 have r:Rep K c' H (.ref a) (.lst ds):=.lst h4 nA (h5.mono ext);have f0:FInv K Oo c' {t with env:=t.env.set i (some (.val (.lst ds)))} σ H:=by
  have neq:∀{j:Nat}{x:Sl},(t.env.set i (some (.val (.lst ds))))[j]?=some (some x)->(j=i/\x=.val (.lst ds))\/(j≠i/\t.env[j]?=some (some x)):=λ{j x} q=>by
   by_cases h:j=i
   .subst h;rw[ug1] at q
    split at q
    .split at q
     .injection q with q;injection q with q;exact .inl ⟨rfl,q.symm⟩
     .cases q
    .next h1=>exact absurd rfl h1
   .rw[ud3 (Ne.symm h)] at q;exact .inr ⟨h,q⟩
  refine⟨sinv,by simp[f.len],λb z=>⟨f.sub b z,λw=>h3 (w ▸ z)⟩,λj e q'=>?_,λj es q'=>?_,λj k ds' es b q1 q2 q3 q4=>?_⟩
  .rcases neq q' with⟨rfl,z⟩|⟨hn,q'⟩
   .cases z;exact⟨_,h1,r⟩
   .clear 5(f.val j e q')u w1 w2;exact⟨u,w1,w2.mono ext⟩
  .rcases neq q' with⟨_,z⟩|⟨hn,q'⟩
   .cases z
   .clear 5(f.own j es q')b ws w1 w2 w3 w4 w5;refine⟨b,ws,w1,⟨w2,λz=>?_⟩,w3,w4,w5.mono ext⟩;subst z;exact hn (f.inj j i es ds b q' q w1 h1)
  .rcases neq q1 with⟨_,z⟩|⟨_,q1⟩
   .cases z
   rcases neq q2 with⟨_,z⟩|⟨_,q2⟩
   .cases z
   exact f.inj j k ds' es b q1 q2 q3 q4
 exact⟨c',_,f0,⟨ext,λ_ _=>rfl⟩,h1,r⟩
theorem FInv.wrOwn(f:FInv K Oo c t σ H){i:Nat}{ds ds':List D}{vs':List V}{a:gm}(q:t.env[i]?=some (some (.own ds)))(h1:σ[i]?=some (some (.ref a)))(r:Reps K c H vs' ds') :
 FInv K Oo c {t with env:=t.env.set i (some (.own ds'))} σ (upd H a (.lst vs'))/\Stp Oo c H c (upd H a (.lst vs')):=by
 clear 5(f.own i ds q)a' vs g1 h2 h3 h4 h5;rw[h1] at g1;injection g1 with g1;injection g1 with g1;injection g1 with g1;subst g1
 have ext:Ext c H c (upd H a (.lst vs')):=⟨λb u e n=>by rw[Aq (λ(z:b=a)=>n (.inr (by rw[z];exact h2)))];exact e,λ_ _ _ z=>z,λ_ _ e=>e⟩;have stp:Stp Oo c H c (upd H a (.lst vs')):=⟨ext,λb z=>Aq λw=>h3 (w ▸ z)⟩;have sinv:SInv K c t.S (upd H a (.lst vs')):=by
  refine⟨f.s.len,f.s.nd,λk b u e1 e2=>(f.s.obs k b u e1 e2).mono ext (Aq λz=>f.s.dis a h2 (z ▸ ud4 e1)),λb z=>?_,f.s.dis⟩
  by_cases hb:b=a
  .subst hb;exact⟨_,AC⟩
  .clear 5(f.s.trk b z)u e;exact⟨u,by rw[Aq hb];exact e⟩
 have neq:∀{j:Nat}{x:Sl},(t.env.set i (some (.own ds')))[j]?=some (some x)->(j=i/\x=.own ds')\/(j≠i/\t.env[j]?=some (some x)):=λ{j x} q=>by
  by_cases h:j=i
  .subst h;rw[ug1] at q
   split at q
   .split at q
    .injection q with q;injection q with q;exact .inl ⟨rfl,q.symm⟩
    .cases q
   .next h1=>exact absurd rfl h1
  .rw[ud3 (Ne.symm h)] at q;exact .inr ⟨h,q⟩
 refine⟨⟨sinv,by simp[f.len],f.sub,λj e q'=>?_,λj es q'=>?_,λj k es es' b q1 q2 q3 q4=>?_⟩,stp⟩
 .rcases neq q' with⟨_,z⟩|⟨_,q'⟩
  .cases z
  .clear 5(f.val j e q')u w1 w2;exact⟨u,w1,w2.mono ext⟩
 .rcases neq q' with⟨rfl,z⟩|⟨hn,q'⟩
  .cases z;exact⟨a,vs',h1,h2,h3,AC,r.mono ext⟩
  .clear 5(f.own j es q')b ws w1 w2 w3 w4 w5;have hb:b≠a:=λz=>by subst z;exact hn (f.inj j i es ds b q' q w1 h1)
   exact⟨b,ws,w1,w2,w3,by rw[Aq hb];exact w4,w5.mono ext⟩
 .have old:∀{j:Nat}{x:List D},(t.env.set i (some (.own ds')))[j]?=some (some (.own x))->∃y,t.env[j]?=some (some (.own y)):=λ{j x} q'=>by
   rcases neq q' with⟨rfl,_⟩|⟨_,q'⟩
   .exact⟨ds,q⟩
   .exact⟨x,q'⟩
  clear 5(old q1)y1 z1;clear 5(old q2)y2 z2;exact f.inj j k y1 y2 b z1 z2 q3 q4
theorem FInv.wrObj(f:FInv K Oo c t σ H){k:Nat}{a:gm}{o:Ob}{u:HO}(e:c.ι[k]?=some a)(r:∀c' H',Ext c H c' H'->H' a=some u->ObR K c' H' a o) :
 FInv K Oo c {t with S:=t.S.set k o} σ (upd H a u)/\Stp Oo c H c (upd H a u):=by
 have hA:a∈c.ι:=ud4 e;have ext:Ext c H c (upd H a u):=⟨λb w h n=>by rw[Aq (λ(z:b=a)=>n (.inl (by rw[z];exact hA)))];exact h,λ_ _ _ z=>z,λ_ _ e=>e⟩;have neO:∀b,c.O b->b≠a:=λb z w=>f.s.dis b z (w ▸ hA);have stp:Stp Oo c H c (upd H a u):=⟨ext,λb z=>Aq (neO b (f.sub b z))⟩;have sinv:SInv K c (t.S.set k o) (upd H a u):=by
  refine⟨by simp[f.s.len],f.s.nd,λj b o' e1 e2=>?_,λb z=>?_,f.s.dis⟩
  .by_cases hj:j=k
   .subst hj;rw[e] at e1;cases e1
    have hl:j<t.S.length:=by rw[<-f.s.len];exact(ua9.mp e).1
    rw[ub7 hl] at e2;cases e2
    exact r c _ ext AC
   .rw[ud3 (Ne.symm hj)] at e2;refine(f.s.obs j b o' e1 e2).mono ext (Aq λz=>?_);subst z;clear 5(ua9.mp e1)l1 g1;clear 5(ua9.mp e)l2 g2;exact hj ((ug6 f.s.nd).mp (g1.trans g2.symm))
  .clear 5(f.s.trk b z)w h;exact⟨w,by rw[Aq (neO b z)];exact h⟩
 refine⟨⟨sinv,f.len,f.sub,λi d q=>?_,λi ds q=>?_,f.inj⟩,stp⟩
 .clear 5(f.val i d q)v h1 h2;exact⟨v,h1,h2.mono ext⟩
 .clear 5(f.own i ds q)b vs h1 h2 h3 h4 h5;exact⟨b,vs,h1,h2,h3,by rw[Aq (neO b h2)];exact h4,h5.mono ext⟩
theorem FInv.newObj(f:FInv K Oo c t σ H){p:gm}{o:Ob}{u:HO}(h:H p=none)(r:∀c' H',Ext c H c' H'->H' p=some u->ObR K c' H' p o) :
 ∃c',FInv K Oo c' {t with S:=t.S++[o]} σ (upd H p u)/\Stp Oo c H c' (upd H p u)/\c'.ι[t.S.length]?=some p:=by
 let c':Cf:=⟨c.ι++[p],c.O⟩
 have nA:¬c.A p:=f.s.free h;have ext:Ext c H c' (upd H p u):=by
  refine⟨λb w e _=>by rw[Aq (AH e h)];exact e,λb w e z=>?_,λk a e=>?_⟩
  .rcases z with z|z
   .rcases ui2.mp z with z|z
    .exact .inl z
    .rw[uf0] at z;subst z;rw[h] at e;cases e
   .exact .inr z
  .show(c.ι++[p])[k]?=some a;rw[ub0 (ua9.mp e).1];exact e
 have stp:Stp Oo c H c' (upd H p u):=⟨ext,λb z=>by clear 5(f.s.trk b (f.sub b z))w e;exact Aq (AH e h)⟩;have at_:(c.ι++[p])[t.S.length]?=some p:=by rw[<-f.s.len,ua6 (un4 _)];simp
 have sinv:SInv K c' (t.S++[o]) (upd H p u):=by
  refine⟨by simp[c',f.s.len],?_,λj b o' e1 e2=>?_,λb z=>?_,λb z hb=>?_⟩
  .show(c.ι++[p]).Nodup;exact List.nodup_append.mpr ⟨f.s.nd,by simp,λx hx y hy z=>by rw[uf0] at hy;subst z;subst hy;exact nA (.inl hx)⟩
  .have hlt:j<(t.S++[o]).length:=(ua9.mp e2).1
   by_cases hj:j<t.S.length
   .have e1':c.ι[j]?=some b:=by
     have q:(c.ι++[p])[j]?=some b:=e1;rw[ub0 (by rw[f.s.len];exact hj)] at q;exact q
    rw[ub0 hj] at e2;have q:=f.s.obs j b o' e1' e2;clear 5 q.some w hw;exact q.mono ext (Aq (AH hw h))
   .have hj':j=t.S.length:=by simp at hlt;lia
    subst hj';rw[at_] at e1;cases e1
    rw[ua6 (un4 _)] at e2;simp at e2;subst e2;exact r c' _ ext AC
  .clear 5(f.s.trk b z)w e;exact⟨w,by rw[Aq (AH e h)];exact e⟩
  .rcases ui2.mp hb with w|w
   .exact f.s.dis b z w
   .rw[uf0] at w;subst w;exact nA (.inr z)
 refine⟨c',⟨sinv,f.len,f.sub,λi d q=>?_,λi ds q=>?_,f.inj⟩,stp,at_⟩
 .clear 5(f.val i d q)v h1 h2;exact⟨v,h1,h2.mono ext⟩
 .clear 5(f.own i ds q)b vs h1 h2 h3 h4 h5;exact⟨b,vs,h1,h2,h3,by rw[Aq (AH h4 h)];exact h4,h5.mono ext⟩
theorem FInv.after(f:FInv K Oo c t σ H){c':Cf}{S':List Ob}{H':Hp}(s:SInv K c' S' H')(st:Stp c.O c H c' H')(ho:∀b,c'.O b↔c.O b):FInv K Oo c' {t with S:=S'} σ H'/\Stp Oo c H c' H':=by
 refine⟨⟨s,f.len,λb z=>(ho b).mpr (f.sub b z),λi d q=>?_,λi ds q=>?_,f.inj⟩,st.ext,λb z=>st.oo b (f.sub b z)⟩
 .clear 5(f.val i d q)v h1 h2;exact⟨v,h1,h2.mono st.ext⟩
 .clear 5(f.own i ds q)b vs h1 h2 h3 h4 h5;exact⟨b,vs,h1,(ho b).mpr h2,h3,(st.oo b h2).trans h4,h5.mono st.ext⟩
end
abbrev M(α:Type):=T->Option (α×T)
set_option genInjectivity false in inductive Out where
 |next|brk|cont|ret (d:D)
noncomputable def ret{α:Type}(a:α):M α:=λt=>some (a,t)
noncomputable def fail{α:Type}:M α:=λ_=>none
noncomputable def bnd{α β:Type}(f:M α)(g:α->M β):M β:=λt=>match f t with
 |some (a,t1)=>g a t1
 |none=>none
variable{t:T}
theorem Af{α β:Type}{f:M α}{g:α->M β}{z:β×T}(h:bnd f g t=some z):∃a t1,f t=some (a,t1)/\g a t1=some z:=by
 unfold bnd at h
 cases e:f t with
 |none=>rw[e] at h;cases h
 |some p=>clear 5 p a t1;rw[e] at h;exact⟨a,t1,rfl,h⟩
noncomputable def LIM:Nat:=100000
theorem Dy:LIM<=sizeLine:=by unfold LIM;decide
theorem Yi:LIM<sizeLine:=by unfold LIM;decide
section
variable(K:gi)
inductive RE(f:M D)(σ:L2.St)(H:Hp)(Q:VK):Prop where
 |mk (Oo:gm->Prop) (c:Cf) (t:T) (fi:FInv K Oo c t σ H) (r:D) (t':T) (e:f t=some (r,t')) (k:∀v H' c',FInv K Oo c' t' σ H'->Stp Oo c H c' H'->Rep K c' H' v r->Q v H'):RE f σ H Q
inductive RT(f:M Bool)(σ:L2.St)(H:Hp)(Q:Bool->Hp->Prop):Prop where
 |mk (Oo:gm->Prop) (c:Cf) (t:T) (fi:FInv K Oo c t σ H) (r:Bool) (t':T) (e:f t=some (r,t')) (k:∀H' c',FInv K Oo c' t' σ H'->Stp Oo c H c' H'->Q r H'):RT f σ H Q
inductive RA(f:M (List D))(σ:L2.St)(H:Hp)(Q:List V->Hp->Prop):Prop where
 |mk (Oo:gm->Prop) (c:Cf) (t:T) (fi:FInv K Oo c t σ H) (r:List D) (t':T) (e:f t=some (r,t')) (k:∀vs H' c',FInv K Oo c' t' σ H'->Stp Oo c H c' H'->Reps K c' H' vs r->Q vs H'):RA f σ H Q
inductive RF(f:M (List D))(σ:L2.St)(H:Hp)(Q:VK):Prop where
 |mk (Oo:gm->Prop) (c:Cf) (t:T) (fi:FInv K Oo c t σ H) (ds:List D) (t':T) (e:f t=some (ds,t')) (k:∀p vs H' c',FInv K Oo c' t' σ H'->Stp Oo c H c' H'->Reps K c' H' vs ds->H' p=none->Q (.ref p) (upd H' p (.lst vs))):RF f σ H Q
inductive RSg(μ:Cf->Hp->D->(V->Hp->Prop)->Prop)(f:M Out)(E:Ends)(σ:L2.St)(H:Hp):Prop where
 |mk (Oo:gm->Prop) (c:Cf) (t:T) (fi:FInv K Oo c t σ H) (o:Out) (t':T) (e:f t=some (o,t')) (k:∀σ' H' c',FInv K Oo c' t' σ' H'->Stp Oo c H c' H'->
 match (generalizing:=false) o with
 |.next=>E.nx σ' H'
 |.brk=>E.bk σ' H'
 |.cont=>E.ct σ' H'
 |.ret r=>μ c' H' r E.rt):RSg μ f E σ H
def μR:Cf->Hp->D->(V->Hp->Prop)->Prop:=λc H r rt=>∀v,Rep K c H v r->rt v H
def μF:Cf->Hp->D->(V->Hp->Prop)->Prop:=λc H r rt=>match r with
 |.lst ds=>∀p us,H p=none->Reps K c H us ds->rt (.ref p) (upd H p (.lst us))
 |_=>False
abbrev RS(f:M Out):TS:=RSg K (μR K) f
inductive RG(f:D->M Unit)(v:V)(σ:L2.St)(H:Hp)(Q:L2.St->Hp->Prop):Prop where
 |mk (Oo:gm->Prop) (c:Cf) (t:T) (d:D) (fi:FInv K Oo c t σ H) (r:Rep K c H v d) (t':T) (e:f d t=some ((),t')) (k:∀σ' H' c',FInv K Oo c' t' σ' H'->Stp Oo c H c' H'->Q σ' H'):RG f v σ H Q
structure ItOk(J:It)(c:Cf)(H:Hp)(ds:List D):Prop where
 go:∀c' H' (i:Nat),Ext c H c' H'->i<ds.length->J.go i H'
 yld:∀c' H' (i:Nat) x H'' d,Ext c H c' H'->ds[i]?=some d->J.yld i H' x H''->H''=H'/\Rep K c' H' x d
 stop:∀c' H',Ext c H c' H'->J.stop ds.length H'
inductive RI(f:M (List D))(σ:L2.St)(H:Hp)(R:It->Hp->Prop):Prop where
 |mk (Oo:gm->Prop) (c:Cf) (t:T) (fi:FInv K Oo c t σ H) (ds:List D) (t':T) (e:f t=some (ds,t')) (k:∀J H' c',FInv K Oo c' t' σ H'->Stp Oo c H c' H'->ItOk K J c' H' ds->R J H'):RI f σ H R
def Ym(R:V->Hp->VK->Prop)(h:D->M D):Prop:=∀{Oo:gm->Prop}{c:Cf}{t:T}{σ:L2.St}{H:Hp}{x:V}{dx r:D}{t':T}{Q:VK},FInv K Oo c t σ H->Rep K c H x dx->h dx t=some (r,t')->
 (∀v H' c',FInv K Oo c' t' σ H'->Stp Oo c H c' H'->Rep K c' H' v r->Q v H')->R x H Q
def Bb(R:R2)(h:D->D->M D):Prop:=∀{Oo:gm->Prop}{c:Cf}{t:T}{σ:L2.St}{H:Hp}{x y:V}{dx dy r:D}{t':T}{Q:VK},FInv K Oo c t σ H->Rep K c H x dx->Rep K c H y dy->h dx dy t=some (r,t')->
 (∀v H' c',FInv K Oo c' t' σ H'->Stp Oo c H c' H'->Rep K c' H' v r->Q v H')->R x y H Q
def Fv(R:List V->Hp->VK->Prop)(h:List D->M D):Prop:=∀{Oo:gm->Prop}{c:Cf}{t:T}{σ:L2.St}{H:Hp}{xs:List V}{ds:List D}{r:D}{t':T}{Q:VK},FInv K Oo c t σ H->Reps K c H xs ds->h ds t=some (r,t')->
 (∀v H' c',FInv K Oo c' t' σ H'->Stp Oo c H c' H'->Rep K c' H' v r->Q v H')->R xs H Q
def Pt(R:R2)(h:D->D->M (List D)):Prop:=∀{Oo:gm->Prop}{c:Cf}{t:T}{σ:L2.St}{H:Hp}{x y:V}{dx dy:D}{r:List D}{t':T}{Q:VK},FInv K Oo c t σ H->Rep K c H x dx->Rep K c H y dy->h dx dy t=some (r,t')->
 (∀p vs H' c',FInv K Oo c' t' σ H'->Stp Oo c H c' H'->Reps K c' H' vs r->H' p=none->Q (.ref p) (upd H' p (.lst vs)))->R x y H Q
def Ke(R:List V->Hp->VK->Prop)(h:List D->M (List D)):Prop:=∀{Oo:gm->Prop}{c:Cf}{t:T}{σ:L2.St}{H:Hp}{xs:List V}{ds r:List D}{t':T}{Q:VK},FInv K Oo c t σ H->Reps K c H xs ds->h ds t=some (r,t')->
 (∀p vs H' c',FInv K Oo c' t' σ H'->Stp Oo c H c' H'->Reps K c' H' vs r->H' p=none->Q (.ref p) (upd H' p (.lst vs)))->R xs H Q
end
variable{tg:Expr}{j i:Nat}{x:Str}{f g w:M D}{h h':D->D->M D}{R R':R2}{op:CmpOp}
section
variable{X:Cx}{e a b:Expr}{pos:Pos}
theorem AE{t t':TE}(h:PE X e t)(i:∀σ H Q,t' σ H Q->t σ H Q):PE X e t':=λgj s σ H Q I q=>h gj s σ H Q I (i σ H Q q)
theorem Kc{t t':TT}(h:PT X e t)(i:∀σ H Q,t' σ H Q->t σ H Q):PT X e t':=λgj s σ H Q I q=>h gj s σ H Q I (i σ H Q q)
theorem QL{t t':TT}(h:PW X e t)(i:∀σ H Q,t' σ H Q->t σ H Q):PW X e t':=λw gj s σ H Q I q=>h w gj s σ H Q I (i σ H Q q)
theorem QJ{es:List Expr}{t t':TA}(h:PA X es t)(i:∀σ H Q,t' σ H Q->t σ H Q):PA X es t':=λpos gj s σ H Q I q=>h pos gj s σ H Q I (i σ H Q q)
theorem A7{st:Stmt}{t t':TS}(h:PS X st t)(i:∀E σ H,t' E σ H->t E σ H):PS X st t':=λgj s σ H E I q=>h gj s σ H E I (i E σ H q)
theorem OG{st:List Stmt}{t t':TS}(h:PSs X st t)(i:∀E σ H,t' E σ H->t E σ H):PSs X st t':=λgj s σ H E I q=>h gj s σ H E I (i E σ H q)
theorem MO{t t':TG}(h:PG X e t)(i:∀v σ H Q,t' v σ H Q->t v σ H Q):PG X e t':=λgj s σ H v u Q I r q=>h gj s σ H v u Q I r (i v σ H Q q)
theorem Kb{t t':TI}(h:PI X tg e t)(i:∀σ H R,t' σ H R->t σ H R):PI X tg e t':=λgj s σ H R I q=>h gj s σ H R I (i σ H R q)
def fC(d:D):M D:=ret d
theorem JF{v:V}{d:D}(h:PE X e (tC v))(r:∀c H,Rep X.K c H v d):PE X e (RE X.K (fC d)):=
 AE h λσ H Q z9=>by
  clear 5 z9 Oo c t f r' t' eq k
  cases eq
  exact k v H c f .refl (r c H)
theorem YJ{i:Int}:PE X (.Constant (.int i) j pos) (RE X.K (fC (.int i))):=JF ZD λ_ _=>.int i
theorem ba{i:Bool}:PE X (.Constant (.bool i) j pos) (RE X.K (fC (.bl i))):=JF bH λ_ _=>.bl i
theorem YO{i:Str}:PE X (.Constant (.str i) j pos) (RE X.K (fC (.str i))):=JF Se λ_ _=>.str i
theorem YK:PE X (.Constant .none j pos) (RE X.K (fC .non)):=JF ZF λ_ _=>.non
theorem Lz{i:Int}{tk:Tok}(hg:Gl X x)(hm:X.mg x=some (.int i tk))(hd:(x==("__debug__":Str))=false:=by decide):PE X (.Name x pos) (RE X.K (fC (.int i))):=
 JF (O6 hg hm (v:=.int i) ⟨tk,rfl⟩ hd) λ_ _=>.int i
theorem TB{y:Str}{tk:Tok}(hg:Gl X x)(hm:X.mg x=some (.str y tk))(hd:(x==("__debug__":Str))=false:=by decide):PE X (.Name x pos) (RE X.K (fC (.str y))):=
 JF (O6 hg hm (v:=.str y) ⟨tk,rfl⟩ hd) λ_ _=>.str y
theorem KD{n:String}(hg:Gl X x)(hm:X.mg x=none)(hv:bootBuiltins x=some (.type n))(hn:x≠"__name__":=by decide)(hd:(x==("__debug__":Str))=false:=by decide):PE X (.Name x pos) (RE X.K (fC (.ty n))):=
 JF (WY hg hm hv (v:=.ty n) rfl hn hd) λ_ _=>.ty n
noncomputable def Aa(i:Nat):M D:=λt=>match t.env[i]? with
 |some (some (.val d))=>some (d,t)
 |some (some (.own ds))=>some (.lst ds,{t with env:=t.env.set i (some (.val (.lst ds)))})
 |_=>none
theorem PJ{t':T}{r:D}(h:Aa i t=some (r,t')):(t.env[i]?=some (some (.val r))/\t'=t)\/∃ds,t.env[i]?=some (some (.own ds))/\r=.lst ds/\t' = {t with env:=t.env.set i (some (.val (.lst ds)))}:=by
 unfold Aa at h
 cases e:t.env[i]? with
 |none=>rw[e] at h;cases h
 |some o=>
   cases o with
   |none=>rw[e] at h;cases h
   |some sl=>
     cases sl with
     |val d=>rw[e] at h;cases h;exact .inl ⟨rfl,rfl⟩
     |own ds=>rw[e] at h;cases h;exact .inr ⟨ds,rfl,rfl,rfl⟩
theorem YQ(i:Nat){x:Str}(hN:X.N[i]?=some x:=by rfl)(hv:Vis X.env.scope x:=by walk_at"h")(hd:(x==("__debug__":Str))=false:=by decide)
 (hcd:(x==("__classdict__":Str))=false:=by decide):PE X (.Name x pos) (RE X.K (Aa i)):=
 AE (Ge hN hv hd hcd) λσ H Q z9=>by
  clear 5 z9 Oo c t f r t' eq k;rcases PJ eq with⟨q,rfl⟩|⟨ds,q,rfl,rfl⟩
  .clear 5(f.val i r q)v h1 h2;exact⟨v,h1,k v H c f .refl h2⟩
  .clear 5(f.frz q)c' v f' st h1 h2;exact⟨v,h1,k v H c' f' st h2⟩
def Ac(f g:M D)(h:D->D->M D):M D:=bnd f λx=>bnd g λy=>h x y
theorem RE.two(s:Bb K R h){σ:L2.St}{H:Hp}{Q:VK}(q:RE K (Ac f g h) σ H Q):tOp R (RE K f) (RE K g) σ H Q:=by
 clear 5 q Oo c t fi r t' eq k;clear 5(Af eq)dx t1 e1 eq;clear 5(Af eq)dy t2 e2 eq;exact⟨Oo,c,t,fi,dx,t1,e1,λx H1 c1 f1 s1 rx=>⟨Oo,c1,t1,f1,dy,t2,e2,λy H2 c2 f2 s2 ry=>s f2 (rx.mono s2.ext) ry eq λv H' c' f' s' rv=>k v H' c' f' ((s1.trans s2).trans s') rv⟩⟩
theorem IY{op:Operator}(ho:OpR X (binaryOp op) R)(s:Bb X.K R h)(ha:PE X a (RE X.K f))(hb:PE X b (RE X.K g)):PE X (.BinOp a op b pos) (RE X.K (Ac f g h)):=
 AE (Qg ho ha hb) λ_ _ _ q=>RE.two s q
theorem KC(ho:OpR X (compareOp op) R)(s:Bb X.K R h)(ha:PE X a (RE X.K f))(hb:PE X b (RE X.K g))(hm:behindInMarks op b=false):PE X (.Compare a [op] [b] pos) (RE X.K (Ac f g h)):=
 AE (WZ ho ha hb hm) λ_ _ _ q=>RE.two s q
theorem Vj(hr:IxR X R)(s:Bb X.K R h)(ha:PE X a (RE X.K f))(hb:PE X b (RE X.K g))(hs:IQ b):PE X (.Subscript a b pos) (RE X.K (Ac f g h)):=
 AE (Qe hr ha hb hs) λ_ _ _ q=>RE.two s q
def fUn(f:M D)(h:D->M D):M D:=bnd f h
theorem bf{op:UnaryOp}{R:V->Hp->VK->Prop}{h:D->M D}(ho:UnR X (unaryOp op) R)(s:Ym X.K R h)(ha:PE X a (RE X.K f)):PE X (.UnaryOp op a pos) (RE X.K (fUn f h)):=
 AE (bJ ho ha) λσ H Q z9=>by
  clear 5 z9 Oo c t fi r t' eq k;clear 5(Af eq)dx t1 e1 eq;exact⟨Oo,c,t,fi,dx,t1,e1,λx H1 c1 f1 s1 rx=>s f1 rx eq λv H' c' f' s' rv=>k v H' c' f' (s1.trans s') rv⟩
def toB:D->M Bool
 |.bl b=>ret b
 |_=>fail
def Am(f:M D):M Bool:=bnd f toB
theorem JT{d:D}{z:Bool×T}(h:toB d t=some z):∃b,d=.bl b/\z=(b,t):=by
 cases d with
 |bl b=>cases h;exact⟨b,rfl,rfl⟩
 |_=>cases h
theorem RT.val{K:gi}{f:M D}{σ:L2.St}{H:Hp}{Q:Bool->Hp->Prop}(q:RT K (Am f) σ H Q):RE K f σ H λx H1=>∃k,x=.bl k/\Q k H1:=by
 clear 5 q Oo c t fi r t' eq k;clear 5(Af eq)d t1 e1 eq;clear 5(JT eq)b rfl z
 cases z
 refine⟨Oo,c,t,fi,_,t',e1,λv H1 c1 f1 s1 rv=>?_⟩
 cases rv
 exact⟨r,rfl,k H1 c1 f1 s1⟩
theorem Y3(h:PE X e (RE X.K f))(he:∀whole,isTrue e X.env whole=(do let v <-whole;standAt e.pos;holding [v] (truthy v)):=by intro _;rfl):PT X e (RT X.K (Am f)):=
 Kc (ZU h he) λ_ _ _ q=>RT.val q
theorem Fo(ho:OpR X (compareOp op) R)(s:Bb X.K R h)(ha:PE X a (RE X.K f))(hb:PE X b (RE X.K g))(hm:behindInMarks op b=false):PT X (.Compare a [op] [b] pos) (RT X.K (Am (Ac f g h))):=
 Kc (Xe ho ha hb hm) λσ H Q q=>RE.two s (RT.val q)
def DE(f g w:M D)(h h':D->D->M D):M D:=bnd f λx=>bnd g λy=>bnd (Am (h x y)) λk=>if k=true then bnd w λz=>h' y z else ret (.bl false)
theorem RE.chain(s:Bb K R h)(s':Bb K R' h'){σ:L2.St}{H:Hp}{Q:VK}(q:RE K (DE f g w h h') σ H Q):Oj R R' (RE K f) (RE K g) (RE K w) σ H Q:=by
 clear 5 q Oo c t fi r t' eq k;clear 5(Af eq)dx t1 e1 eq;clear 5(Af eq)dy t2 e2 eq;clear 5(Af eq)kb t3 e3 eq;clear 5(Af e3)d3 t3' e3' e3;clear 5(JT e3)b3 rfl z
 cases z
 refine⟨Oo,c,t,fi,dx,t1,e1,λx H1 c1 f1 s1 rx=>⟨Oo,c1,t1,f1,dy,t2,e2,λy H2 c2 f2 s2 ry=>s f2 (rx.mono s2.ext) ry e3' λv H3 c3 f3 s3 rv=>?_⟩⟩
 cases rv
 refine⟨kb,rfl,?_⟩
 cases kb with
 |false=>
   rw[jZ ue5] at eq⊢
   cases eq
   exact k _ H3 c3 f3 ((s1.trans s2).trans s3) (.bl false)
 |true=>
   rw[jY rfl] at eq⊢;clear 5(Af eq)dz t4 e4 eq;exact⟨Oo,c3,t3,f3,dz,t4,e4,λw' H4 c4 f4 s4 rw'=>s' f4 (ry.mono (s3.trans s4).ext) rw' eq λv H' c' f' s' rv=>k v H' c' f' ((((s1.trans s2).trans s3).trans s4).trans s') rv⟩
theorem Ty{d:Expr}{op':CmpOp}(ho:OpR X (compareOp op) R)(ho':OpR X (compareOp op') R')(s:Bb X.K R h)(s':Bb X.K R' h')(ha:PE X a (RE X.K f))(hb:PE X b (RE X.K g))(hd:PE X d (RE X.K w))
 (hm:lastMarks [op,op'] [b,d]=false:=by with_unfolding_all rfl):PE X (.Compare a [op,op'] [b,d] pos) (RE X.K (DE f g w h h')):=
 AE (Uw ho ho' ha hb hd hm) λ_ _ _ q=>RE.chain s s' q
theorem TY{d:Expr}{op':CmpOp}(ho:OpR X (compareOp op) R)(ho':OpR X (compareOp op') R')(s:Bb X.K R h)(s':Bb X.K R' h')(ha:PE X a (RE X.K f))(hb:PE X b (RE X.K g))(hd:PE X d (RE X.K w))
 (hm:lastMarks [op,op'] [b,d]=false:=by with_unfolding_all rfl):PT X (.Compare a [op,op'] [b,d] pos) (RT X.K (Am (DE f g w h h'))):=
 Kc (UH ho ho' ha hb hd hm) λσ H Q q=>RE.chain s s' (RT.val q)
def Il(f g:M Bool):M Bool:=bnd f λk=>if k=true then g else ret false
def fOr(f g:M Bool):M Bool:=bnd f λk=>if k=true then ret true else g
def C1(f:M Bool):M Bool:=bnd f λk=>ret (!k)
def FH(f g:M D):M D:=bnd (Am f) λk=>if k=true then g else ret (.bl false)
def Ly(f g:M D):M D:=bnd (Am f) λk=>if k=true then ret (.bl true) else g
def IV(f:M D):M D:=bnd (Am f) λk=>ret (.bl (!k))
def fIf(f:M Bool)(g h:M D):M D:=bnd f λk=>if k=true then g else h
variable{f g:M Bool}{u v w:M D}{rest:List Expr}
theorem bp(h:PW X e (RT X.K f)):PT X e (RT X.K f):=h.pt
theorem Wp(ha:PT X a (RT X.K f)):PW X (.BoolOp .And [a] pos) (RT X.K f):=Xf ha
theorem Y5(ha:PT X a (RT X.K f)):PW X (.BoolOp .Or [a] pos) (RT X.K f):=ZW ha
theorem Y4(ha:PT X a (RT X.K f))(hb:PW X (.BoolOp .And (b::rest) pos) (RT X.K g)):PW X (.BoolOp .And (a::b::rest) pos) (RT X.K (Il f g)):=
 QL (ZV ha hb) λσ H Q z9=>by
  clear 5 z9 Oo c t fi r t' eq k;clear 5(Af eq)kb t1 e1 eq;refine⟨Oo,c,t,fi,kb,t1,e1,λH1 c1 f1 s1=>?_⟩
  cases kb with
  |false=>rw[jZ ue5] at eq⊢;cases eq;exact k H1 c1 f1 s1
  |true=>rw[jY rfl] at eq⊢;exact⟨Oo,c1,t1,f1,r,t',eq,λH2 c2 f2 s2=>k H2 c2 f2 (s1.trans s2)⟩
theorem bq(ha:PT X a (RT X.K f))(hb:PW X (.BoolOp .Or (b::rest) pos) (RT X.K g)):PW X (.BoolOp .Or (a::b::rest) pos) (RT X.K (fOr f g)):=
 QL (bR ha hb) λσ H Q z9=>by
  clear 5 z9 Oo c t fi r t' eq k;clear 5(Af eq)kb t1 e1 eq;refine⟨Oo,c,t,fi,kb,t1,e1,λH1 c1 f1 s1=>?_⟩
  cases kb with
  |true=>rw[jY rfl] at eq⊢;cases eq;exact k H1 c1 f1 s1
  |false=>rw[jZ ue5] at eq⊢;exact⟨Oo,c1,t1,f1,r,t',eq,λH2 c2 f2 s2=>k H2 c2 f2 (s1.trans s2)⟩
theorem Y2(ha:PT X a (RT X.K f)):PT X (.UnaryOp .Not a pos) (RT X.K (C1 f)):=
 Kc (ZS ha) λσ H Q z9=>by
  clear 5 z9 Oo c t fi r t' eq k;clear 5(Af eq)kb t1 e1 eq
  cases eq
  exact⟨Oo,c,t,fi,kb,_,e1,λH1 c1 f1 s1=>k H1 c1 f1 s1⟩
theorem JU{f:M D}{kb:Bool}{t1:T}(h:Am f t=some (kb,t1)):f t=some (.bl kb,t1):=by
 clear 5(Af h)d t2 e1 e2;clear 5(JT e2)b rfl z
 cases z
 exact e1
theorem YN{op:PySem.BoolOp}(h:PE X a (RE X.K u)):PE X (.BoolOp op [a] pos) (RE X.K u):=ZH h
theorem YG(ha:PE X a (RE X.K u))(hb:PE X (.BoolOp .And (b::rest) pos) (RE X.K v)):PE X (.BoolOp .And (a::b::rest) pos) (RE X.K (FH u v)):=
 AE (ZB ha hb) λσ H Q z9=>by
  clear 5 z9 Oo c t fi r t' eq k;clear 5(Af eq)kb t1 e1 eq;refine⟨Oo,c,t,fi,_,t1,JU e1,λx H1 c1 f1 s1 rx=>?_⟩
  cases rx
  refine⟨kb,rfl,?_⟩
  cases kb with
  |false=>rw[jZ ue5] at eq⊢;cases eq;exact k _ H1 c1 f1 s1 (.bl false)
  |true=>rw[jY rfl] at eq⊢;exact⟨Oo,c1,t1,f1,r,t',eq,λy H2 c2 f2 s2 ry=>k y H2 c2 f2 (s1.trans s2) ry⟩
theorem bb(ha:PE X a (RE X.K u))(hb:PE X (.BoolOp .Or (b::rest) pos) (RE X.K v)):PE X (.BoolOp .Or (a::b::rest) pos) (RE X.K (Ly u v)):=
 AE (bI ha hb) λσ H Q z9=>by
  clear 5 z9 Oo c t fi r t' eq k;clear 5(Af eq)kb t1 e1 eq;refine⟨Oo,c,t,fi,_,t1,JU e1,λx H1 c1 f1 s1 rx=>?_⟩
  cases rx
  refine⟨kb,rfl,?_⟩
  cases kb with
  |true=>rw[jY rfl] at eq⊢;cases eq;exact k _ H1 c1 f1 s1 (.bl true)
  |false=>rw[jZ ue5] at eq⊢;exact⟨Oo,c1,t1,f1,r,t',eq,λy H2 c2 f2 s2 ry=>k y H2 c2 f2 (s1.trans s2) ry⟩
theorem YL(ha:PE X a (RE X.K u)):PE X (.UnaryOp .Not a pos) (RE X.K (IV u)):=
 AE (ZG ha) λσ H Q z9=>by
  clear 5 z9 Oo c t fi r t' eq k;clear 5(Af eq)kb t1 e1 eq
  cases eq
  refine⟨Oo,c,t,fi,_,_,JU e1,λx H1 c1 f1 s1 rx=>?_⟩
  cases rx
  exact⟨kb,rfl,k _ H1 c1 f1 s1 (.bl (!kb))⟩
theorem TC{d:Expr}(hc:PT X d (RT X.K f))(ha:PE X a (RE X.K u))(hb:PE X b (RE X.K v)):PE X (.IfExp d a b pos) (RE X.K (fIf f u v)):=
 AE (NZ hc ha hb) λσ H Q z9=>by
  clear 5 z9 Oo c t fi r t' eq k;clear 5(Af eq)kb t1 e1 eq;refine⟨Oo,c,t,fi,kb,t1,e1,λH1 c1 f1 s1=>?_⟩
  cases kb with
  |false=>rw[jZ ue5] at eq⊢;exact⟨Oo,c1,t1,f1,r,t',eq,λy H2 c2 f2 s2 ry=>k y H2 c2 f2 (s1.trans s2) ry⟩
  |true=>rw[jY rfl] at eq⊢;exact⟨Oo,c1,t1,f1,r,t',eq,λy H2 c2 f2 s2 ry=>k y H2 c2 f2 (s1.trans s2) ry⟩
end
variable{n:Nat}{p:Pos}
section
variable{X:Cx}{e a b:Expr}{es:List Expr}{pos:Pos}
def Ad:M (List D):=ret []
def Ab(f:M D)(g:M (List D)):M (List D):=bnd f λd=>bnd g λds=>ret (d::ds)
theorem YF:PA X [] (RA X.K Ad):=QJ Sd λσ H Q z9=>by
 clear 5 z9 Oo c t fi r t' eq k
 cases eq
 exact k [] H c fi .refl .nil
theorem V4{g:M (List D)}(ha:PE X e (RE X.K f))(hr:PA X es (RA X.K g))(hs:starEach (e::es) X.env=(false,eval e X.env)::starEach es X.env:=by rfl):PA X (e::es) (RA X.K (Ab f g)):=
 QJ (O5 ha hr hs) λσ H Q z9=>by
  clear 5 z9 Oo c t fi r t' eq k;clear 5(Af eq)d t1 e1 eq;clear 5(Af eq)ds t2 e2 eq
  cases eq
  exact⟨Oo,c,t,fi,d,t1,e1,λx H1 c1 f1 s1 rx=>⟨Oo,c1,t1,f1,ds,_,e2,λxs H2 c2 f2 s2 rxs=>k _ H2 c2 f2 (s1.trans s2) (.cons (rx.mono s2.ext) rxs)⟩⟩
def lim{α:Type}(n:Nat)(a:α):M α:=λt=>if n<=LIM then some (a,t) else none
theorem Eb{α:Type}{a:α}{z:α×T}(h:lim n a t=some z):n<=LIM/\z=(a,t):=by
 unfold lim at h
 split at h
 .next h1=>cases h;exact⟨h1,rfl⟩
 .cases h
def AQ(f:M (List D)):M D:=bnd f λds=>lim ds.length (.tup ds)
theorem Q6{x1:Nat}{f:M (List D)}(h:PA X es (RA X.K f)):PE X (.Tuple es x1 pos) (RE X.K (AQ f)):=
 AE (ZI h) λσ H Q z9=>by
  clear 5 z9 Oo c t fi r t' eq k;clear 5(Af eq)ds t1 e1 eq;clear 5(Eb eq)hl z
  cases z
  refine⟨Oo,c,t,fi,ds,_,e1,λxs H1 c1 f1 s1 rxs=>⟨by rw[rxs.length];exact um4 hl Dy,λp hp=>?_⟩⟩;exact k _ _ c1 (f1.laid hp) (s1.trans (f1.stp_laid hp)) (.tup AC (f1.s.free hp) (rxs.mono (Ext.laid f1.s hp)))
def AG(f:M (List D)):M (List D):=bnd f λds=>lim ds.length ds
theorem YS{f:M (List D)}(h:PA X es (RA X.K f)):PE X (.List es pos) (RF X.K (AG f)):=
 AE (ZE h) λσ H Q z9=>by
  clear 5 z9 Oo c t fi r t' eq k;clear 5(Af eq)ds t1 e1 eq;clear 5(Eb eq)hl z
  cases z
  exact⟨Oo,c,t,fi,_,_,e1,λxs H1 c1 f1 s1 rxs=>⟨by rw[rxs.length];exact um4 hl Dy,λp hp=>k p xs H1 c1 f1 s1 rxs hp⟩⟩
def Ar(f:M (List D)):M D:=bnd f λds=>ret (.lst ds)
theorem Wa{f:M (List D)}(h:PE X e (RF X.K f)):PE X e (RE X.K (Ar f)):=
 AE h λσ H Q z9=>by
  clear 5 z9 Oo c t fi r t' eq k;clear 5(Af eq)ds t1 e1 eq
  cases eq
  exact⟨Oo,c,t,fi,ds,_,e1,λp xs H1 c1 f1 s1 rxs hp=>k _ _ c1 (f1.laid hp) (s1.trans (f1.stp_laid hp)) (.lst AC (f1.s.free hp) (rxs.mono (Ext.laid f1.s hp)))⟩
noncomputable def Qa(o:Ob):M D:=λt=>some (.obj t.S.length,{t with S:=t.S++[o]})
def Hu(f:M (List D)):M D:=bnd f λds=>Qa (.lst ds)
theorem YM{f:M (List D)}(h:PE X e (RF X.K f)):PE X e (RE X.K (Hu f)):=
 AE h λσ H Q z9=>by
  clear 5 z9 Oo c t fi r t' eq k;clear 5(Af eq)ds t1 e1 eq
  cases eq
  refine⟨Oo,c,t,fi,ds,_,e1,λp xs H1 c1 f1 s1 rxs hp=>?_⟩;obtain⟨c2,f2,s2,e2⟩:=f1.newObj (o:=.lst ds) (u:=.lst xs) hp λc' H' ex hu=>⟨xs,hu,rxs.mono ex⟩;exact k _ _ c2 f2 (s1.trans s2) (.obj e2)
abbrev Fn:=List D->List Ob->Option (D×List Ob)
inductive spF(K:gi)(f:Fn)(vs:List V)(H:Hp)(Q:VK)(E:XK):Prop where
 |mk (c:Cf) (ds:List D) (S:List Ob) (si:SInv K c S H) (rs:Reps K c H vs ds) (r:D) (S':List Ob) (e:f ds S=some (r,S')) (k:∀v H' c',SInv K c' S' H'->Stp c.O c H c' H'->(∀b,c'.O b↔c.O b)->Rep K c' H' v r->Q v H'):spF K f vs H Q E
def Ag(g:Fn)(f:M (List D)):M D:=bnd f λds t=>match g ds t.S with
 |some (r,S')=>some (r,{t with S:=S'})
 |none=>none
theorem Fl{g:Fn}{ds:List D}{r:D}{t':T}(h:(match g ds t.S with|some (r,S')=>some (r,{t with S:=S'})|none=>none:Option (D×T))=some (r,t')):∃S',g ds t.S=some (r,S')/\t' = {t with S:=S'}:=by
 cases e:g ds t.S with
 |none=>rw[e] at h;cases h
 |some p=>clear 5 p r' S';rw[e] at h;cases h;exact⟨S',rfl,rfl⟩
theorem V6{k:Nat}{fa:gm}{fd:gy}{ps:List Str}{g:Fn}{f:M (List D)}(F:FnOk X.prog X.w X.K X.mg X.base CX0 k fa fd ps (spF X.K g))(hr:Room k X.A)(hg:Gl X x)(hm:X.mg x=some (.ref fa))(hk:PySem.W.keepIn X.K (.ref fa)=true)(hb:Binds X.K fd ps [])
 (ha:PA X (e::es) (RA X.K f)) (hdb:(x==("__debug__":Str))=false:=by decide) (he:starEach (e::es) X.env=(false,eval e X.env)::starEach es X.env:=by rfl) (hpl:(backTo pos (starEach es X.env)).any (·.1)=false:=by rfl) :
 PE X (.Call (.Name x p) (e::es) [] pos) (RE X.K (Ag g f)):=
 AE (LI F hr hg hm hk hb .nil HH ha hdb he hpl) λσ H Q z9=>by
  clear 5 z9 Oo c t fi r t' eq kk;clear 5(Af eq)ds t1 e1 eq;clear 5(Fl eq)S' e2 rfl;refine⟨Oo,c,t,fi,ds,t1,e1,λvs H1 c1 f1 s1 rvs=>?_⟩;show spF X.K g (vs++[]) H1 Q E0;rw[ui6];refine⟨c1,ds,t1.S,f1.s,rvs,r,S',e2,λv H' c' si st ho rv=>?_⟩;clear 5(f1.after si st ho)f2 s2;exact kk v H' c' f2 (s1.trans s2) rv
def fB(f:M (List D))(h:List D->M D):M D:=bnd f h
theorem RE.callB{f:M (List D)}{h:List D->M D}{R:List V->Hp->VK->Prop}(s:Fv K R h){σ:L2.St}{H:Hp}{Q:VK}(q:RE K (fB f h) σ H Q):tCB R (RA K f) σ H Q:=by
 clear 5 q Oo c t fi r t' eq k;clear 5(Af eq)ds t1 e1 eq;exact⟨Oo,c,t,fi,ds,t1,e1,λxs H1 c1 f1 s1 rxs=>s f1 rxs eq λv H' c' f' s' rv=>k v H' c' f' (s1.trans s') rv⟩
def fBF(f:M (List D))(h:List D->M (List D)):M (List D):=bnd f h
theorem RF.callB{f:M (List D)}{h:List D->M (List D)}{R:List V->Hp->VK->Prop}(s:Ke K R h){σ:L2.St}{H:Hp}{Q:VK}(q:RF K (fBF f h) σ H Q):tCB R (RA K f) σ H Q:=by
 clear 5 q Oo c t fi r t' eq k;clear 5(Af eq)ds t1 e1 eq;exact⟨Oo,c,t,fi,ds,t1,e1,λxs H1 c1 f1 s1 rxs=>s f1 rxs eq λp vs H' c' f' s' rv hp=>k p vs H' c' f' (s1.trans s') rv hp⟩
theorem RF.two{h:D->D->M (List D)}(s:Pt K R h){σ:L2.St}{H:Hp}{Q:VK}(q:RF K (bnd f λx=>bnd g λy=>h x y) σ H Q):tOp R (RE K f) (RE K g) σ H Q:=by
 clear 5 q Oo c t fi r t' eq k;clear 5(Af eq)dx t1 e1 eq;clear 5(Af eq)dy t2 e2 eq;exact⟨Oo,c,t,fi,dx,t1,e1,λx H1 c1 f1 s1 rx=>⟨Oo,c1,t1,f1,dy,t2,e2,λy H2 c2 f2 s2 ry=>s f2 (rx.mono s2.ext) ry eq λp vs H' c' f' s' rv hp=>k p vs H' c' f' ((s1.trans s2).trans s') rv hp⟩⟩
end
variable{μ:Cf->Hp->D->(V->Hp->Prop)->Prop}{σ:L2.St}
section
variable{X:Cx}{e a b:Expr}{pos:Pos}{st:Stmt}{sts:List Stmt}
noncomputable def Ae(f g:M Out):M Out:=λt=>match f t with
 |some (.next,t1)=>g t1
 |z=>z
def As:M Out:=ret .next
theorem Wo:PSs X [] (RSg X.K μ As):=OG Xd λE σ H z9=>by
 clear 5 z9 Oo c t fi o t' eq k
 cases eq
 exact k σ H c fi .refl
theorem TW{μ:Cf->Hp->D->(V->Hp->Prop)->Prop}{f g:M Out}(h1:PS X st (RSg X.K μ f))(h2:PSs X sts (RSg X.K μ g)):PSs X (st::sts) (RSg X.K μ (Ae f g)):=
 OG (UG h1 h2) λE σ H z9=>by
  clear 5 z9 Oo c t fi o t' eq k;unfold Ae at eq
  cases e1:f t with
  |none=>rw[e1] at eq;cases eq
  |some p=>
    clear 5 p o1 t1;rw[e1] at eq;refine⟨Oo,c,t,fi,o1,t1,e1,λσ1 H1 c1 f1 s1=>?_⟩
    cases o1 with
    |next=>exact⟨Oo,c1,t1,f1,o,t',eq,λσ2 H2 c2 f2 s2=>k σ2 H2 c2 f2 (s1.trans s2)⟩
    |brk=>cases eq;exact k σ1 H1 c1 f1 s1
    |cont=>cases eq;exact k σ1 H1 c1 f1 s1
    |ret d=>cases eq;exact k σ1 H1 c1 f1 s1
theorem LC{μ:Cf->Hp->D->(V->Hp->Prop)->Prop}{f:M Out}(h1:PS X st (RSg X.K μ f)):PSs X [st] (RSg X.K μ f):=LK h1
def Al(f:M D):M Out:=bnd f λd=>ret (.ret d)
theorem Rh(h:PE X e (RE X.K f)):PS X (.Return (some e) pos) (RS X.K (Al f)):=
 A7 (IE h) λE σ H z9=>by
  clear 5 z9 Oo c t fi o t' eq k;clear 5(Af eq)d t1 e1 eq
  cases eq
  exact⟨Oo,c,t,fi,d,_,e1,λv H1 c1 f1 s1 rv=>k σ H1 c1 f1 s1 v rv⟩
theorem Jr:PS X (.Continue pos) (RSg X.K μ (ret .cont)):=A7 OB λE σ H z9=>by
 clear 5 z9 Oo c t fi o t' eq k
 cases eq
 exact k σ H c fi .refl
theorem TU:PS X (.Break pos) (RSg X.K μ (ret .brk)):=A7 UE λE σ H z9=>by
 clear 5 z9 Oo c t fi o t' eq k
 cases eq
 exact k σ H c fi .refl
def Gn(f:M D):M Out:=bnd f λ_=>ret .next
theorem OT(h:PE X e (RE X.K f))(hs:swapsWith e none pos.line X.env=pure false:=by rfl):PS X (.Expr e pos) (RSg X.K μ (Gn f)):=
 A7 (LJ h hs) λE σ H z9=>by
  clear 5 z9 Oo c t fi o t' eq k;clear 5(Af eq)d t1 e1 eq
  cases eq
  exact⟨Oo,c,t,fi,d,_,e1,λv H1 c1 f1 s1 rv=>k σ H1 c1 f1 s1⟩
def ifS(f:M Bool)(g h:M Out):M Out:=bnd f λk=>if k=true then g else h
theorem bo{f:M Bool}{g h:M Out}{sa sb:List Stmt}(hc:PT X e (RT X.K f))(ha:PSs X sa (RSg X.K μ g))(hb:PSs X sb (RSg X.K μ h)):PS X (.If e sa sb pos) (RSg X.K μ (ifS f g h)):=
 A7 (bP hc ha hb) λE σ H z9=>by
  clear 5 z9 Oo c t fi o t' eq k;clear 5(Af eq)kb t1 e1 eq;refine⟨Oo,c,t,fi,kb,t1,e1,λH1 c1 f1 s1=>?_⟩
  cases kb with
  |true=>rw[jY rfl] at eq⊢;exact⟨Oo,c1,t1,f1,o,t',eq,λσ2 H2 c2 f2 s2=>k σ2 H2 c2 f2 (s1.trans s2)⟩
  |false=>rw[jZ ue5] at eq⊢;exact⟨Oo,c1,t1,f1,o,t',eq,λσ2 H2 c2 f2 s2=>k σ2 H2 c2 f2 (s1.trans s2)⟩
noncomputable def Aw(i:Nat)(d:D):M Unit:=λt=>some ((),{t with env:=t.env.set i (some (.val d))})
def Ap(i:Nat)(f:M D):M Out:=bnd f λd=>bnd (Aw i d) λ_=>ret .next
theorem RS.set{μ:Cf->Hp->D->(V->Hp->Prop)->Prop}{K:gi}{i:Nat}{f:M D}{E:Ends}{σ:L2.St}{H:Hp}(q:RSg K μ (Ap i f) E σ H):Oi (RE K f) (KH i) E σ H:=by
 clear 5 q Oo c t fi o t' eq k;clear 5(Af eq)d t1 e1 eq
 cases eq
 exact⟨Oo,c,t,fi,d,t1,e1,λv H1 c1 f1 s1 rv=>k _ H1 c1 (f1.set rv) s1⟩
theorem Nx{pos':Pos}(hN:X.N.Nodup)(hi:X.N[i]?=some x)(hx:Loc X.env.scope x)(he:PE X e (RE X.K f))(hs:swapsWith e (some (.Name x pos')) pos.line X.env=pure false:=by rfl)(hf:X.fn x=true\/X.env.scope.names.lookup x=some .local:=by walk_at"h") :
 PS X (.Assign [.Name x pos'] e pos) (RSg X.K μ (Ap i f)):=A7 (N1 hN hi hx he hs hf) λ_ _ _ q=>RS.set q
def CU(i:Nat)(f:M (List D)):M Out:=bnd f λds t=>some (.next,{t with env:=t.env.set i (some (.own ds))})
theorem RS.own{f:M (List D)}{E:Ends}(q:RSg K μ (CU i f) E σ H):Oi (RF K f) (KH i) E σ H:=by
 clear 5 q Oo c t fi o t' eq k;clear 5(Af eq)ds t1 e1 eq
 cases eq
 refine⟨Oo,c,t,fi,ds,t1,e1,λp vs H1 c1 f1 s1 rv hp=>?_⟩;clear 5(f1.setOwn (i:=i) hp rv)c2 f2 s2;exact k _ _ c2 f2 (s1.trans s2)
theorem YZ{f:M (List D)}{pos':Pos}(hN:X.N.Nodup)(hi:X.N[i]?=some x)(hx:Loc X.env.scope x)(he:PE X e (RF X.K f))(hs:swapsWith e (some (.Name x pos')) pos.line X.env=pure false:=by rfl)(hf:X.fn x=true\/X.env.scope.names.lookup x=some .local:=by walk_at"h") :
 PS X (.Assign [.Name x pos'] e pos) (RSg X.K μ (CU i f)):=A7 (N1 hN hi hx he hs hf) λ_ _ _ q=>RS.own q
theorem DQ(hN:X.N.Nodup)(hi:X.N[i]?=some x)(hx:Loc X.env.scope x)(hf:X.fn x=true\/X.env.scope.names.lookup x=some .local:=by walk_at"h"):PG X (.Name x pos) (RG X.K (Aw i)):=
 MO (W4 hN hi hx hf) λv σ H Q z9=>by
  clear 5 z9 Oo c t d fi rv t' eq k
  cases eq
  exact k _ H c (fi.set rv) .refl
def CJ(f:M D)(g:D->M Unit):M Out:=bnd f λd=>bnd (g d) λ_=>ret .next
theorem YX{g:D->M Unit}(he:PE X e (RE X.K f))(hg:PG X tg (RG X.K g))(hs:swapsWithSole [tg] e pos.line X.env=pure false:=by rfl)(hw:swappedStores [tg] e X.env=pure none:=by rfl)(hp:(assignEach [tg] X.env).map (·.2)=[assign tg X.env]:=by rfl) :
 PS X (.Assign [tg] e pos) (RSg X.K μ (CJ f g)):=
 A7 (by first|exact Sm he hg hs hw|exact Sm he hg hs hw hp) λE σ H z9=>by
  clear 5 z9 Oo c t fi o t' eq k;clear 5(Af eq)d t1 e1 eq;clear 5(Af eq)u t2 e2 eq
  cases eq
  exact⟨Oo,c,t,fi,d,t1,e1,λv H1 c1 f1 s1 rv=>⟨Oo,c1,t1,d,f1,rv,_,e2,λσ2 H2 c2 f2 s2=>k σ2 H2 c2 f2 (s1.trans s2)⟩⟩
inductive RGs(K:gi)(f:List D->M Unit)(vs:List V)(σ:L2.St)(H:Hp)(Q:L2.St->Hp->Prop):Prop where
 |mk (Oo:gm->Prop) (c:Cf) (t:T) (ds:List D) (fi:FInv K Oo c t σ H) (r:Reps K c H vs ds) (t':T) (e:f ds t=some ((),t')) (k:∀σ' H' c',FInv K Oo c' t' σ' H'->Stp Oo c H c' H'->Q σ' H'):RGs K f vs σ H Q
theorem OF{ts:List Expr}{t t':TGs}(h:PGs X ts t)(i:∀v σ H Q,t' v σ H Q->t v σ H Q):PGs X ts t':=λgj s σ H vs us Q I r q=>h gj s σ H vs us Q I r (i vs σ H Q q)
def Cm:List D->M Unit
 |[]=>ret ()
 |_=>fail
def AI(f:D->M Unit)(g:List D->M Unit):List D->M Unit
 |d::ds=>bnd (f d) λ_=>g ds
 |[]=>fail
theorem Wb:PGs X [] (RGs X.K Cm):=OF W5 λvs σ H Q z9=>by
 clear 5 z9 Oo c t ds fi rv t' eq k
 cases rv with
 |nil=>cases eq;exact⟨rfl,k σ H c fi .refl⟩
 |cons _ _=>cases eq
theorem RGs.cons{K:gi}{f:D->M Unit}{g:List D->M Unit}{vs:List V}{σ:L2.St}{H:Hp}{Q:L2.St->Hp->Prop}(q:RGs K (AI f g) vs σ H Q):Vm (RG K f) (RGs K g) vs σ H Q:=by
 clear 5 q Oo c t ds fi rv t' eq k
 cases rv with
 |nil=>cases eq
 |cons r rs=>
   clear 5(Af eq)u t1 e1 eq;exact⟨_,_,rfl,Oo,c,t,_,fi,r,t1,e1,λσ1 H1 c1 f1 s1=>⟨Oo,c1,t1,_,f1,rs.mono s1.ext,t',eq,λσ2 H2 c2 f2 s2=>k σ2 H2 c2 f2 (s1.trans s2)⟩⟩
def unT(n:Nat)(g:List D->M Unit):D->M Unit
 |.tup ds=>if ds.length=n then g ds else fail
 |_=>fail
def CS(st:D->M Unit)(b:M Out):List D->M Out
 |[]=>ret .next
 |d::r=>λt=>match st d t with
   |none=>none
   |some (_,t1)=>match b t1 with
     |some (.next,t2)=>CS st b r t2
     |some (.cont,t2)=>CS st b r t2
     |some (.brk,t2)=>some (.next,t2)
     |some (.ret x,t2)=>some (.ret x,t2)
     |none=>none
def Bn(f:M (List D))(st:D->M Unit)(b:M Out):M Out:=bnd f λds=>CS st b ds
theorem RS.for{f:M (List D)}{g:D->M Unit}{b:M Out}{E:Ends}(q:RSg K μ (Bn f g b) E σ H):ap (RI K f) (RG K g) (RSg K μ b) E σ H:=by
 clear 5 q Oo c t fi o t' eq k;clear 5(Af eq)ds t1 e1 eq;refine⟨Oo,c,t,fi,ds,t1,e1,λJ H1 c1 f1 s1 it=>?_⟩;refine⟨λi m σ' H'=>m=ds.length-i/\i<=ds.length/\∃c' t2,FInv K Oo c' t2 σ' H'/\Stp Oo c1 H1 c' H'/\CS g b (ds.drop i) t2=some (o,t'),⟨_,rfl,un5 _,c1,t1,f1,.refl,by rw[uk6];exact eq⟩,?_⟩;rintro i m σ' H' ⟨rfl,hi,c',t2,f2,s2,e2⟩
 by_cases hlt:i<ds.length
 .refine .inr ⟨it.go c' H' i s2.ext hlt,λσ3 H3=>∃c3 t3,FInv K Oo c3 t3 σ3 H3/\Stp Oo c1 H1 c3 H3/\CS g b (ds.drop (i+1)) t3=some (o,t'),λσ3 H3 h=>⟨ds.length-(i+1),by lia,rfl,hlt,h⟩,λx H'' hy=>?_⟩;clear 5(it.yld c' H' i x H'' _ s2.ext (ub3 hlt) hy)rfl rx;rw[ub1 hlt] at e2;unfold CS at e2
  cases e3:g ds[i] t2 with
  |none=>rw[e3] at e2;cases e2
  |some p=>
    clear 5 p u t3;rw[e3] at e2
    try dsimp only at e2
    refine⟨Oo,c',t2,_,f2,rx,t3,e3,λσ3 H3 c3 f3 s3=>?_⟩
    cases e4:b t3 with
    |none=>rw[e4] at e2;cases e2
    |some p=>
      clear 5 p o4 t4;rw[e4] at e2
      try dsimp only at e2
      refine⟨Oo,c3,t3,f3,o4,t4,e4,λσ5 H5 c5 f5 s5=>?_⟩;have s':=(s2.trans s3).trans s5
      cases o4 with
      |next=>exact⟨c5,t4,f5,s',e2⟩
      |cont=>exact⟨c5,t4,f5,s',e2⟩
      |brk=>cases e2;exact k σ5 H5 c5 f5 (s1.trans s')
      |ret r=>cases e2;exact k σ5 H5 c5 f5 (s1.trans s')
 .have hi':i=ds.length:=by lia
  subst hi';rw[uh3] at e2
  cases e2
  exact .inl ⟨it.stop c' H' s2.ext,k σ' H' c' f2 (s1.trans s2)⟩
theorem Re{iter:Expr}{body:List Stmt}{f:M (List D)}{g:D->M Unit}{b:M Out}(hp:PassesOwn (model X.prog X.w) X.A X.env X.xe)(hc:X.calm=true)(hi:PI X tg iter (RI X.K f))(hg:PG X tg (RG X.K g))(hb:PSs X body (RSg X.K μ b))
 (hs:∀x,foldedSetIterable iter X.env x=pure x:=by intro _;rfl):PS X (.For tg iter body [] pos) (RSg X.K μ (Bn f g b)):=
 A7 (ZP hp hc hi hg hb hs) λ_ _ _ q=>RS.for q
theorem ItOk.lst{K:gi}{c:Cf}{H:Hp}{p:gm}{ds:List D}(r:∀c' H',Ext c H c' H'->∃vs,SqL K H' p vs/\Reps K c' H' vs ds):ItOk K (Itl K p) c H ds:=by
 refine⟨λc' H' i ex hi=>?_,λc' H' i x H'' d ex hd hy=>?_,λc' H' ex=>?_⟩
 .clear 5(r c' H' ex)vs h1 h2;obtain⟨v,e,_⟩:=h2.at (ub3 hi);exact⟨vs,v,h1,e⟩
 .clear 5(r c' H' ex)vs h1 h2;clear 5 hy rfl h;exact⟨rfl,h2.get (h vs h1) hd⟩
 .clear 5(r c' H' ex)vs h1 h2;exact⟨vs,h1,by rw[h2.length];exact un4 _⟩
theorem ItOk.tup{K:gi}{c:Cf}{H:Hp}{p:gm}{ds:List D}(r:∀c' H',Ext c H c' H'->∃vs,SqT K H' p vs/\Reps K c' H' vs ds):ItOk K (Itt K p) c H ds:=by
 refine⟨λc' H' i ex hi=>?_,λc' H' i x H'' d ex hd hy=>?_,λc' H' ex=>?_⟩
 .clear 5(r c' H' ex)vs h1 h2;obtain⟨v,e,_⟩:=h2.at (ub3 hi);exact⟨vs,v,h1,e⟩
 .clear 5(r c' H' ex)vs h1 h2;clear 5 hy rfl h;exact⟨rfl,h2.get (h vs h1) hd⟩
 .clear 5(r c' H' ex)vs h1 h2;exact⟨vs,h1,by rw[h2.length];exact un4 _⟩
end
theorem FInv.leave{Oo:gm->Prop}(f:FInv K Oo c t σ H):SInv K ⟨c.ι,Oo⟩ t.S H/\Ext c H ⟨c.ι,Oo⟩ H:=by
 have ext:Ext c H ⟨c.ι,Oo⟩ H:=⟨λ_ _ e _=>e,λb o _ z=>z.elim .inl λw=>.inr (f.sub b w),λ_ _ e=>e⟩;exact⟨⟨f.s.len,f.s.nd,λk a o e1 e2=>(f.s.obs k a o e1 e2).mono ext rfl,λb z=>f.s.trk b (f.sub b z),λb z=>f.s.dis b (f.sub b z)⟩,ext⟩
noncomputable def env0(m:Nat)(ds:List D):List (Option Sl):=ds.map (λd=>some (.val d))++List.replicate (m-ds.length) none
def fnOf(n m:Nat)(g:M Out):Fn:=λds S=>if ds.length=n then(match g ⟨env0 m ds,S⟩ with
 |some (.ret r,t)=>some (r,t.S)
 |some (.next,t)=>some (.non,t.S)
 |_=>none) else none
theorem Hw{ds:List D}{N:List Str}(s:SInv K c S H)(r:Reps K c H vs ds):FInv K c.O c ⟨env0 N.length ds,S⟩ (L2.start N vs) H:=by
 have hlen:vs.length=ds.length:=r.length;have none_:∀{i:Nat}{x:Sl},(env0 N.length ds)[i]?=some (some x)->∃d,ds[i]?=some d/\x=.val d:=λ{i x} q=>by
  unfold env0 at q
  by_cases hi:i<ds.length
  .rw[ub0 (by simpa using hi),uf5,ub3 hi] at q;simp at q;exact⟨ds[i],ub3 hi,q.symm⟩
  .rw[ua6 (by simpa using hi),ub4] at q
   split at q<;>simp at q
 refine⟨s,by simp[env0,L2.start,hlen],λ_ z=>z,λi d q=>?_,λi es q=>?_,λi j es _ a q _ _ _=>?_⟩
 .obtain⟨d',h1,h2⟩:=none_ q
  cases h2
  clear 5(r.at h1)v h3 h4;refine⟨v,?_,h4⟩;unfold L2.start;have hi:=(ua9.mp h3).1;rw[ub0 (by simpa using hi),uf5,h3];rfl
 .obtain⟨_,_,h2⟩:=none_ q;cases h2
 .obtain⟨_,_,h2⟩:=none_ q;cases h2
theorem bn{P:gq}{w:gu}{mg:Str->Option gk}{base:Heap}{qual:Str}{st:Stmt}{fa:gm}{fd:gy}{N ps:List Str}{k:Nat}{g:M Out}(F:Fun K x qual st fa fd)(S:FnScope N ps (AA st))
 (hb:∀(cdv:gk) (A:Around) (outer:List Env) (s:gn) (H:Hp) (E:XK),Room k (A.deeper (PyProof.Rows.envOfC qual (AA st) s.heap.objs.size fa cdv))->
   PSs (EV CX0 P w K mg base N qual (AA st) fa cdv A outer s H E).nox (BS st) (RS K g)):FnOk P w K mg base CX0 (k+1) fa fd ps (spF K (fnOf ps.length N.length g)):=by
 have hlen:∀{ds:List D}{S:List Ob}{z:D×List Ob},fnOf ps.length N.length g ds S=some z->ds.length=ps.length:=λ{ds S z} h=>by
  unfold fnOf at h
  split at h
  .next h1=>exact h1
  .cases h
 refine F.ok S (λvs H Q E h=>?_) (λcdv A outer s H vs Q E hr h=>?_)
 .obtain⟨c,ds,S,si,rs,r,S',e,_⟩:=h;rw[rs.length];exact hlen e
 clear 5 h c ds S0 si rs r S' e kk;refine⟨RS K g,hb cdv A outer s H E hr,?_⟩;have hl:=hlen e;unfold fnOf at e;rw[jY hl] at e
 cases eg:g ⟨env0 N.length ds,S0⟩ with
 |none=>rw[eg] at e;cases e
 |some p=>
   clear 5 p o t;rw[eg] at e;refine⟨c.O,c,_,Hw si rs,o,t,eg,λσ' H' c' f' s'=>?_⟩;clear 5 f'.leave si' ext';have st':Stp c.O c H ⟨c'.ι,c.O⟩ H':=⟨s'.ext.trans ext',s'.oo⟩
   cases o with
   |next=>cases e;exact kk .non H' _ si' st' (λ_=>jX) .non
   |ret d=>cases e;exact λv rv=>kk v H' _ si' st' (λ_=>jX) (rv.mono ext')
   |brk=>cases e
   |cont=>cases e
variable{fr:List Nat}
section
variable{X:Cx}{e a b:Expr}{pos:Pos}
def items:D->M (List D)
 |.lst ds=>ret ds
 |.tup ds=>ret ds
 |.scr ns=>ret (ns.map .int)
 |_=>fail
noncomputable def rngL(lo:Int)(n:Nat):List D:=(List.range n).map λi=>.int (lo+(i:Nat))
theorem ItOk.rng{lo:Int}:ItOk K (Itr lo n) c H (rngL lo n):=by
 refine⟨λc' H' i ex hi=>?_,λc' H' i x H'' d ex hd hy=>?_,λc' H' ex=>?_⟩
 .have:i<n:=by simpa[rngL] using hi
  exact this
 .clear 5 hy rfl rfl;refine⟨rfl,?_⟩;have hi:i<n:=by
   have:=(ua9.mp hd).1;simpa[rngL] using this
  have:d=.int (lo+(i:Nat)):=by
   rw[rngL,uf5,List.getElem?_range hi] at hd;simpa using hd.symm
  rw[this];exact .int _
 .show n<=(rngL lo n).length;simp[rngL]
noncomputable def small(i:Int):Bool:=decide (-(2 ^ 62)<=i)&&decide (i<2 ^ 62)
def LN:List D->M (List D)
 |[.int j]=>λt=>if small j=true then some (rngL 0 j.toNat,t) else none
 |_=>fail
def LO:List D->M (List D)
 |[.int i,.int j]=>λt=>if (small i&&small j)=true then some (rngL i (j-i).toNat,t) else none
 |_=>fail
def BV(f:M (List D)):M (List D):=bnd f LN
def Go(f:M (List D)):M (List D):=bnd f LO
theorem Gs{i:Int}(h:small i=true) : -(2 ^ 62)<=i/\i<2 ^ 62:=by
 unfold small at h;rw[uh1] at h;exact⟨ug5 h.1,ug5 h.2⟩
theorem Q9{f:M (List D)}(hg:Gl X "range")(hm:X.mg "range" = none)(ha:PA X [a] (RA X.K f))(hs:starEach [a] X.env=[(false,eval a X.env)]:=by rfl):PI X tg (.Call (.Name "range" p) [a] [] pos) (RI X.K (BV f)):=
 Kb (Sf hg hm ha hs) λσ H R z9=>by
  clear 5 z9 Oo c t fi ds t' eq k;clear 5(Af eq)xs t1 e1 eq;refine⟨Oo,c,t,fi,xs,t1,e1,λvs H1 c1 f1 s1 rv=>?_⟩;unfold LN at eq
  split at eq
  .next j=>
   split at eq
   .next hs=>
    cases eq
    cases rv with
    |cons r rs=>
      cases rs
      cases r
      clear 5(Gs hs)h1 h2;exact⟨j,rfl,h1,h2,k _ H1 c1 f1 s1 ItOk.rng⟩
   .cases eq
  .cases eq
theorem Ra{f:M (List D)}(hg:Gl X "range")(hm:X.mg "range" = none)(ha:PA X [a,b] (RA X.K f))(hs:starEach [a,b] X.env=[(false,eval a X.env),(false,eval b X.env)]:=by rfl)(hs2:starEach [b] X.env=[(false,eval b X.env)]:=by rfl):PI X tg (.Call (.Name "range" p) [a,b] [] pos) (RI X.K (Go f)):=
 Kb (Sg hg hm ha hs hs2) λσ H R z9=>by
  clear 5 z9 Oo c t fi ds t' eq k;clear 5(Af eq)xs t1 e1 eq;refine⟨Oo,c,t,fi,xs,t1,e1,λvs H1 c1 f1 s1 rv=>?_⟩;unfold LO at eq
  split at eq
  .next i j=>
   split at eq
   .next hs=>
    cases eq
    rw[uh1] at hs
    cases rv with
    |cons r rs=>
      cases r
      cases rs with
      |cons r rs=>
        cases rs
        cases r
        clear 5(Gs hs.1)h1 h2;clear 5(Gs hs.2)h3 h4;exact⟨i,j,rfl,⟨h1,h2,h3,h4⟩,k _ H1 c1 f1 s1 ItOk.rng⟩
   .cases eq
  .cases eq
def Cs(st:D->M Unit)(tst:M Bool)(elt:M D):List D->M (List D)
 |[]=>ret []
 |d::r=>bnd (st d) λ_=>bnd tst λk=>if k=true then bnd elt λx=>bnd (Cs st tst elt r) λxs=>ret (x::xs) else Cs st tst elt r
noncomputable def b9:Option (Option Sl)->Option Sl
 |some (some (.val d))=>some (.val d)
 |_=>none
def cenv(n:Nat)(fr:List Nat)(env:List (Option Sl)):List (Option Sl):=List.replicate n none++fr.map λi=>b9 env[i]?
noncomputable def GA(n:Nat)(fr:List Nat)(σ:L2.St):L2.St:=List.replicate n none++fr.map λi=>(σ[i]?).join
def BA(n:Nat)(fr:List Nat)(f:M (List D))(st:D->M Unit)(tst:M Bool)(elt:M D):M (List D):=bnd f λds t=>match Cs st tst elt ds ⟨cenv n fr t.env,t.S⟩ with
 |some (xs,t')=>if xs.length<=LIM then some (xs,{t with S:=t'.S}) else none
 |none=>none
theorem JD{env:List (Option Sl)}{x:Sl}(h:(cenv n fr env)[j]?=some (some x)):∃i d,n<=j/\fr[j-n]?=some i/\env[i]?=some (some (.val d))/\x=.val d:=by
 unfold cenv at h
 by_cases hj:j<n
 .rw[ub0 (by simpa using hj),ub4] at h
  split at h<;>simp at h
 .rw[ua6 (by simpa using hj),uc7,uf5] at h
  cases e:fr[j-n]? with
  |none=>rw[e] at h;simp at h
  |some i=>
    rw[e] at h;simp only[uj3,ug2] at h
    cases e2:env[i]? with
    |none=>rw[e2] at h;cases h
    |some o=>
      cases o with
      |none=>rw[e2] at h;cases h
      |some sl=>
        cases sl with
        |own _=>rw[e2] at h;cases h
        |val d=>rw[e2] at h;cases h;exact⟨i,d,by lia,rfl,e2,rfl⟩
theorem PQ{Oo:gm->Prop}(f:FInv K Oo c t σ H):FInv K c.O c ⟨cenv n fr t.env,t.S⟩ (GA n fr σ) H:=by
 refine⟨f.s,by simp[cenv,GA],λ_ z=>z,λj d q=>?_,λj es q=>?_,λj _ es _ _ q _ _ _=>?_⟩
 .obtain⟨i,d',h0,h1,h2,h3⟩:=JD q
  cases h3
  clear 5(f.val i d h2)v h4 h5;refine⟨v,?_,h5⟩;unfold GA;rw[ua6 (by simpa using h0),uc7,uf5,h1];simp[h4]
 .obtain⟨_,_,_,_,_,h⟩:=JD q;cases h
 .obtain⟨_,_,_,_,_,h⟩:=JD q;cases h
theorem RF.comp{f:M (List D)}{st:D->M Unit}{tst:M Bool}{elt:M D}{Q:VK}(q:RF K (BA n fr f st tst elt) σ H Q):Qt (RI K f) (RG K st) (RT K tst) (RE K elt) (GA n fr) σ H Q:=by
 clear 5 q Oo c t fi xs t' eq k;clear 5(Af eq)ds t1 e1 eq;refine⟨Oo,c,t,fi,ds,t1,e1,λJ H1 c1 f1 s1 it=>?_⟩
 cases e3:Cs st tst elt ds ⟨cenv n fr t1.env,t1.S⟩ with
 |none=>rw[e3] at eq;cases eq
 |some p=>
   clear 5 p ys t3;rw[e3] at eq;dsimp only at eq
   split at eq
   case isFalse=>cases eq
   next hl=>
   cases eq
   refine⟨λi m acc σ' H'=>m=ds.length-i/\i<=ds.length/\∃c' t2 zs rest,FInv K c1.O c' t2 σ' H'/\Stp c1.O c1 H1 c' H'/\Reps K c' H' acc zs/\Cs st tst elt (ds.drop i) t2=some (rest,t3)/\xs=zs++rest,
    ⟨_,rfl,un5 _,c1,_,[],xs,PQ f1,.refl,.nil,by rw[uk6];exact e3,rfl⟩,?_⟩
   rintro i m acc σ' H' ⟨rfl,hi,c',t2,zs,rest,f2,s2,ra,e2,ez⟩;have hacc:acc.length<=sizeLine:=by
    have:zs.length<=xs.length:=by rw[ez,ue8];exact uh4 _ _
    rw[ra.length];exact um4 this (um4 hl Dy)
   refine⟨hacc,?_⟩
   by_cases hlt:i<ds.length
   .refine .inr ⟨it.go c' H' i s2.ext hlt,λx H'' hy=>?_⟩;clear 5(it.yld c' H' i x H'' _ s2.ext (ub3 hlt) hy)rfl rx;rw[ub1 hlt] at e2;unfold Cs at e2;clear 5(Af e2)u t4 e4 e2;clear 5(Af e2)kb t5 e5 e2;refine⟨c1.O,c',t2,_,f2,rx,t4,e4,λσ3 H3 c3 f3 s3=>⟨c1.O,c3,t4,f3,kb,t5,e5,λH4 c4 f4 s4=>?_⟩⟩
    cases kb with
    |false=>
      rw[jZ ue5] at e2⊢;exact⟨ds.length-(i+1),by lia,rfl,hlt,c4,t5,zs,rest,f4,(s2.trans s3).trans s4,ra.mono (s3.trans s4).ext,e2,ez⟩
    |true=>
      rw[jY rfl] at e2⊢;clear 5(Af e2)x6 t6 e6 e2;clear 5(Af e2)r7 t7 e7 e2
      cases e2
      refine⟨c1.O,c4,t5,f4,x6,t6,e6,λv H5 c5 f5 s5 rv=>?_⟩;exact⟨ds.length-(i+1),by lia,rfl,hlt,c5,t6,zs++[x6],r7,f5,((s2.trans s3).trans s4).trans s5,(ra.mono ((s3.trans s4).trans s5).ext).append (.cons rv .nil),e7,by rw[ez,uf8];rfl⟩
   .have hi':i=ds.length:=by lia
    subst hi';rw[uh3] at e2
    cases e2
    refine .inl ⟨it.stop c' H' s2.ext,λp hp _=>?_⟩;clear 5 f2.leave si ext;clear 5(f1.after si ⟨s2.ext.trans ext,s2.oo⟩ (λ_=>jX))f6 s6;rw[ui6] at ez;subst ez;exact k p acc H' _ f6 (s1.trans s6) (ra.mono ext) hp
end
end
open PySem.SeqAt
noncomputable def eq0:D->D->Option Bool
 |.int a,.int b=>some (a==b)
 |.str a,.str b=>some (a==b)
 |.bl a,.bl b=>some (a==b)
 |.non,.non=>some true
 |.int _,.str _=>some false
 |.str _,.int _=>some false
 |_,_=>none
noncomputable def Du(f:D->D->Option Bool):List D->List D->Option Bool
 |x::xs,y::ys=>match f x y,Du f xs ys with
   |some a,some b=>some (a&&b)
   |_,_=>none
 |_,_=>some true
def eqN:Nat->D->D->Option Bool
 |0,x,y=>eq0 x y
 |n+1,.tup xs,.tup ys=>(Du (eqN n) xs ys).map λb=>b&&xs.length==ys.length
 |n+1,.lst xs,.lst ys=>if xs.length=ys.length then Du (eqN n) xs ys else some false
 |_+1,x,y=>eq0 x y
noncomputable def ej(f:D->D->Option Bool)(xs ys:List D)(j:Nat):Bool:=match xs[j]?,ys[j]? with
 |some d,some e=>(f d e).getD true
 |_,_=>true
theorem Dz{f:D->D->Option Bool}:∀{xs ys:List D}{b:Bool},Du f xs ys=some b->b=(List.range (min xs.length ys.length)).all (ej f xs ys)/\∀(j:Nat) d e,xs[j]?=some d->ys[j]?=some e->∃k,f d e=some k
 |[],ys,b,h=>by
   have h:some true=some b:=by simpa[Du] using h
   cases h
   refine⟨by simp,λj d e q _=>by simp at q⟩
 |x::xs,[],b,h=>by
   have h:some true=some b:=by simpa[Du] using h
   cases h
   refine⟨by simp,λj d e _ q=>by simp at q⟩
 |x::xs,y::ys,b,h=>by
   unfold Du at h
   cases e1:f x y with
   |none=>rw[e1] at h;cases h
   |some a=>
     cases e2:Du f xs ys with
     |none=>rw[e1,e2] at h;cases h
     |some c=>
       rw[e1,e2] at h
       cases h
       clear 5(Dz e2)h1 h2;refine⟨?_,λj d e q1 q2=>?_⟩
       .have hm:min (x::xs).length (y::ys).length=min xs.length ys.length+1:=by simp[Nat.succ_min_succ]
        rw[hm,jb,ul3,List.all_map,h1];have:ej f (x::xs) (y::ys) 0=a:=by simp[ej,e1]
        rw[this];rfl
       .cases j with
        |zero=>simp at q1 q2;subst q1 q2;exact⟨a,e1⟩
        |succ j=>exact h2 j d e (by simpa using q1) (by simpa using q2)
section
variable{P:gq}{w:gu}{H:Hp}{vs:List V}
theorem Hy{h:Heap}{a:gm}(o:HOk P w H h)(e:H a=some (.lst vs)):∃its:List gk,Vals vs its/\h.IsList a its.toArray:=by
 obtain⟨_,its,n,r,q⟩:=o a _ e;exact⟨its,r,_,q,rfl,n,rfl⟩
theorem I9{h:Heap}{a:gm}(o:HOk P w H h)(e:H a=some (.tup vs)):∃its:List gk,Vals vs its/\h.IsTuple a its.toArray:=by
 obtain⟨_,its,r,q⟩:=o a _ e;exact⟨its,r,q⟩
theorem K8{its:List gk}{j:Nat}(r:Vals vs its)(h:j<its.toArray.size):∃v,vs[j]?=some v/\RelV v its.toArray[j]:=by
 have h':j<its.length:=by simpa using h
 have hl:j<vs.length:=by rw[r.length];exact h'
 clear 5(r.get (ub3 hl))u e1 e2;refine⟨vs[j],ub3 hl,?_⟩;rw[ub3 h'] at e1
 cases e1
 simpa using e2
variable{b:Bool}
theorem Q0{f:D->D->Option Bool}{xs ys:List D}(h:Du f xs ys=some b)(ht:∀(j:Nat) d e k,xs[j]?=some d->ys[j]?=some e->f d e=some k->k=true):b=true:=by
 clear 5(Dz h)h1 h2;rw[h1,uh5];intro j hj;have hj':=uk2.mp hj;have l1:j<xs.length:=by lia
 have l2:j<ys.length:=by lia
 clear 5(h2 j _ _ (ub3 l1) (ub3 l2))k ek;have:=ht j _ _ k (ub3 l1) (ub3 l2) ek;unfold ej;rw[ub3 l1,ub3 l2];simp[ek,this]
theorem Ij{x y:D}(e:eq0 x y=some b):(∃i j,x=.int i/\y=.int j/\(i==j)=b)\/(∃i j,x=.str i/\y=.str j/\(i==j)=b)\/(∃i j,x=.bl i/\y=.bl j/\(i==j)=b)\/(x=.non/\y=.non/\true=b)\/(∃i j,x=.int i/\y=.str j/\false=b)\/(∃i j,x=.str i/\y=.int j/\false=b):=by
 unfold eq0 at e
 split at e
 .cases e;exact .inl ⟨_,_,rfl,rfl,rfl⟩
 .cases e;exact .inr (.inl ⟨_,_,rfl,rfl,rfl⟩)
 .cases e;exact .inr (.inr (.inl ⟨_,_,rfl,rfl,rfl⟩))
 .cases e;exact .inr (.inr (.inr (.inl ⟨rfl,rfl,rfl⟩)))
 .cases e;exact .inr (.inr (.inr (.inr (.inl ⟨_,_,rfl,rfl,rfl⟩))))
 .cases e;exact .inr (.inr (.inr (.inr (.inr ⟨_,_,rfl,rfl,rfl⟩))))
 .cases e
theorem Ik{n:Nat}{x y:D}(e:eqN n x y=some b):eq0 x y=some b\/(∃m xs ys,n=m+1/\x=.lst xs/\y=.lst ys/\(if xs.length=ys.length then Du (eqN m) xs ys else some false)=some b)\/∃m xs ys b',n=m+1/\x=.tup xs/\y=.tup ys/\Du (eqN m) xs ys=some b'/\(b'&&xs.length==ys.length)=b:=by
 unfold eqN at e
 split at e
 .exact .inl e
 .clear 5(uc0.mp e)b' e1 e2;exact .inr (.inr ⟨_,_,_,b',rfl,rfl,rfl,e1,e2⟩)
 .exact .inr (.inl ⟨_,_,_,rfl,rfl,rfl,e⟩)
 .exact .inl e
variable{K:gi}{c:Cf}
theorem OQ:∀(n:Nat){v:V}{d e:D}{b:Bool},Rep K c H v d->Rep K c H v e->eqN n d e=some b->b=true
 :=by
  intro n
  induction n using Nat.strongRecOn with
  |ind n ih=>
  intro v d e b rd re q;have items:∀{m:Nat}{vs:List V}{ds es:List D}{b':Bool},n=m+1->Reps K c H vs ds->Reps K c H vs es->Du (eqN m) ds es=some b'->b'=true:=λ{m vs ds es b'} hm r1 r2 e'=>
   Q0 e' λj d e k q1 q2 ek=>by
    clear 5(r1.at q1)v g1 g2;exact ih m (by lia) g2 (r2.get g1 q2) ek
  rcases Ik q with q0|⟨m,ds,es,hm,rfl,rfl,q0⟩|⟨m,ds,es,b',hm,rfl,rfl,q1,q2⟩
  .rcases Ij q0 with⟨i,j,rfl,rfl,rfl⟩|⟨i,j,rfl,rfl,rfl⟩|⟨i,j,rfl,rfl,rfl⟩|⟨rfl,rfl,rfl⟩|⟨i,j,rfl,rfl,rfl⟩|⟨i,j,rfl,rfl,rfl⟩
   .cases rd;cases re;simp
   .cases rd;cases re;simp
   .cases rd;cases re;simp
   .cases rd;cases re;rfl
   .cases rd;cases re
   .cases rd;cases re
  .cases rd with
   |lst h1 h2 h3=>
     cases re with
     |lst g1 g2 g3=>
       rw[h1] at g1;cases g1
       rw[jY (h3.length.symm.trans g3.length)] at q0;exact items hm h3 g3 q0
  .cases rd with
   |tup h1 h2 h3=>
     cases re with
     |tup g1 g2 g3=>
       rw[h1] at g1;cases g1
       rw[<-q2,items hm h3 g3 q1,h3.length.symm.trans g3.length];simp
theorem OP{s:gn}(hok:HOk P w H s.heap):∀(n:Nat){A:Around}{x y:V}{u v:gk}{dx dy:D}{b:Bool},RelV x u->RelV y v->Rep K c H x dx->Rep K c H y dy->eqN n dx dy=some b->A.units+n<cLine->
 RcAt A s u v b/\(EqAt A s u v b)
 :=by
  intro n
  induction n using Nat.strongRecOn with
  |ind n ih=>
  intro A x y u v dx dy b ru rv rx ry e hu;have items:∀{m:Nat}{vs ws:List V}{is js:List gk}{ds es:List D}{b':Bool},n=m+1->Vals vs is->Vals ws js->Reps K c H vs ds->Reps K c H ws es->Du (eqN m) ds es=some b'->
   ∀j (h1:j<is.toArray.size) (h2:j<js.toArray.size),EqAt A.in1 s is.toArray[j] js.toArray[j] (ej (eqN m) ds es j):=λ{m vs ws is js ds es b'} hm r1 r2 q1 q2 e' j h1 h2=>by
   clear 5(K8 r1 h1)v1 a1 a2;clear 5(K8 r2 h2)v2 b1 b2;clear 5(ua9.mp a1)l1 g1;clear 5(ua9.mp b1)l2 g2;have k1:ds[j]?=some (ds[j]'(by rw[<-q1.length];exact l1)):=ub3 _;have k2:es[j]?=some (es[j]'(by rw[<-q2.length];exact l2)):=ub3 _;clear 5((Dz e').2 j _ _ k1 k2)kk ek;have:ej (eqN m) ds es j=kk:=by unfold ej;rw[k1,k2];simp[ek]
   rw[this];have hu':A.in1.units+m<cLine:=by
    have:A.in1.units=A.units+1:=by first|rfl|exact Around.units_in1 _|simp[Around.in1,Around.units]
    lia
   exact(ih m (by lia) a2 b2 (q1.get a1 k1) (q2.get b1 k2) ek hu').2
  have hu0:A.units<cLine:=by lia
  have conc:∀{p q:gm}{k:Bool},p≠q->RcAt A s (.ref p) (.ref q) k->RcAt A s (.ref p) (.ref q) k/\EqAt A s (.ref p) (.ref q) k:=λhn h=>⟨h,EqAt.of_refs hn h⟩;rcases Ik e with e0|⟨m,ds,es,hm,rfl,rfl,e0⟩|⟨m,ds,es,b',hm,rfl,rfl,e1,e2⟩
  .rcases Ij e0 with⟨i,j,rfl,rfl,rfl⟩|⟨i,j,rfl,rfl,rfl⟩|⟨i,j,rfl,rfl,rfl⟩|⟨rfl,rfl,rfl⟩|⟨i,j,rfl,rfl,rfl⟩|⟨i,j,rfl,rfl,rfl⟩
   .cases rx;cases ry;clear 5 ru t' rfl;clear 5 rv t rfl;exact⟨RcAt.int_int _ _ _ _,EqAt.int_int _ _ _ _⟩
   .cases rx;cases ry;clear 5 ru t' rfl;clear 5 rv t rfl;exact⟨RcAt.str_str _ _ _ _,EqAt.str_str _ _ _ _⟩
   .cases rx;cases ry;cases ru;cases rv;exact⟨RcAt.bool_bool _ _,EqAt.bool_bool _ _⟩
   .cases rx;cases ry;cases ru;cases rv;exact⟨RcAt.none_none,EqAt.same _⟩
   .cases rx;cases ry;clear 5 ru t' rfl;clear 5 rv t rfl;exact⟨RcAt.int_str _ _ _ _,EqAt.int_str _ _ _ _⟩
   .cases rx;cases ry;clear 5 ru t' rfl;clear 5 rv t rfl;exact⟨RcAt.str_int _ _ _ _,EqAt.str_int _ _ _ _⟩
  .cases rx with
   |@lst p vs _ g1 g2 g3=>
   cases ry with
   |@lst q ws _ h1 h2 h3=>
     cases ru
     cases rv
     clear 5(Hy hok g1)is r1 l1;clear 5(Hy hok h1)js r2 l2;have hs1:is.toArray.size=ds.length:=by rw[<-g3.length,r1.length];simp
     have hs2:js.toArray.size=es.length:=by rw[<-h3.length,r2.length];simp
     by_cases hl:ds.length=es.length
     .rw[jY hl] at e0;have hsz:is.toArray.size=js.toArray.size:=by rw[hs1,hs2,hl]
      have rc:=RcAt.lists l1 l2 hsz hu0 (items hm r1 r2 g3 h3 e0);have eb:(List.range is.toArray.size).all (ej (eqN m) ds es)=b:=by rw[(Dz e0).1,hs1,<-hl,Nat.min_self]
      rw[eb] at rc
      by_cases hpq:p=q
      .refine⟨rc,?_⟩;subst hpq;rw[OQ n (Rep.lst g1 g2 g3) (Rep.lst h1 h2 h3) e];exact EqAt.same _
      .exact conc hpq rc
     .rw[jZ hl] at e0
      cases e0
      have hsz:(is.toArray.size != js.toArray.size)=true:=by rw[hs1,hs2];simpa using hl
      refine conc (λz=>hl ?_) (RcAt.lists_lengths l1 l2 hsz hu0);subst z;rw[g1] at h1;cases h1
      rw[<-g3.length,<-h3.length]
  .cases rx with
   |@tup p vs _ g1 g2 g3=>
   cases ry with
   |@tup q ws _ h1 h2 h3=>
     cases ru
     cases rv
     clear 5(I9 hok g1)is r1 l1;clear 5(I9 hok h1)js r2 l2;have hs1:is.toArray.size=ds.length:=by rw[<-g3.length,r1.length];simp
     have hs2:js.toArray.size=es.length:=by rw[<-h3.length,r2.length];simp
     have rc:=RcAt.tuples l1 l2 hu0 (items hm r1 r2 g3 h3 e1);have eb:((List.range (min is.toArray.size js.toArray.size)).all (ej (eqN m) ds es)&&is.toArray.size==js.toArray.size)=b:=by rw[hs1,hs2,<-(Dz e1).1];exact e2
     rw[eb] at rc
     by_cases hpq:p=q
     .refine⟨rc,?_⟩;subst hpq;rw[OQ n (Rep.tup g1 g2 g3) (Rep.tup h1 h2 h3) e];exact EqAt.same _
     .exact conc hpq rc
theorem WJ{s:gn}(hok:HOk P w H s.heap)(n:Nat){A:Around}{x y:V}{u v:gk}{dx dy:D}{b:Bool}(ru:RelV x u)(rv:RelV y v)(rx:Rep K c H x dx)(ry:Rep K c H y dy)(e:eqN n dx dy=some b)(hu:A.units+n<cLine) :
 RcNeAt A s u v (!b):=by
 have items:∀{m:Nat}{vs ws:List V}{is js:List gk}{ds es:List D}{b':Bool},n=m+1->Vals vs is->Vals ws js->Reps K c H vs ds->Reps K c H ws es->Du (eqN m) ds es=some b'->
  ∀j (h1:j<is.toArray.size) (h2:j<js.toArray.size),EqAt A.in1 s is.toArray[j] js.toArray[j] (ej (eqN m) ds es j):=λ{m vs ws is js ds es b'} hm r1 r2 q1 q2 e' j h1 h2=>by
  clear 5(K8 r1 h1)v1 a1 a2;clear 5(K8 r2 h2)v2 b1 b2;clear 5(ua9.mp a1)l1 g1;clear 5(ua9.mp b1)l2 g2;have k1:ds[j]?=some (ds[j]'(by rw[<-q1.length];exact l1)):=ub3 _;have k2:es[j]?=some (es[j]'(by rw[<-q2.length];exact l2)):=ub3 _;clear 5((Dz e').2 j _ _ k1 k2)kk ek;have:ej (eqN m) ds es j=kk:=by unfold ej;rw[k1,k2];simp[ek]
  rw[this];have hu':A.in1.units+m<cLine:=by
   have:A.in1.units=A.units+1:=rfl;lia
  exact(OP hok m a2 b2 (q1.get a1 k1) (q2.get b1 k2) ek hu').2
 have hu0:A.units<cLine:=by lia
 rcases Ik e with e0|⟨m,ds,es,hm,rfl,rfl,e0⟩|⟨m,ds,es,b',hm,rfl,rfl,e1,e2⟩
 .rcases Ij e0 with⟨i,j,rfl,rfl,rfl⟩|⟨i,j,rfl,rfl,rfl⟩|⟨i,j,rfl,rfl,rfl⟩|⟨rfl,rfl,rfl⟩|⟨i,j,rfl,rfl,rfl⟩|⟨i,j,rfl,rfl,rfl⟩
  .cases rx;cases ry;clear 5 ru t' rfl;clear 5 rv t rfl;exact RcNeAt.int_int _ _ _ _
  .cases rx;cases ry;clear 5 ru t' rfl;clear 5 rv t rfl;exact RcNeAt.str_str _ _ _ _
  .cases rx;cases ry;cases ru;cases rv;exact RcNeAt.bool_bool _ _
  .cases rx;cases ry;cases ru;cases rv;exact RcNeAt.none_none
  .cases rx;cases ry;clear 5 ru t' rfl;clear 5 rv t rfl;exact RcNeAt.int_str _ _ _ _
  .cases rx;cases ry;clear 5 ru t' rfl;clear 5 rv t rfl;exact RcNeAt.str_int _ _ _ _
 .cases rx with
  |@lst p vs _ g1 g2 g3=>
  cases ry with
  |@lst q ws _ h1 h2 h3=>
    cases ru
    cases rv
    clear 5(Hy hok g1)is r1 l1;clear 5(Hy hok h1)js r2 l2;have hs1:is.toArray.size=ds.length:=by rw[<-g3.length,r1.length];simp
    have hs2:js.toArray.size=es.length:=by rw[<-h3.length,r2.length];simp
    by_cases hl:ds.length=es.length
    .rw[jY hl] at e0;have hsz:is.toArray.size=js.toArray.size:=by rw[hs1,hs2,hl]
     have rc:=RcNeAt.lists l1 l2 hsz hu0 (items hm r1 r2 g3 h3 e0);rw[show(List.range is.toArray.size).all (ej (eqN m) ds es)=b by rw[(Dz e0).1,hs1,<-hl,Nat.min_self]] at rc;exact rc
    .rw[jZ hl] at e0
     cases e0
     exact RcNeAt.lists_lengths l1 l2 (by rw[hs1,hs2];simpa using hl) hu0
 .cases rx with
  |@tup p vs _ g1 g2 g3=>
  cases ry with
  |@tup q ws _ h1 h2 h3=>
    cases ru
    cases rv
    clear 5(I9 hok g1)is r1 l1;clear 5(I9 hok h1)js r2 l2;have hs1:is.toArray.size=ds.length:=by rw[<-g3.length,r1.length];simp
    have hs2:js.toArray.size=es.length:=by rw[<-h3.length,r2.length];simp
    have rc:=RcNeAt.tuples l1 l2 hu0 (items hm r1 r2 g3 h3 e1);have eb:((List.range (min is.toArray.size js.toArray.size)).all (ej (eqN m) ds es)&&is.toArray.size==js.toArray.size)=b:=by rw[hs1,hs2,<-(Dz e1).1];exact e2
    rw[eb] at rc;exact rc
def EQD:Nat:=40
def neD(x y:D):M D:=λt=>(eqN EQD x y).map λb=>(.bl (!b),t)
def Ql(K:gi)(g:Bool->Bool):R2:=λx y H Q=>∃c dx dy b,Rep K c H x dx/\Rep K c H y dy/\eqN EQD dx dy=some b/\Q (.bl (g b)) H
theorem R9{X:Cx}(hu:X.A.units+64<cLine):OpR X (compareOp .Eq) (Ql X.K id):=by
 intro gj s σ H x y v u Q I rx ry h;clear 5 h c dx dy b q1 q2 e q;have hu':X.A.units+EQD<cLine:=by unfold EQD;lia
 exact(OP I.hok EQD rx ry q1 q2 e hu').1 X.prog X.w _ _ ⟨.bl b,H,I,rfl,q⟩
theorem NX{X:Cx}(hu:X.A.units+64<cLine):OpR X (compareOp .NotEq) (Ql X.K (!·)):=by
 intro gj s σ H x y v u Q I rx ry h;clear 5 h c dx dy b q1 q2 e q;have hu':X.A.units+EQD<cLine:=by unfold EQD;lia
 exact WJ I.hok EQD rx ry q1 q2 e hu' X.prog X.w _ _ ⟨.bl (!b),H,I,rfl,q⟩
end
section
variable{g:Int->Int->D}{t:T}{z:D×T}{X:Cx}{c:Cf}{H:Hp}
section
variable{K:gi}
def i2(g:Int->Int->D):D->D->M D
 |.int i,.int j=>ret (g i j)
 |_,_=>fail
theorem Y6{x y:D}(h:i2 g x y t=some z):∃i j,x=.int i/\y=.int j/\z=(g i j,t):=by
 cases x with
 |int i=>cases y with
   |int j=>cases h;exact⟨i,j,rfl,rfl,rfl⟩
   |_=>cases h
 |_=>cases h
theorem ac{gV:Int->Int->V}(hr:∀i j c H,Rep K c H (gV i j) (g i j)):Bb K (rI0 gV) (i2 g):=λ{Oo c t σ H x y dx dy r t' Q} f rx ry eq k=>by
 clear 5(Y6 eq)i j rfl rfl z
 cases z
 cases rx
 cases ry
 exact⟨i,j,rfl,rfl,k _ H c f .refl (hr i j c H)⟩
def i2C(C:Int->Int->Bool)(g:Int->Int->D):D->D->M D
 |.int i,.int j=>λt=>if C i j=true then some (g i j,t) else none
 |_,_=>fail
theorem Wt{C:Int->Int->Bool}{x y:D}(h:i2C C g x y t=some z):∃i j,x=.int i/\y=.int j/\C i j=true/\z=(g i j,t):=by
 cases x with
 |int i=>cases y with
   |int j=>
     unfold i2C at h;dsimp only at h
     by_cases hc:C i j=true
     .rw[jY hc] at h;cases h;exact⟨i,j,rfl,rfl,hc,rfl⟩
     .rw[jZ hc] at h;cases h
   |_=>cases h
 |_=>cases h
theorem LQ{P:Int->Int->Prop}{C:Int->Int->Bool}{gV:Int->Int->V}(hP:∀i j,C i j=true->P i j)(hr:∀i j c H,Rep K c H (gV i j) (g i j)):Bb K (rI P gV) (i2C C g):=λ{Oo c t σ H x y dx dy r t' Q} f rx ry eq k=>by
 clear 5(Wt eq)i j rfl rfl hc z
 cases z
 cases rx
 cases ry
 exact⟨i,j,rfl,rfl,hP i j hc,k _ H c f .refl (hr i j c H)⟩
def Ca:=i2 λi j=>.int (i-j)
noncomputable def MF(_ j:Int):Bool:=decide (0<j)&&decide (j<1073741824)
def Ba:=i2C MF λi j=>.int (i/j)
def A3:=i2C (λ_ j=>decide (0<j)) λi j=>.int (i%j)
noncomputable def Vp(i j:Int):Bool:=decide (0<=j)&&decide (j<=1000000)&&decide (i.natAbs<2 ^ 64)
def dZ:=i2C Vp λi j=>.int (i ^ j.toNat)
noncomputable def FK(i j:Int):Bool:=(decide (-(2 ^ 64)<i)&&decide (i<2 ^ 64))||(decide (-(2 ^ 64)<j)&&decide (j<2 ^ 64))
def Od:=i2C (λ_ j=>decide (0<=j)) λi j=>.int (i/2 ^ j.toNat)
theorem XI:Bb K (rI0 λi j=>.int (i-j)) Ca:=ac λi j _ _=>.int _
theorem UN:Bb K (rI Yh λi j=>.int (i/j)) Ba:=LQ (λi j h=>by
 unfold MF at h;rw[uh1] at h;exact⟨ug5 h.1,ug5 h.2⟩) λi j _ _=>.int _
theorem XB:Bb K (rI (λ_ j=>0<j) λi j=>.int (i%j)) A3:=LQ (λi j h=>ug5 h) λi j _ _=>.int _
theorem XG:Bb K (rI (λ_ j=>0<=j) λi j=>.int (i/2 ^ j.toNat)) Od:=LQ (λi j h=>ug5 h) λi j _ _=>.int _
theorem RW{i j:Int}(h:FK i j=true):CMul i j:=by
 unfold FK at h;rw[uj4,uh1,uh1] at h;rcases h with h|h
 .exact .inl ⟨ug5 h.1,ug5 h.2⟩
 .exact .inr ⟨ug5 h.1,ug5 h.2⟩
def HD:D->M D
 |.int i=>ret (.int (-i))
 |_=>fail
theorem XD:Ym K (rU λi=>.int (-i)) HD:=λ{Oo c t σ H x dx r t' Q} f rx eq k=>by
 cases rx with
 |int i=>cases eq;exact⟨i,rfl,k _ H c f .refl (.int _)⟩
 |_=>cases eq
def Yp:D->D->M D
 |.int i,.int j=>ret (.int (i+j))
 |.str x,.str y=>lim (x.length+y.length) (.str (x++y))
 |.lst xs,.lst ys=>lim (xs.length+ys.length) (.lst (xs++ys))
 |_,_=>fail
def Xg:R2:=λx y H Q=>∃i j,x=.str i/\y=.str j/\i.length+j.length<=sizeLine/\Q (.str (i++j)) H
def Qk(K:gi):R2:=λx y H Q=>rI0 (λi j=>.int (i+j)) x y H Q\/(Xg x y H Q\/UI x y H Q)
theorem WS:OpR X (binaryOp .Add) (Qk X.K):=op_add.or (op_add_str.or R8)
theorem Xq:Bb K (Qk K) Yp:=λ{Oo c t σ H x y dx dy r t' Q} f rx ry eq k=>by
 cases rx with
 |int i=>
   cases ry with
   |int j=>cases eq;exact .inl ⟨i,j,rfl,rfl,k _ H c f .refl (.int _)⟩
   |_=>cases eq
 |str i=>
   cases ry with
   |str j=>
     clear 5(Eb eq)h z
     cases z
     exact .inr (.inl ⟨i,j,rfl,rfl,um4 h Dy,k _ H c f .refl (.str _)⟩)
   |_=>cases eq
 |@lst a vs ds h1 h2 h3=>
   cases ry with
   |@lst b ws es g1 g2 g3=>
     clear 5(Eb eq)h z
     cases z
     refine .inr (.inr ⟨a,b,vs,ws,rfl,rfl,h1,g1,?_,λp hp=>?_⟩)
     .rw[h3.length,g3.length];exact um4 h Dy
     .exact k _ _ c (f.laid hp) (f.stp_laid hp) (.lst AC (f.s.free hp) ((h3.append g3).mono (Ext.laid f.s hp)))
   |_=>cases eq
 |_=>cases eq
def Ig:D->D->M (List D)
 |.lst xs,.lst ys=>lim (xs.length+ys.length) (xs++ys)
 |_,_=>fail
theorem UM:Pt K UI Ig:=λ{Oo c t σ H x y dx dy r t' Q} f rx ry eq k=>by
 cases rx with
 |@lst a vs ds h1 h2 h3=>
   cases ry with
   |@lst b ws es g1 g2 g3=>
     clear 5(Eb eq)h z
     cases z
     refine⟨a,b,vs,ws,rfl,rfl,h1,g1,?_,λp hp=>k p _ H c f .refl (h3.append g3) hp⟩;rw[h3.length,g3.length];exact um4 h Dy
   |_=>cases eq
 |_=>cases eq
def isC:D->D->M D
 |x,.non=>λt=>some (.bl (match x with | .non=>true|_=>false),t)
 |x,.bl b=>λt=>some (.bl (match x with | .bl c=>c==b|_=>false),t)
 |_,_=>fail
def Rt(x y:D):M D:=bnd (isC x y) λd=>match d with | .bl b=>ret (.bl (!b))|_=>fail
def rIs(g:Bool->Bool):R2:=λx y H Q=>(y=.non\/∃b,y=.bl b)/\Q (.bl (g (decide (x=y)))) H
theorem VP{x y:V}{v u:gk}(rx:RelV x v)(ry:RelV y u)(hy:y=.non\/∃b,y=.bl b):plainIs v u=true/\(v==u)=decide (x=y):=by
 rcases hy with rfl|⟨b,rfl⟩
 .cases ry
  cases x with
  |non=>cases rx;exact⟨rfl,by simp⟩
  |bl _=>cases rx;exact⟨rfl,by simp⟩
  |int _=>clear 5 rx t rfl;exact⟨rfl,by simp⟩
  |str _=>clear 5 rx t rfl;exact⟨rfl,by simp⟩
  |byt _=>clear 5 rx t rfl;exact⟨rfl,by simp⟩
  |flt _=>clear 5 rx t rfl;exact⟨rfl,by simp⟩
  |ref _=>cases rx;exact⟨rfl,by simp⟩
  |ty _=>cases rx;exact⟨rfl,by simp⟩
 .cases ry
  cases x with
  |non=>cases rx;exact⟨rfl,by simp⟩
  |bl c=>cases rx;exact⟨rfl,by simp;cases c<;>cases b<;>rfl⟩
  |int _=>clear 5 rx t rfl;exact⟨rfl,by simp⟩
  |str _=>clear 5 rx t rfl;exact⟨rfl,by simp⟩
  |byt _=>clear 5 rx t rfl;exact⟨rfl,by simp⟩
  |flt _=>clear 5 rx t rfl;exact⟨rfl,by simp⟩
  |ref _=>cases rx;exact⟨rfl,by simp⟩
  |ty _=>cases rx;exact⟨rfl,by simp⟩
theorem Sb:OpR X (compareOp .Is) (rIs id):=by
 intro gj s σ H x y v u Q I rx ry h;clear 5 h hy q;clear 5(VP rx ry hy)h1 h2;exact wpAny_is_plain h1 ⟨.bl _,H,I,by rw[h2];rfl,q⟩
theorem Wv{x y:V}{dx dy:D}(rx:Rep K c H x dx)(ry:Rep K c H y dy)(eq:isC dx dy t=some z):(y=.non\/∃b,y=.bl b)/\z=(.bl (decide (x=y)),t):=by
 cases ry with
 |non=>
   refine⟨.inl rfl,?_⟩
   cases rx<;>(cases eq;first|rfl|simp)
 |bl b=>
   refine⟨.inr ⟨b,rfl⟩,?_⟩
   cases rx<;>(cases eq;first|rfl|simp)
   next a=>cases a<;>cases b<;>rfl
 |_=>cases eq
theorem Sz:Bb K (rIs id) isC:=λ{Oo c t σ H x y dx dy r t' Q} f rx ry eq k=>by
 clear 5(Wv rx ry eq)h z
 cases z
 exact⟨h,k _ H c f .refl (.bl _)⟩
def ixD:D->D->M D
 |.lst ds,.int i=>λt=>(atI ds i).map λd=>(d,t)
 |.tup ds,.int i=>λt=>(atI ds i).map λd=>(d,t)
 |.scr ns,.int i=>λt=>(atI ns i).map λn=>(.int n,t)
 |.str x,.int i=>λt=>if x.length<=LIM then(atI x.cps.toList i).map λn=>(.str ⟨#[n]⟩,t) else none
 |.obj k,.int i=>λt=>match t.S[k]? with
   |some (.lst ds)=>(atI ds i).map λd=>(d,t)
   |_=>none
 |_,_=>fail
theorem Hl{vs:List V}{ds:List D}{i:Int}{d:D}(r:Reps K c H vs ds)(h:atI ds i=some d):∃v,atI vs i=some v/\Rep K c H v d:=by
 unfold atI at h⊢;clear 5(Option.bind_eq_some_iff.mp h)j h1 h2;clear 5(r.at h2)v h3 h4;exact⟨v,by rw[r.length,h1];exact h3,h4⟩
theorem VO{α β:Type}(g:α->β)(xs:List α)(i:Int):atI (xs.map g) i=(atI xs i).map g:=by
 unfold atI;rw[ui4]
 cases ixN xs.length i with
 |none=>rfl
 |some j=>simp
theorem Y9{dx dy r:D}{t':T}(eq:ixD dx dy t=some (r,t')):∃i,dy=.int i/\((∃ds,dx=.lst ds)\/(∃ds,dx=.tup ds)\/(∃ns,dx=.scr ns)\/(∃z,dx=.str z)\/∃k,dx=.obj k):=by
 unfold ixD at eq
 split at eq
 .exact⟨_,rfl,.inl ⟨_,rfl⟩⟩
 .exact⟨_,rfl,.inr (.inl ⟨_,rfl⟩)⟩
 .exact⟨_,rfl,.inr (.inr (.inl ⟨_,rfl⟩))⟩
 .exact⟨_,rfl,.inr (.inr (.inr (.inl ⟨_,rfl⟩)))⟩
 .exact⟨_,rfl,.inr (.inr (.inr (.inr ⟨_,rfl⟩)))⟩
 .cases eq
theorem SA:Bb K (rIx K) ixD:=λ{Oo c t σ H x y dx dy r t' Q} f rx ry eq k=>by
 clear 5(Y9 eq)i rfl hd
 cases ry
 rcases hd with⟨ds,rfl⟩|⟨ds,rfl⟩|⟨ns,rfl⟩|⟨z,rfl⟩|⟨kk,rfl⟩
 .cases rx with
  |@lst a vs _ h1 h2 h3=>
    clear 5(uc0.mp eq)d e1 e2
    cases e2
    clear 5(Hl h3 e1)v e3 e4;exact .inl ⟨a,vs,i,v,rfl,rfl,SqL.of h1,e3,k _ H c f .refl e4⟩
 .cases rx with
  |@tup a vs _ h1 h2 h3=>
    clear 5(uc0.mp eq)d e1 e2
    cases e2
    clear 5(Hl h3 e1)v e3 e4;exact .inr (.inl ⟨a,vs,i,v,rfl,rfl,SqT.of h1,e3,k _ H c f .refl e4⟩)
 .cases rx with
  |@scr a _ h1=>
    clear 5(uc0.mp eq)n e1 e2
    cases e2
    exact .inl ⟨a,_,i,.int n,rfl,rfl,h1.sq,by rw[VO,e1];rfl,k _ H c f .refl (.int n)⟩
 .cases rx
  unfold ixD at eq;dsimp only at eq
  split at eq
  .next hl=>
   clear 5(uc0.mp eq)n e1 e2
   cases e2
   exact .inr (.inr ⟨z,i,n,rfl,rfl,um4 hl Dy,e1,k _ H c f .refl (.str _)⟩)
  .cases eq
 .cases rx with
  |@obj a _ h1=>
    unfold ixD at eq;dsimp only at eq
    cases es:t.S[kk]? with
    |none=>rw[es] at eq;cases eq
    |some o=>
      rw[es] at eq
      cases o with
      |dct _|ins _ _=>cases eq
      |lst ds=>
        clear 5(uc0.mp eq)d e1 e2
        cases e2
        clear 5(f.s.obs kk a _ h1 es)vs g1 g2;clear 5(Hl g2 e1)v e3 e4;exact .inl ⟨a,vs,i,v,rfl,rfl,SqL.of g1,e3,k _ H c f .refl e4⟩
end
variable{f:M D}{id:String}{R:List V->Hp->VK->Prop}{x:Str}{p:Pos}
section
variable{X:Cx}{e a b:Expr}{es:List Expr}{pos:Pos}
inductive RO(K:gi)(f:M (Option Int))(σ:L2.St)(H:Hp)(Q:Option Int->Hp->Prop):Prop where
 |mk (Oo:gm->Prop) (c:Cf) (t:T) (fi:FInv K Oo c t σ H) (r:Option Int) (t':T) (e:f t=some (r,t')) (k:∀H' c',FInv K Oo c' t' σ H'->Stp Oo c H c' H'->Q r H'):RO K f σ H Q
theorem QK{oe:Option Expr}{t t':TO}(h:PO X oe t)(i:∀σ H Q,t' σ H Q->t σ H Q):PO X oe t':=λgj s σ H Q I q=>h gj s σ H Q I (i σ H Q q)
def fNo:M (Option Int):=ret none
def asI:D->M (Option Int)
 |.int i=>ret (some i)
 |_=>fail
def Ct(f:M D):M (Option Int):=bnd f asI
theorem Wj:PO X none (RO X.K fNo):=QK W8 λσ H Q z9=>by
 clear 5 z9 Oo c t fi r t' eq k
 cases eq
 exact k H c fi .refl
theorem Wl(h:PE X e (RE X.K f)):PO X (some e) (RO X.K (Ct f)):=QK (W9 h) λσ H Q z9=>by
 clear 5 z9 Oo c t fi r t' eq k;clear 5(Af eq)d t1 e1 eq;refine⟨Oo,c,t,fi,d,t1,e1,λv H1 c1 f1 s1 rv=>?_⟩
 cases rv with
 |int i=>cases eq;exact⟨i,rfl,k H1 c1 f1 s1⟩
 |_=>cases eq
def Tb(K:gi)(R:V->Option Int->Option Int->Hp->VK->Prop)(h:D->Option Int->Option Int->M D):Prop:=∀{Oo:gm->Prop}{c:Cf}{t:T}{σ:L2.St}{H:Hp}{x:V}{dx r:D}{lo hi:Option Int}{t':T}{Q:VK},FInv K Oo c t σ H->Rep K c H x dx->h dx lo hi t=some (r,t')->
 (∀v H' c',FInv K Oo c' t' σ H'->Stp Oo c H c' H'->Rep K c' H' v r->Q v H')->R x lo hi H Q
def fSl(f:M D)(l u:M (Option Int))(h:D->Option Int->Option Int->M D):M D:=bnd f λx=>bnd l λlo=>bnd u λhi=>h x lo hi
theorem TF{R:V->Option Int->Option Int->Hp->VK->Prop}{h:D->Option Int->Option Int->M D}{l u:M (Option Int)}{lo hi:Option Expr}{p2:Pos}(hr:SlR X R)(s:Tb X.K R h)(he:PE X e (RE X.K f))(hl:PO X lo (RO X.K l))(hu:PO X hi (RO X.K u)):PE X (.Subscript e (.Slice lo hi none p2) pos) (RE X.K (fSl f l u h)):=
 AE (Uz hr he hl hu) λσ H Q z9=>by
  clear 5 z9 Oo c t fi r t' eq k;clear 5(Af eq)d t1 e1 eq;clear 5(Af eq)ol t2 e2 eq;clear 5(Af eq)oh t3 e3 eq;exact⟨Oo,c,t,fi,d,t1,e1,λv H1 c1 f1 s1 rv=>⟨Oo,c1,t1,f1,ol,t2,e2,λH2 c2 f2 s2=>⟨Oo,c2,t2,f2,oh,t3,e3,λH3 c3 f3 s3=>
   s f3 (rv.mono (s2.trans s3).ext) eq λv H' c' f' s' rv'=>k v H' c' f' (((s1.trans s2).trans s3).trans s') rv'⟩⟩⟩
def Bu{α:Type}(xs:List α)(lo hi:Option Int):List α:=(xs.drop (HT.sIx xs.length 0 lo)).take (HT.sIx xs.length xs.length hi-HT.sIx xs.length 0 lo)
def slD:D->Option Int->Option Int->M D
 |.lst ds,lo,hi=>ret (.lst (Bu ds lo hi))
 |.scr ns,lo,hi=>ret (.lst ((Bu ns lo hi).map .int))
 |.tup ds,lo,hi=>λt=>if HT.sIx ds.length 0 lo=0/\HT.sIx ds.length ds.length hi=ds.length then none else some (.tup (Bu ds lo hi),t)
 |_,_,_=>fail
theorem JQ{K:gi}{vs:List V}{ds:List D}(r:Reps K c H vs ds)(lo hi:Option Int):Reps K c H (Hs vs lo hi) (Bu ds lo hi):=by
 unfold Hs Bu;rw[r.length];exact(r.drop _).take _
theorem Tn{α β:Type}(g:α->β)(xs:List α)(lo hi:Option Int):Bu (xs.map g) lo hi=(Bu xs lo hi).map g:=by
 unfold Bu;rw[ui4,ul4,jC]
theorem QY(ns:List Int)(lo hi:Option Int):Hs (ns.map V.int) lo hi=(Bu ns lo hi).map V.int:=Tn V.int ns lo hi
def UJ(K:gi):V->Option Int->Option Int->Hp->VK->Prop:=λx lo hi H Q=>Z4 K x lo hi H Q\/Z6 K x lo hi H Q
theorem sl2:SlR X (UJ X.K):=sl_list.or ag
theorem ad{K:gi}:Tb K (UJ K) slD:=λ{Oo c t σ H x dx r lo hi t' Q} f rx eq k=>by
 cases rx with
 |@lst p vs ds h1 h2 h3=>
   cases eq
   exact .inl ⟨p,vs,rfl,SqL.of h1,λq hq=>k _ _ c (f.laid hq) (f.stp_laid hq) (.lst AC (f.s.free hq) ((JQ h3 lo hi).mono (Ext.laid f.s hq)))⟩
 |@scr p ns h1=>
   cases eq
   refine .inl ⟨p,_,rfl,h1.sq,λq hq=>k _ _ c (f.laid hq) (f.stp_laid hq) (.lst AC (f.s.free hq) ?_)⟩;rw[QY];exact Reps.ints _
 |@tup p vs ds h1 h2 h3=>
   unfold slD at eq;dsimp only at eq
   split at eq
   .cases eq
   .next hn=>
    cases eq
    exact .inr ⟨p,vs,rfl,SqT.of h1,by rw[h3.length];exact hn,λq hq=>k _ _ c (f.laid hq) (f.stp_laid hq) (.tup AC (f.s.free hq) ((JQ h3 lo hi).mono (Ext.laid f.s hq)))⟩
 |_=>cases eq
theorem dH{h:List D->M D}{f:M (List D)}(hc:CA X (.builtin id) R)(s:Fv X.K R h)(hg:Gl X x)(hm:X.mg x=none)(hv:bootBuiltins x=some (.builtin id))(ha:PA X (e::es) (RA X.K f))(hn:x≠"__name__":=by decide)(hdb:(x==("__debug__":Str))=false:=by decide)
 (he:starEach (e::es) X.env=(false,eval e X.env)::starEach es X.env:=by rfl) (hpl:(backTo pos (starEach es X.env)).any (·.1)=false:=by rfl):PE X (.Call (.Name x p) (e::es) [] pos) (RE X.K (fB f h)):=
 AE (Uu hc hg hm hv ha hn hdb he hpl) λ_ _ _ q=>RE.callB s q
theorem dI{h:List D->M D}{f:M (List D)}(hc:CA X (.type id) R)(s:Fv X.K R h)(hg:Gl X x)(hm:X.mg x=none)(hv:bootBuiltins x=some (.type id))(ha:PA X (e::es) (RA X.K f))(hn:x≠"__name__":=by decide)(hdb:(x==("__debug__":Str))=false:=by decide)
 (he:starEach (e::es) X.env=(false,eval e X.env)::starEach es X.env:=by rfl) (hpl:(backTo pos (starEach es X.env)).any (·.1)=false:=by rfl):PE X (.Call (.Name x p) (e::es) [] pos) (RE X.K (fB f h)):=
 AE (IC hc hg hm hv ha hn hdb he hpl) λ_ _ _ q=>RE.callB s q
theorem dJ{h:List D->M (List D)}{f:M (List D)}(hc:CA X (.type id) R)(s:Ke X.K R h)(hg:Gl X x)(hm:X.mg x=none)(hv:bootBuiltins x=some (.type id))(ha:PA X (e::es) (RA X.K f))(hn:x≠"__name__":=by decide)(hdb:(x==("__debug__":Str))=false:=by decide)
 (he:starEach (e::es) X.env=(false,eval e X.env)::starEach es X.env:=by rfl) (hpl:(backTo pos (starEach es X.env)).any (·.1)=false:=by rfl):PE X (.Call (.Name x p) (e::es) [] pos) (RF X.K (fBF f h)):=
 AE (IC hc hg hm hv ha hn hdb he hpl) λ_ _ _ q=>RF.callB s q
theorem bh{op:Operator}{R:R2}{g:M D}{h:D->D->M (List D)}(ho:OpR X (binaryOp op) R)(s:Pt X.K R h)(ha:PE X a (RE X.K f))(hb:PE X b (RE X.K g)):PE X (.BinOp a op b pos) (RF X.K (bnd f λx=>bnd g λy=>h x y)):=
 AE (Qg ho ha hb) λ_ _ _ q=>RF.two s q
end
section
variable{K:gi}
theorem EL{xs:List V}{d:D}(r:Reps K c H xs [d]):∃v,xs=[v]/\Rep K c H v d:=by
 cases r with
 |cons r rs=>cases rs;exact⟨_,rfl,r⟩
theorem Qp{xs:List V}{d e:D}(r:Reps K c H xs [d,e]):∃v u,xs=[v,u]/\Rep K c H v d/\Rep K c H u e:=by
 cases r with
 |cons r rs=>
   clear 5(EL rs)u rfl q;exact⟨_,u,rfl,r,q⟩
def AO:List D->M D
 |[.lst ds]=>ret (.int ds.length)
 |[.tup ds]=>ret (.int ds.length)
 |[.scr ns]=>ret (.int ns.length)
 |[.str x]=>lim x.length (.int x.length)
 |[.obj k]=>λt=>match t.S[k]? with
   |some (.lst ds)=>some (.int ds.length,t)
   |_=>none
 |_=>fail
theorem Xx:Fv K (λxs H Q=>∃x n,xs=[x]/\Yj K x H n/\Q (.int n) H) AO:=λ{Oo c t σ H xs ds r t' Q} f rx eq k=>by
 match ds,rx,eq with
 |[],_,eq=>cases eq
 |d0::_::_,_,eq=>cases d0<;>cases eq
 |[d],rx,eq=>
   clear 5(EL rx)v rfl rv
   cases rv with
   |@lst a vs ds h1 h2 h3=>cases eq;exact⟨_,ds.length,rfl,.inl ⟨vs,SqL.of h1,h3.length.symm⟩,k _ H c f .refl (.int _)⟩
   |@tup a vs ds h1 h2 h3=>cases eq;exact⟨_,ds.length,rfl,.inr ⟨vs,SqT.of h1,h3.length.symm⟩,k _ H c f .refl (.int _)⟩
   |@scr a ns h1=>cases eq;exact⟨_,ns.length,rfl,.inl ⟨_,h1.sq,by simp⟩,k _ H c f .refl (.int _)⟩
   |str x=>
     clear 5(Eb eq)hl z
     cases z
     exact⟨_,x.length,rfl,⟨um4 hl Dy,rfl⟩,k _ H c f .refl (.int _)⟩
   |@obj a kk h1=>
     unfold AO at eq;dsimp only at eq
     cases es:t.S[kk]? with
     |none=>rw[es] at eq;cases eq
     |some o=>
       rw[es] at eq
       cases o with
       |dct _|ins _ _=>cases eq
       |lst ds=>
         cases eq
         clear 5(f.s.obs kk a _ h1 es)vs g1 g2;exact⟨_,ds.length,rfl,.inl ⟨vs,SqL.of g1,g2.length.symm⟩,k _ H c f .refl (.int _)⟩
   |_=>cases eq
noncomputable def tyD:D->Option String
 |.non=>some "NoneType"
 |.bl _=>some "bool"
 |.int _=>some "int"
 |.str _=>some "str"
 |.lst _=>some "list"
 |.tup _=>some "tuple"
 |.dic=>some "dict"
 |_=>none
noncomputable def F3(n m:String):Option Bool:=match m with
 | "int"=>some (n == "int" || n == "bool")
 | "bool"=>some (n == "bool")
 | "str"=>some (n == "str")
 | "list"=>some (n == "list")
 | "tuple"=>some (n == "tuple")
 | "dict"=>some (n == "dict")
 |_=>none
def C7:List D->M D
 |[d,.ty m]=>λt=>match tyD d with
   |some n=>(F3 n m).map λb=>(.bl b,t)
   |none=>none
 |_=>fail
theorem Wy{d:D}{n m:String}{b:Bool}(h1:tyD d=some n)(h2:F3 n m=some b):PySem.W.kitOne K (.type n) (.type m)=some b:=by
 have hm:m = "int"\/m = "bool"\/m = "str"\/m = "list"\/m = "tuple"\/m = "dict":=by
  unfold F3 at h2
  split at h2<;>simp_all
 have hn:n = "NoneType"\/n = "bool"\/n = "int"\/n = "str"\/n = "list"\/n = "tuple"\/n = "dict":=by
  cases d<;>simp[tyD] at h1<;>simp[<-h1]
 rcases hm with rfl|rfl|rfl|rfl|rfl|rfl<;>rcases hn with rfl|rfl|rfl|rfl|rfl|rfl|rfl<;>(cases h2;rfl)
def ZZ(K:gi):List V->Hp->VK->Prop:=λxs H Q=>∃x n t b,xs=[x,.ty n]/\TyOf K H x t/\PySem.W.kitOne K t (.type n)=some b/\Q (.bl b) H
theorem Tk:CA X (.builtin "isinstance") (ZZ X.K):=by
 intro gj s σ H xs us Q I r h;clear 5 h x n t b rfl ty e q;clear 5(Qx r)u w' rfl rx rt
 cases rt
 exact Rv I rx ty e λtk=>⟨.bl b,H,I.tok tk,rfl,q⟩
theorem Xw:Fv K (ZZ K) C7:=λ{Oo c t σ H xs ds r t' Q} f rx eq k=>by
 unfold C7 at eq
 split at eq
 .next d m=>
  clear 5(Qp rx)v u rfl rv ru
  cases ru
  cases et:tyD d with
  |none=>rw[et] at eq;cases eq
  |some n=>
    rw[et] at eq;clear 5(uc0.mp eq)b e1 e2
    cases e2
    refine⟨v,m,.type n,b,rfl,?_,Wy et e1,k _ H c f .refl (.bl b)⟩
    cases rv<;>first|(cases et;first|exact .non|exact .bl _|exact .int _|exact .str _|exact .lst ‹_› | exact .tup ‹_› | exact .dK ‹_›)|cases et
 .cases eq
def eJ:List D->M D
 |[.lst ds]=>ret (.tup ds)
 |[.tup ds]=>ret (.tup ds)
 |[.obj k]=>λt=>match t.S[k]? with
   |some (.lst ds)=>some (.tup ds,t)
   |_=>none
 |_=>fail
def Bo:List D->M (List D)
 |[.lst ds]=>ret ds
 |[.tup ds]=>ret ds
 |[.scr ns]=>ret (ns.map .int)
 |[.obj k]=>λt=>match t.S[k]? with
   |some (.lst ds)=>some (ds,t)
   |_=>none
 |_=>fail
theorem Xy:Ke K (λxs H Q=>∃p ys,xs=[.ref p]/\(SqL K H p ys\/SqT K H p ys)/\∀l,H l=none->Q (.ref l) (upd H l (.lst ys))) Bo:=λ{Oo c t σ H xs ds r t' Q} f rx eq k=>by
 match ds,rx,eq with
 |[],_,eq=>cases eq
 |d0::_::_,_,eq=>cases d0<;>cases eq
 |[d],rx,eq=>
   clear 5(EL rx)v rfl rv
   cases rv with
   |@lst a vs ds h1 h2 h3=>cases eq;exact⟨a,vs,rfl,.inl (SqL.of h1),λq hq=>k q vs H c f .refl h3 hq⟩
   |@tup a vs ds h1 h2 h3=>cases eq;exact⟨a,vs,rfl,.inr (SqT.of h1),λq hq=>k q vs H c f .refl h3 hq⟩
   |@scr a ns h1=>cases eq;exact⟨a,_,rfl,.inl h1.sq,λq hq=>k q _ H c f .refl (Reps.ints ns) hq⟩
   |@obj a kk h1=>
     unfold Bo at eq;dsimp only at eq
     cases es:t.S[kk]? with
     |none=>rw[es] at eq;cases eq
     |some o=>
       rw[es] at eq
       cases o with
       |dct _|ins _ _=>cases eq
       |lst ds=>
         cases eq
         clear 5(f.s.obs kk a _ h1 es)vs g1 g2;exact⟨a,vs,rfl,.inl (SqL.of g1),λq hq=>k q vs H c f .refl g2 hq⟩
   |_=>cases eq
def JK:List D->M D
 |[.int i]=>ret (.int i)
 |[.bl b]=>ret (.int (if b then 1 else 0))
 |_=>fail
theorem Xv:Fv K (λxs H Q=>(∃i,xs=[.int i]/\Q (.int i) H)\/∃k,xs=[.bl k]/\Q (.int (if k then 1 else 0)) H) JK:=λ{Oo c t σ H xs ds r t' Q} f rx eq k=>by
 match ds,rx,eq with
 |[],_,eq=>cases eq
 |d0::_::_,_,eq=>cases d0<;>cases eq
 |[d],rx,eq=>
   clear 5(EL rx)v rfl rv
   cases rv with
   |int i=>cases eq;exact .inl ⟨i,rfl,k _ H c f .refl (.int _)⟩
   |bl b=>cases eq;exact .inr ⟨b,rfl,k _ H c f .refl (.int _)⟩
   |_=>cases eq
def dq:List D->M D
 |[.int i]=>ret (.int (if i<0 then -i else i))
 |_=>fail
def LF:List D->M D
 |[.int i,.int j]=>ret (.int (if j<i then j else i))
 |_=>fail
def LD:List D->M D
 |[.int i,.int j]=>ret (.int (if j > i then j else i))
 |_=>fail
theorem XA:Fv K (λxs H Q=>∃i j,xs=[.int i,.int j]/\Q (.int (if j<i then j else i)) H) LF:=λ{Oo c t σ H xs ds r t' Q} f rx eq k=>by
 unfold LF at eq
 split at eq
 .next i j=>
  clear 5(Qp rx)v u rfl rv ru
  cases rv;cases ru;cases eq
  exact⟨i,j,rfl,k _ H c f .refl (.int _)⟩
 .cases eq
theorem Xz:Fv K (λxs H Q=>∃i j,xs=[.int i,.int j]/\Q (.int (if j > i then j else i)) H) LD:=λ{Oo c t σ H xs ds r t' Q} f rx eq k=>by
 unfold LD at eq
 split at eq
 .next i j=>
  clear 5(Qp rx)v u rfl rv ru
  cases rv;cases ru;cases eq
  exact⟨i,j,rfl,k _ H c f .refl (.int _)⟩
 .cases eq
def JP:List D->M D
 |[.str x]=>λt=>if x.length=1 then some (.int (x.cps.getD 0 0:Nat),t) else none
 |_=>fail
theorem XF:Fv K (λxs H Q=>∃x,xs=[.str x]/\x.length=1/\Q (.int (x.cps.getD 0 0:Nat)) H) JP:=λ{Oo c t σ H xs ds r t' Q} f rx eq k=>by
 match ds,rx,eq with
 |[],_,eq=>cases eq
 |d0::_::_,_,eq=>cases d0<;>cases eq
 |[d],rx,eq=>
   clear 5(EL rx)v rfl rv
   cases rv with
   |str x=>
     unfold JP at eq;dsimp only at eq
     split at eq
     .next h=>cases eq;exact⟨x,rfl,h,k _ H c f .refl (.int _)⟩
     .cases eq
   |_=>cases eq
end
end
open AutoSeq1 (wpAny_loadPart')
open AutoSeq1 (wpAny_loadPart')
theorem MtM.or{X:Cx}{id:String}{r r':V->List V->Hp->VK->Prop}(h:MtM X id r)(h':MtM X id r'):MtM X id (λx xs H Q=>r x xs H Q\/r' x xs H Q):=by
 intro gj s σ H x xs v us Q I rx rv q;rcases q with q|q
 .exact h gj s σ H x xs v us Q I rx rv q
 .exact h' gj s σ H x xs v us Q I rx rv q
section
variable{X:Cx}{a b c d:Expr}{ta tb tc td:TE}{pos:Pos}
end
section
variable{K:gi}
def Ay(x y:D):M D:=Yp x y
def Vq(K:gi):R2:=Qk K
theorem O4{X:Cx}:OpR X (binaryOp .Add) (Vq X.K):=WS
theorem Oc:Bb K (Vq K) Ay:=Xq
def Uo:D->D->M D
 |.int i,.int j=>λt=>if FK i j=true then some (.int (i*j),t) else none
 |_,_=>fail
def Qm(K:gi):R2:=rI CMul (λi j=>.int (i*j))
theorem op_mul3{X:Cx}:OpR X (binaryOp .Mult) (Qm X.K):=Zx
theorem XC:Bb K (Qm K) Uo:=λ{Oo c t σ H x y dx dy r t' Q} f rx ry eq k=>by
 cases rx with
 |int i=>
   cases ry with
   |int j=>
     unfold Uo at eq;dsimp only at eq
     split at eq
     .next h=>cases eq;exact⟨i,j,rfl,rfl,RW h,k _ H c f .refl (.int _)⟩
     .cases eq
   |_=>cases eq
 |_=>cases eq
end
section
variable{K:gi}{μ:Cf->Hp->D->(V->Hp->Prop)->Prop}
section
variable{X:Cx}{e a b:Expr}{pos:Pos}
def CI(xs:List D):List D->Option (List D)
 |[d]=>if xs.length<LIM then some (xs++[d]) else none
 |_=>none
def EW(xs:List D):List D->Option (List D)
 |[.lst ys]=>if xs.length+ys.length<=LIM then some (xs++ys) else none
 |_=>none
def ownM(i:Nat)(h:List D->List D->Option (List D))(g:M (List D)):M Out:=λt=>match t.env[i]? with
 | some (some (.own _))=>bnd g (λds t1=>match t1.env[i]? with
   |some (some (.own xs))=>(h xs ds).map λys=>(.next,{t1 with env:=t1.env.set i (some (.own ys))})
   |_=>none) t
 |_=>none
def Pu(K:gi)(R:V->List V->Hp->VK->Prop)(h:List D->List D->Option (List D)):Prop:=∀{c:Cf}{S:List Ob}{H:Hp}{a:gm}{vs us:List V}{xs ds ys:List D}{Q:VK},SInv K c S H->H a=some (.lst vs)->Reps K c H vs xs->Reps K c H us ds->h xs ds=some ys->
 (∀ws,Reps K c H ws ys->Q .non (upd H a (.lst ws)))->R (.ref a) us H Q
theorem Xr:Pu K O8 CI:=λ{c S H a vs us xs ds ys Q} s h r rs e k=>by
 unfold CI at e
 split at e
 .next d=>
  split at e
  .next hl=>
   cases e
   clear 5(EL rs)v rfl rv;exact⟨a,vs,v,rfl,rfl,h,by rw[r.length];exact ue3 hl Dy,k _ (r.append (.cons rv .nil))⟩
  .cases e
 .cases e
def Vr(K:gi):V->List V->Hp->VK->Prop:=O9
theorem O0{X:Cx}:MtM X "list.extend" (Vr X.K):=RV
theorem Pa:Pu K (Vr K) EW:=λ{c S H a vs us xs ds ys Q} s h r rs e k=>by
 unfold EW at e
 split at e
 .split at e
  .next hl=>
   cases e
   clear 5(EL rs)v rfl rv
   cases rv with
   |lst h1 h2 h3=>exact⟨a,_,vs,_,rfl,rfl,h,h1,by rw[r.length,h3.length];exact um4 hl Dy,k _ (r.append h3)⟩
  .cases e
 .cases e
theorem RS.ownM{μ:Cf->Hp->D->(V->Hp->Prop)->Prop}{K:gi}{i:Nat}{h:List D->List D->Option (List D)}{g:M (List D)}{R:V->List V->Hp->VK->Prop}(s:Pu K R h){E:Ends}{σ:L2.St}{H:Hp}(q:RSg K μ (L2.ownM i h g) E σ H):Vy (tBM K "list" R (ar i) (RA K g)) E σ H:=by
 clear 5 q Oo c t fi o t' eq k;unfold L2.ownM at eq
 split at eq
 .next xs0 e0=>
  clear 5(Af eq)ds t1 e1 eq;clear 5(fi.own i xs0 e0)a vs0 h1 h2 h3 h4 h5;refine⟨.ref a,h1,.inl ⟨rfl,vs0,SqL.of h4⟩,Oo,c,t,fi,ds,t1,e1,λus H1 c1 f1 s1 rus=>?_⟩
  split at eq
  .next xs ex=>
   clear 5(uc0.mp eq)ys ey ez
   cases ez
   clear 5(f1.own i xs ex)a' vs g1 g2 g3 g4 g5;rw[h1] at g1;injection g1 with g1;injection g1 with g1;injection g1 with g1;subst g1
   refine s f1.s g4 g5 rus ey λws rws=>?_;clear 5(f1.wrOwn ex h1 rws)f2 s2;exact k σ _ c1 f2 (s1.trans s2)
  .cases eq
 .cases eq
theorem Rb(i:Nat){x:Str}{es:List Expr}{g:M (List D)}{px apos cpos:Pos}(ha:PA X (e::es) (RA X.K g))(hN:X.N[i]?=some x:=by rfl)(hv:Vis X.env.scope x:=by walk_at"h")(hd:(x==("__debug__":Str))=false:=by decide)
 (hcd:(x==("__classdict__":Str))=false:=by decide)
 (hbase:attributeBase (.Name x px) "append" X.env (eval (.Name x px) X.env)=eval (.Name x px) X.env:=by rfl)
 (hfew:((backTo cpos (starEach (e::es) X.env)).all (λx=>!x.1)&&(backToKw cpos (keywordEach [] X.env)).all (λx=>x.1.isSome)&&decide ((e::es).length+([]:List Keyword).length+(if ([]:List Keyword).isEmpty then 0 else 1)<30))=true:=by rfl)
 (hline:(apos.endLine==cpos.line)=true:=by rfl) (hs:starEach (e::es) X.env=(false,eval e X.env)::starEach es X.env:=by rfl) (hplain:(backTo cpos (starEach es X.env)).any (·.1)=false:=by rfl) :
 PS X (.Expr (.Call (.Attribute (.Name x px) "append" apos) (e::es) [] cpos) pos) (RSg X.K μ (ownM i CI g)):=
 A7 (LJ (MI ub5 PySem.F.slot_list_append PySem.F.type_list_append RU (Ge hN hv hd hcd) ha hbase hfew hline hs hplain)) λ_ _ _ q=>RS.ownM Xr q
theorem Rc(i:Nat){x:Str}{es:List Expr}{g:M (List D)}{px apos cpos:Pos}(ha:PA X (e::es) (RA X.K g))(hN:X.N[i]?=some x:=by rfl)(hv:Vis X.env.scope x:=by walk_at"h")(hd:(x==("__debug__":Str))=false:=by decide)
 (hcd:(x==("__classdict__":Str))=false:=by decide)
 (hbase:attributeBase (.Name x px) "extend" X.env (eval (.Name x px) X.env)=eval (.Name x px) X.env:=by rfl)
 (hfew:((backTo cpos (starEach (e::es) X.env)).all (λx=>!x.1)&&(backToKw cpos (keywordEach [] X.env)).all (λx=>x.1.isSome)&&decide ((e::es).length+([]:List Keyword).length+(if ([]:List Keyword).isEmpty then 0 else 1)<30))=true:=by rfl)
 (hline:(apos.endLine==cpos.line)=true:=by rfl) (hs:starEach (e::es) X.env=(false,eval e X.env)::starEach es X.env:=by rfl) (hplain:(backTo cpos (starEach es X.env)).any (·.1)=false:=by rfl) :
 PS X (.Expr (.Call (.Attribute (.Name x px) "extend" apos) (e::es) [] cpos) pos) (RSg X.K μ (ownM i EW g)):=
 A7 (LJ (MI ub5 ir iu O0 (Ge hN hv hd hcd) ha hbase hfew hline hs hplain)) λ_ _ _ q=>RS.ownM Pa q
def objM(h:List D->List D->Option (List D))(f:M D)(g:M (List D)):M D:=bnd f λo=>match o with
 |.obj k=>λt=>match t.S[k]? with
   | some (.lst _)=>bnd g (λds t1=>match t1.S[k]? with
     |some (.lst xs)=>(h xs ds).map λys=>(.non,{t1 with S:=t1.S.set k (.lst ys)})
     |_=>none) t
   |_=>none
 |_=>fail
theorem RE.objM{K:gi}{h:List D->List D->Option (List D)}{f:M D}{g:M (List D)}{R:V->List V->Hp->VK->Prop}(s:Pu K R h){σ:L2.St}{H:Hp}{Q:VK}(q:RE K (L2.objM h f g) σ H Q):tBM K "list" R (RE K f) (RA K g) σ H Q:=by
 clear 5 q Oo c t fi r t' eq k;clear 5(Af eq)o t0 e0 eq;refine⟨Oo,c,t,fi,o,t0,e0,λx H0 c0 f0 s0 rx=>?_⟩
 cases rx with
 |@obj a kk hk=>
   dsimp only at eq
   split at eq
   .next xs0 ex0=>
    clear 5(Af eq)ds t1 e1 eq;clear 5(f0.s.obs kk a _ hk ex0)vs0 g0 g0';refine⟨.inl ⟨rfl,vs0,SqL.of g0⟩,Oo,c0,t0,f0,ds,t1,e1,λus H1 c1 f1 s1 rus=>?_⟩
    split at eq
    .next xs ex=>
     clear 5(uc0.mp eq)ys ey ez
     cases ez
     have hk1:=s1.ext.io _ _ hk;clear 5(f1.s.obs kk a _ hk1 ex)vs g1 g2;refine s f1.s g1 g2 rus ey λws rws=>?_;obtain⟨f2,s2⟩:=f1.wrObj (o:=.lst ys) (u:=.lst ws) hk1 λc' H' ext hu=>⟨ws,hu,rws.mono ext⟩;exact k _ _ c1 f2 ((s0.trans s1).trans s2) .non
    .cases eq
   .cases eq
 |_=>cases eq
def ai(o i d:D):M Unit:=match o,i with
 |.obj k,.int j=>λt=>match t.S[k]? with
   |some (.lst xs)=>(ixN xs.length j).map λn=>((),{t with S:=t.S.set k (.lst (xs.set n d))})
   |_=>none
 |_,_=>fail
def stD(f g:M D)(d:D):M Unit:=bnd f λo=>bnd g λi=>ai o i d
end
variable{H:Hp}
section
variable{X:Cx}{e a b tg iter elt:Expr}{ifs:List Expr}{pos:Pos}{scope:Scope}{N':List Str}{n:Nat}{fr:List Nat}{f:M (List D)}{st:D->M Unit}{tst:M Bool}{el:M D}
def Eh:M Bool:=ret true
theorem Wc:PIf X [] (RT X.K Eh):=λgj s σ H Q I z9=>by
 clear 5 z9 Oo c t fi r t' eq k;exact W6 gj s σ H Q I (by cases eq;exact k H c fi .refl)
theorem EY(O:CmpOk X scope N' (GA n fr))(hc:X.calm=true)(hi:PI X tg iter (RI X.K f))
 (hg:∀cl C s2 H2 fp,PG (Ci X N' scope cl C s2 H2 fp) tg (RG X.K st)) (ht:∀cl C s2 H2 fp,PIf (Ci X N' scope cl C s2 H2 fp) ifs (RT X.K tst)) (he:∀cl C s2 H2 fp,PE (Ci X N' scope cl C s2 H2 fp) elt (RE X.K el))
 (hs:∀x,foldedSetIterable iter X.env x=pure x:=by intro _;rfl):PE X (.ListComp elt [⟨tg,iter,ifs,0⟩] scope pos) (RF X.K (BA n fr f st tst el)):=
 AE (W0 O hc hi hg ht he hs) λ_ _ _ q=>RF.comp q
theorem RF.ofPure{f:M (List D)}{σ:L2.St}{Q:VK}(q:RE K (Ar f) σ H Q):RF K f σ H Q:=by
 clear 5 q Oo c t fi r t' eq k;clear 5(Af eq)ds t1 e1 eq
 cases eq
 exact⟨Oo,c,t,fi,ds,_,e1,λp xs H1 c1 f1 s1 rxs hp=>k _ _ c1 (f1.laid hp) (s1.trans (f1.stp_laid hp)) (.lst AC (f1.s.free hp) (rxs.mono (Ext.laid f1.s hp)))⟩
theorem Wn{i:Nat}{y:Str}{py spos:Pos}(O:CmpOk X scope N' (GA n fr))(hc:X.calm=true)(hN:X.N.Nodup)(hiN:X.N[i]?=some y)(hx:X.env.scope.names.lookup y=some .local)(hi:PI X tg iter (RI X.K f))
 (hg:∀cl C s2 H2 fp,PG (Ci X N' scope cl C s2 H2 fp) tg (RG X.K st)) (ht:∀cl C s2 H2 fp,PIf (Ci X N' scope cl C s2 H2 fp) ifs (RT X.K tst)) (he:∀cl C s2 H2 fp,PE (Ci X N' scope cl C s2 H2 fp) elt (RE X.K el))
 (hsw:swapsWith (.ListComp elt [⟨tg,iter,ifs,0⟩] scope pos) (some (.Name y py)) spos.line X.env=pure true:=by rfl)
 (hs:∀x,foldedSetIterable iter X.env x=pure x:=by intro _;rfl):PS X (.Assign [.Name y py] (.ListComp elt [⟨tg,iter,ifs,0⟩] scope pos) spos) (RSg X.K μ (Ap i (Ar (BA n fr f st tst el)))):=
 A7 (Xc O hc hN hiN hx hi hg ht he hsw hs) λE σ H q=>RF.comp (RF.ofPure (RS.set q))
theorem VT(tgs:List Str)(frn:List (Nat×Str))(hk:scope.kind=.function)(hcf:∃k:Option Str,(∀n cl,cellsFrom n scope.names cl=match k with|none=>cl|some x=>(x,n)::cl)/\(∀y,scope.names.lookup y=some .cell->k=some y)/\(∀y,k=some y->scope.names.lookup y=some .cell))(hloc:(scope.names.all λy=>y.2 != .local||scope.names.lookup y.1==some .local)=true)
 (hfree:(scope.names.all λy=>y.2 != .free||X.env.kindOf y.1==some .cell||X.env.kindOf y.1==some .free)=true)
 (hf:(frn.all λp=>X.N[p.1]?==some p.2&&scope.names.lookup p.2==some .free)=true):CmpOk X scope (tgs++frn.map (·.2)) (GA tgs.length (frn.map (·.1))):=by
 rw[uh5] at hloc hfree hf;refine⟨hk,hcf,λy hy hl=>?_,λy hy hl=>?_,λσ _=>by simp[GA],λσ j x v h1 h2=>?_⟩
 .have:=hloc y hy;simpa[hl] using this
 .have:=hfree y hy;simpa[hl] using this
 .unfold GA at h2
  by_cases hj:j<tgs.length
  .rw[ub0 (by simpa using hj),ub4] at h2
   split at h2<;>simp at h2
  .rw[ua6 (by simpa using hj),uc7,uf5,uf5] at h2;rw[ua6 (by simpa using hj),uf5] at h1
   cases e:frn[j-tgs.length]? with
   |none=>rw[e] at h1;cases h1
   |some p=>
     rw[e] at h1 h2;simp only[uj3,ug2] at h1 h2;have hp:=hf p (ud4 e);rw[uh1] at hp;refine⟨p.1,by rw[<-h1];simpa using hp.1,?_,by rw[<-h1];simpa using hp.2⟩
     cases e2:σ[p.1]? with
     |none=>rw[e2] at h2;cases h2
     |some o=>rw[e2] at h2;simpa using h2
theorem Ma:∀(l:List (Str×NameKind)),(l.all λy=>y.2 != .cell)=true->∀(n:Nat) (cl:List (Str×gm)),cellsFrom n l cl=cl
 |[],_,_,_=>rfl
 |(x,k)::l,h,n,cl=>by
   rw[ul3,uh1] at h;rw[cellsFrom,jZ (by simpa using h.1)];exact Ma l h.2 n cl
theorem Ez(tgs:List Str)(frn:List (Nat×Str))(hk:scope.kind=.function)(hcell:(scope.names.all λy=>y.2 != .cell)=true)(hloc:(scope.names.all λy=>y.2 != .local||scope.names.lookup y.1==some .local)=true)
 (hfree:(scope.names.all λy=>y.2 != .free||X.env.kindOf y.1==some .cell||X.env.kindOf y.1==some .free)=true)
 (hf:(frn.all λp=>X.N[p.1]?==some p.2&&scope.names.lookup p.2==some .free)=true):CmpOk X scope (tgs++frn.map (·.2)) (GA tgs.length (frn.map (·.1))):=
 VT tgs frn hk ⟨none,λn cl=>Ma _ hcell n cl,λy h=>by
  rw[uh5] at hcell;have:=hcell _ (CT h);simp at this,λy h=>by cases h⟩ hloc hfree hf
end
mutual
noncomputable def B7:D->Bool
 |.tup xs=>GK xs
 |.lst xs=>GK xs
 |.obj _=>false
 |.scr _=>false
 |.exc _ _=>false
 |_=>true
noncomputable def GK:List D->Bool
 |[]=>true
 |d::r=>B7 d&&GK r
end
def c0:Cf:=⟨[],λ_=>False⟩
theorem Lk(a:gm):¬c0.A a:=λh=>h.elim (λz=>nomatch z) λz=>z
mutual
theorem GZ{K:gi}{c:Cf}{H:Hp}{v:V}{d:D}(r:Rep K c H v d)(p:B7 d=true):Rep K c0 H v d:=by
 cases r with
 |non=>exact .non
 |bl b=>exact .bl b
 |int i=>exact .int i
 |str x=>exact .str x
 |ty n=>exact .ty n
 |tup h n r=>exact .tup h (Lk _) (Ji r (by simpa[B7] using p))
 |lst h n r=>exact .lst h (Lk _) (Ji r (by simpa[B7] using p))
 |scr h=>simp[B7] at p
 |dic h n=>exact .dic h (Lk _)
 |obj h=>simp[B7] at p
 |exc _ _ _ _ _=>simp[B7] at p
theorem Ji{K:gi}{c:Cf}{H:Hp}{vs:List V}{ds:List D}(r:Reps K c H vs ds)(p:GK ds=true):Reps K c0 H vs ds:=by
 cases r with
 |nil=>exact .nil
 |cons h t=>
   simp only[GK,uh1] at p;exact .cons (GZ h p.1) (Ji t p.2)
end
noncomputable def DL(S:List Ob):D->D
 |.obj k=>match S[k]? with
   |some (.lst ds)=>.lst ds
   |_=>.obj k
 |d=>d
noncomputable def Ub:D->Bool
 |.obj _=>true
 |_=>false
def eqS(g:Bool->Bool)(x y:D):M D:=λt=>
 if (Ub x||Ub y)=true then(if (B7 (DL t.S x)&&B7 (DL t.S y))=true then(eqN EQD (DL t.S x) (DL t.S y)).map λb=>(.bl (g b),t) else none)
 else(eqN EQD x y).map λb=>(.bl (g b),t)
theorem BU{c:Cf}{S:List Ob}{v:V}{d:D}(s:SInv K c S H)(r:Rep K c H v d)(p:B7 (DL S d)=true):Rep K c0 H v (DL S d):=by
 cases r with
 |@obj a k hk=>
   unfold DL at p⊢;dsimp only at p⊢
   split
   .next ds e=>
    rw[e] at p;clear 5(s.obs k a _ hk e)vs h1 h2;exact .lst h1 (Lk _) (Ji h2 (by simpa[B7] using p))
   .next h=>
    split at p
    .next ds e=>exact absurd e (h ds)
    .simp[B7] at p
 |non=>exact .non
 |bl b=>exact .bl b
 |int b=>exact .int b
 |str b=>exact .str b
 |ty b=>exact .ty b
 |tup h n q=>exact GZ (.tup h n q) p
 |lst h n q=>exact GZ (.lst h n q) p
 |scr h=>exact GZ (c:=c) (.scr h) p
 |dic h n=>exact GZ (.dic h n) p
 |exc a b n f q=>exact GZ (.exc a b n f q) p
theorem Jk{g:Bool->Bool}:Bb K (Ql K g) (eqS g):=λ{Oo c t σ H x y dx dy r t' Q} f rx ry eq k=>by
 unfold eqS at eq
 split at eq
 .split at eq
  .next hp=>
   rw[uh1] at hp;clear 5(uc0.mp eq)b e1 e2
   cases e2
   exact⟨c0,_,_,b,BU f.s rx hp.1,BU f.s ry hp.2,e1,k _ H c f .refl (.bl (g b))⟩
  .cases eq
 .obtain⟨b,e1,e2⟩:=uc0.mp eq
  cases e2
  exact⟨c,dx,dy,b,rx,ry,e1,k _ H c f .refl (.bl (g b))⟩
theorem RB{a:gm}{ns:List Int}{f:Fn}{S':List Ob}(hO:Ps H)(hS:SqL K H a (ns.map V.int))(e:f [.scr ns] []=some (.bl true,S')):spF K f [.ref a] H (λv _=>v=.bl true) λ_ _ _=>False:=by
 refine⟨c0,[.scr ns],[],⟨rfl,List.Pairwise.nil,λk a o h=>by simp[c0] at h,λb z=>z.elim,λb z=>z.elim⟩,.cons (.scr ?_) .nil,.bl true,S',e,λv H' c' _ _ _ rv=>by cases rv;rfl⟩;rcases hS with (h|h)|h
 .rcases hO a with z|⟨o,xs,z⟩
  .rw[z] at h;cases h
  .rw[z] at h;cases h
 .exact .inl ⟨h,Lk _⟩
 .exact .inr h
end
section
variable{prog:gq}{w:gu}{A:Around}{E:gk->gn->Prop}{s:gn}
theorem Ky{it l:gm}{items:Array gk}(hne:l≠it):∀(n i:Nat) (s:gn) (Q:List gk->gn->Prop),s.heap.IsListIter it l i->s.heap.IsList l items->i+n<=items.size->
 (∀h',h'.IsListIter it l (i+n)->Heap.SameBut it s.heap h'->Q ((items.toList.drop i).take n) {s with heap:=h'})->wpAny (model prog w) A (draw (.ref it) n) Q E s
 |0,i,s,Q,hit,_,_,hQ=>un9 (by simpa using hQ s.heap hit (Heap.SameBut.refl ..))
 |n+1,i,s,Q,hit,ht,hle,hQ=>by
   have hlt:i<items.size:=by lia
   refine un8 (wpAny_pyNext_list_item hit ht (x:=items[i]) (by simp[hlt]) λh1 hit1 hs1=>?_);refine un8 (um1 (Ky hne n (i+1) _ _ hit1 (ht.extBut hs1.extBut hne) (by lia) λh2 hit2 hs2=>un9 ?_));have hd:items.toList.drop i=items[i]::items.toList.drop (i+1):=by simp[ub1,hlt]
   have:=hQ h2 (by rw[show i+(n+1)=i+1+n by lia];exact hit2) (hs1.trans hs2);rw[hd,ue1] at this;exact this
theorem Om{l:gm}{items:Array gk}{targets:List (Bool×(gk->Sem Unit))}{Q:Unit->gn->Prop}(hh:A.handled=none)(ht:s.heap.IsList l items)(hn:targets.length=items.size)(hstar:targets.findIdx? (·.1)=none)
 (h:∀h',Heap.ExtBut s.heap.objs.size s.heap h'->wpAny (model prog w) A (assignInOrder (targets.map (·.2)) items.toList) Q E {s with heap:=h'}):wpAny (model prog w) A (unpack (.ref l) targets) Q E s:=by
 have hlt:l≠s.heap.objs.size:=by obtain⟨o,ho,_⟩:=ht;exact um3 (um2 ho)
 unfold unpack;rw[hn,hstar];refine un8 (um1 ?_);unfold unpackItems;refine un8 ?_;unfold notIterableAtAll;refine un8 (jv ht.typeIs PySem.F.slot_list_iter.lookup ?_);refine un9 ?_;simp only[ue9,jU];refine un8 (um1 (jq ht ?_));have hp:Heap.IsList (s.heap.push {cls:=.type "list_iterator",data:=.fields #[.ref l,.int 0 0]}) l items:=by
  clear 5 ht o ho r;exact⟨o,ub8 _ ho,r⟩
 refine un8 (um1 (Ky hlt items.size 0 _ _ ⟨_,ud7 _ rfl,rfl,rfl⟩ hp (by lia) λh1 hit1 hs1=>?_));have hall:List.take items.size (List.drop 0 items.toList)=items.toList:=by
  rw[uk6];exact uc1 (by simp)
 rw[hall];rw[jZ (by simp)];have ht1:Heap.IsList h1 l items:=hp.extBut hs1.extBut hlt;refine un8 (um1 (wpAny_pyNext_list_end hh hit1 ht1 (by simp) λh2 he2=>?_));simp only[Option.isSome_none,ue9,jU];exact un9 (h h2 λb o hb e=>he2 b o hb (hs1.extBut b o hb (ub8 _ e)))
end
section
variable{X:Cx}{pos:Pos}
def gUn(K:gi)(n:Nat)(t:TGs):TG:=λv σ H Q=>∃a xs,v=.ref a/\(SqT K H a xs\/SqL K H a xs)/\xs.length=n/\t xs σ H Q
theorem bK{es:List Expr}{k:Nat}{t:TGs}{n:Nat}(hc:X.calm=true)(h:PGs X es t)
 (hn:(assignEach es X.env).length=n:=by rfl) (hst:(assignEach es X.env).findIdx? (·.1)=none:=by rfl):PG X (.Tuple es k pos) (gUn X.K n t):=by
 intro gj s σ H v u Q I r hw;obtain⟨a,xs,e1,hq|hq,hl,hw⟩:=hw
 .exact ZK hc h hn hst gj s σ H v u Q I r ⟨a,xs,e1,hq,hl,hw⟩
 .subst e1
  cases r
  clear 5(I.list hq)its rv ht hz;rw[assign_Tuple];refine un8 (jB (Om (I.ok.hd hc) ht.isList (by simp[hn,<-hl,rv.length]) hst λh' hx=>?_));have I1:Inv X gj σ H {s with heap:=h'}:=I.kept (t':=s.toks) λb o e=>hx b o (um3 (um2 e)) e;exact h gj _ σ H xs _ Q I1 (by simpa using rv) hw
end
section
open HT
variable{prog:gq}{w:gu}{A:Around}{E:gk->gn->Prop}{s:gn}
theorem HW{t sl:gm}{items:Array gk}{vl vu:gk}{lo hi:Option Int}{Q:gk->gn->Prop}(ht:IsTup s.heap t items)(hs:s.heap.IsSliceOf sl vl vu .none)(pl:IsPart vl lo)(pu:IsPart vu hi)
 (hw:sIx items.size 0 lo=0/\sIx items.size items.size hi=items.size) (h:Q (.ref t) s):wpAny (model prog w) A (getItem (.ref t) (.ref sl)) Q E s:=by
 clear 5(id hs)os hos hcs hds;have hTs:s.TypeIs (.ref sl) "slice":=⟨os,hos,hcs⟩;unfold getItem
 try with_reducible refine um1 ?_
 first|refine un8 (un9 ?_)|skip
 refine un8 (wpAny_sequenceKey ht.typeIs (by decide) ?_);refine un8 (wpAny_callSpecial?_slot (name:=Str.ofString "__getitem__") ht.typeIs ua2
  (wpAny_call_entry ua2 ht.typeIs entry_tuple_getitem ?_ (args_tuple_getitem _ _)))
 show wpAny _ _ (Builtin.Tuple.tupleItemsOf (.ref t) >>= _) _ _ s;refine un8 (tupleItemsOf_ ht ?_);refine un8 (jI hTs ?_);rw[jY (by decide)];refine un8 (Gi hs pl pu ?_);have hyes:(((sIx items.size 0 lo:Nat):Int)==0&&(1:Int)==1&&(sIx items.size items.size hi-sIx items.size 0 lo)==items.size)=true:=by
  rw[hw.1,hw.2];simp
 show wpAny _ _ (if (((sIx items.size 0 lo:Nat):Int)==0&&(1:Int)==1&&(sIx items.size items.size hi-sIx items.size 0 lo)==items.size)=true then _ else _) _ _ s;rw[jY hyes];refine un8 (m:=Builtin.Tuple.tupleIsExact _) ?_;unfold Builtin.Tuple.tupleIsExact;refine un8 (jI ht.typeIs (un9 ?_));rw[jY (by decide)]
 first
  |exact un8 (jO (un9 ⟨_,rfl,un9 h⟩))
  |exact un8 (jO (un8 (un9 (un9 ⟨_,rfl,un9 h⟩))))
end
section
variable{X:Cx}
def Z7(K:gi):V->Option Int->Option Int->Hp->VK->Prop:=λx lo hi H Q=>∃a xs,x=.ref a/\SqT K H a xs/\(HT.sIx xs.length 0 lo=0/\HT.sIx xs.length xs.length hi=xs.length)/\Q (.ref a) H
theorem XO:SlR X (Z7 X.K):=by
 intro gj s σ H x v vl vu lo hi sl Q I rx hs pl pu h;clear 5 h a xs rfl hx hw q
 cases rx
 clear 5(I.tuple hx)its r ht hz;have hlen:its.toArray.size=xs.length:=by rw[uf4];exact r.length.symm
 exact⟨"tuple",_,ua2.lookup,ht.typeIs,HW ht hs pl pu (by rw[hlen];exact hw) ⟨.ref a,H,I,rfl,q⟩⟩
end
noncomputable def Its(z:Str):It:=⟨λi _=>i<z.cps.size,λi H x H'=>H'=H/\∃c,z.cps[i]?=some c/\x=.str ⟨#[c]⟩,λi _=>i=z.cps.size⟩
theorem Ol{P:gq}{w:gu}{K:gi}{tg:Expr}{T:String}{x:Str}{t:Tok}(it:gm)(hT:["enumerate", "zip", "dict_itemiterator", "dict_reverseitemiterator", "odict_iterator", "itertools.zip_longest", "itertools.pairwise"].contains T=false)
 (W:∀A:Around,A.handled=none->Walks P w A it [it] [it] x.cps.size (SignAt x) (λi h=>h.IsStrIter it T x t i))
 (self:∀(A:Around) (i:Nat) (s:gn) (Q:gk->gn->Prop) (E:gk->gn->Prop),s.heap.IsStrIter it T x t i->Q (.ref it) s->wpAny (model P w) A (pyIter (.ref it)) Q E s) :
 Turn P w K tg (Its x) [it] it (λi h=>h.IsStrIter it T x t i) where
 mem:=by simp
 obj:=λi h st b hb=>by
  have e:b=it:=by simpa using hb
  subst e;clear 5 st o e c d;exact⟨o,e,λv z=>by rw[d] at z;cases z⟩
 keep:=λi h h' st k=>by
  clear 5 st o e r;exact⟨o,k it (by simp) o e,r⟩
 item:=by
  intro X hP hw hK hc i gj s σ H E I hf st hg;subst hP hw hK;clear 5(hf it (by simp))f0 f1 f2 f3 f4 f5;refine(W X.A (I.ok.hd hc)).item i s _ _ hg st λv h' tk hv st' kk=>?_;clear 5 hv c u hcc rfl;have I1:Inv X gj σ H {s with heap:=h',toks:=tk}:=I.turned (λb o hb e=>kk b o (by simpa using hb) e) f0 f1 f3 f4 f5;clear 5(id st')o e ec ed;exact⟨_,rfl,KJ (s:={s with heap:=h',toks:=tk}) e ec ed hT ⟨.str ⟨#[c]⟩,H,I1,⟨u,rfl⟩,⟨rfl,c,hcc,rfl⟩,st',λb hb=>(hf b hb).1⟩⟩
 done:=by
  intro X hP hw hK hc i gj s σ H E I hf st hg;subst hP hw hK;clear 5(hf it (by simp))f0 f1 f2 f3 f4 f5;have hg':i=x.cps.size:=hg;subst hg';exact(W X.A (I.ok.hd hc)).done s _ _ st λh' tk kk=>⟨rfl,I.turned (λb o hb e=>kk b o (by simpa using hb) e) f0 f1 f3 f4 f5⟩
 self:=λA i s Q E st h=>self A i s Q E st h
section
variable{X:Cx}{tg:Expr}{pos:Pos}
def dQ(K:gi)(tl:TE):TI:=λσ H R=>tl σ H λx H1=>(∃a,x=.ref a/\(∃xs,SqL K H1 a xs)/\R (Itl K a) H1)\/(∃a,x=.ref a/\(∃xs,SqT K H1 a xs)/\R (Itt K a) H1)\/∃z,x=.str z/\R (Its z) H1
theorem ZM{l:Expr}{tl:TE}(hl:PE X l tl):PI X tg l (dQ X.K tl):=by
 intro gj s σ H R I h;refine thn (hl gj s σ H _ I h) λv s1 z9=>?_;clear 5 z9 x H1 I1 r1 q1;have fp:∀b∈[s1.heap.objs.size],FpOk X gj H1 b:=λb hb=>by
  have e:b=s1.heap.objs.size:=by simpa using hb
  subst e;exact I1.fpOk (un4 _) (I1.hok.fresh (un4 _))
 rcases q1 with⟨a,rfl,⟨xs,hq⟩,q⟩|⟨a,rfl,⟨xs,hq⟩,q⟩|⟨z,rfl,q⟩
 .cases r1
  clear 5(I1.list hq)its rv p hz;refine jq p.isList ?_;exact⟨s1.heap.objs.size,[s1.heap.objs.size],_,_,H1,rfl,I1.kept (t':=s1.toks) λb o e=>ub8 _ e,SM a _,⟨_,ud7 _ rfl,rfl,rfl⟩,fp,q⟩
 .cases r1
  clear 5(I1.tuple hq)its rv p hz;refine wpAny_pyIter_tuple (show s1.heap.IsTuple a its.toArray from p) ?_;exact⟨s1.heap.objs.size,[s1.heap.objs.size],_,_,H1,rfl,I1.kept (t':=s1.toks) λb o e=>ub8 _ e,Qw a _,⟨_,ud7 _ rfl,rfl,rfl⟩,fp,q⟩
 .obtain⟨t,rfl⟩:=r1
  cases ha:z.cps.all (· < 128)
  .refine wpAny_pyIter_wide ha ?_;exact⟨s1.heap.objs.size,[s1.heap.objs.size],_,_,H1,rfl,I1.kept (t':=s1.toks) λb o e=>ub8 _ e,Ol (T:="str_iterator") (x:=z) (t:=t) _ (by decide) (λA hA=>Walks.strWide hA _ z t) (λ_ _ _ _ _ st h=>wpAny_pyIter_striter_wide st h),⟨_,ud7 _ rfl,rfl,rfl⟩,fp,q⟩
  .refine wpAny_pyIter_ascii ha ?_;exact⟨s1.heap.objs.size,[s1.heap.objs.size],_,_,H1,rfl,I1.kept (t':=s1.toks) λb o e=>ub8 _ e,Ol (T:="str_ascii_iterator") (x:=z) (t:=t) _ (by decide) (λA hA=>Walks.strAscii hA _ z t) (λ_ _ _ _ _ st h=>wpAny_pyIter_striter_ascii st h),⟨_,ud7 _ rfl,rfl,rfl⟩,fp,q⟩
def Vu:R2:=λx y H Q=>∃z k,x=.str z/\y=.int k/\MulOk z k/\Q (.str (Txt.mul z k)) H
theorem WV:OpR X (binaryOp .Mult) Vu:=by
 intro gj s σ H x y v u Q I rx ry h;clear 5 h z k rfl rfl hk q;clear 5 rx t rfl;clear 5 ry t' rfl;exact SB.mul hk λt2 tk=>⟨.str _,H,I.tok tk,⟨t2,rfl⟩,q⟩
def Z5:V->Option Int->Option Int->Hp->VK->Prop:=λx lo hi H Q=>∃z,x=.str z/\z.length<=sizeLine/\Q (.str (Txt.slice z lo hi)) H
theorem sl_str:SlR X Z5:=by
 intro gj s σ H x v vl vu lo hi sl Q I rx hs pl pu h;clear 5 h z rfl hz q;clear 5 rx t rfl;refine⟨"str",_,PySem.F.slot_str_getitem.lookup,typeIs_str _ _ _,?_⟩;have part:∀{v:gk}{o:Option Int},IsPart v o->∃l:Option (Int×Tok),v=partValue l/\l.map (·.1)=o:=λ{v o} p=>by
  cases p with
  |none=>exact⟨none,rfl,rfl⟩
  |int i t=>exact⟨some (i,t),rfl,rfl⟩
 clear 5(part pl)l rfl el;clear 5(part pu)u rfl eu;refine wpAny_getItem_str_slice (l:=l) (u:=u) (st:=none) (by clear 5 hs o h1 h2 h3;exact⟨o,h1,h2,h3⟩) rfl ?_;unfold sliceMade slicePicked;rw[el,eu];show(if ((1:Int)==1&&(Builtin.Str.strSliceIndices lo hi 1 z.length).length==z.length)=true then Made.val (.str z t) else Made.str ⟨((Builtin.Str.strSliceIndices lo hi 1 z.length).filterMap (z.cps[·]?)).toArray⟩).post _ s;have hle:=Txt.slice_le z lo hi;unfold Txt.slice at q hle
 by_cases hc:((1:Int)==1&&(Builtin.Str.strSliceIndices lo hi 1 z.length).length==z.length)=true
 .rw[jY hc] at q⊢;exact⟨.str z,H,I,⟨t,rfl⟩,q⟩
 .rw[jZ hc] at q hle⊢;exact⟨um4 hle hz,.str _,H,I.tok _,⟨_,rfl⟩,q⟩
def HI(g:Int->Int->Bool)(h:List Nat->List Nat->Bool):R2:=λx y H Q=>(∃i j,x=.int i/\y=.int j/\Q (.bl (g i j)) H)\/∃i j,x=.str i/\y=.str j/\Q (.bl (h i.cps.toList j.cps.toList)) H
theorem Sc:OpR X (compareOp .Lt) (HI (λi j=>decide (i<j)) λi j=>decide (i<j)):=op_lt.or λgj s σ H x y v u Q I rx ry h=>by
 clear 5 h i j rfl rfl q;clear 5 rx t rfl;clear 5 ry t' rfl;exact P.lt_str ⟨.bl _,H,I,rfl,q⟩
theorem NW:OpR X (compareOp .LtE) (HI (λi j=>decide (i<=j)) λi j=>!(decide (j<i))):=op_le.or λgj s σ H x y v u Q I rx ry h=>by
 clear 5 h i j rfl rfl q;clear 5 rx t rfl;clear 5 ry t' rfl;exact P.le_str ⟨.bl _,H,I,rfl,q⟩
theorem Sa:OpR X (compareOp .Gt) (HI (λi j=>decide (j<i)) λi j=>decide (j<i)):=op_gt.or λgj s σ H x y v u Q I rx ry h=>by
 clear 5 h i j rfl rfl q;clear 5 rx t rfl;clear 5 ry t' rfl;exact P.gt_str ⟨.bl _,H,I,rfl,q⟩
theorem Zu:OpR X (compareOp .GtE) (HI (λi j=>decide (j<=i)) λi j=>!(decide (i<j))):=op_ge.or λgj s σ H x y v u Q I rx ry h=>by
 clear 5 h i j rfl rfl q;clear 5 rx t rfl;clear 5 ry t' rfl;exact P.ge_str ⟨.bl _,H,I,rfl,q⟩
end
def DG:D->M (List D)
 |.lst ds=>ret ds
 |.scr ns=>ret (ns.map .int)
 |.tup ds=>ret ds
 |.str x=>ret (x.cps.toList.map λc=>.str ⟨#[c]⟩)
 |_=>fail
def CZ(f:M D):M (List D):=bnd f DG
def Cu:D->D->M D
 |.str x,.int k=>λt=>if small k=true/\x.length*k.toNat<=LIM/\k<=LIM/\x.length<=LIM then some (.str (Txt.mul x k),t) else none
 |x,y=>Uo x y
def Cr:D->Option Int->Option Int->M D
 |.str x,lo,hi=>lim x.length (.str (Txt.slice x lo hi))
 |.tup ds,lo,hi=>ret (.tup (Bu ds lo hi))
 |x,lo,hi=>slD x lo hi
def Ng(g:Int->Int->Bool)(h:List Nat->List Nat->Bool):D->D->M D
 |.int i,.int j=>ret (.bl (g i j))
 |.str x,.str y=>ret (.bl (h x.cps.toList y.cps.toList))
 |_,_=>fail
def ltA:=Ng (λi j=>decide (i<j)) (λi j=>decide (i<j))
def leA:=Ng (λi j=>decide (i<=j)) (λi j=>!(decide (j<i)))
def gtA:=Ng (λi j=>decide (j<i)) (λi j=>decide (j<i))
def geA:=Ng (λi j=>decide (j<=i)) (λi j=>!(decide (i<j)))
def unS(n:Nat)(g:List D->M Unit):D->M Unit
 |.tup ds=>if ds.length=n then g ds else fail
 |.lst ds=>if ds.length=n then g ds else fail
 |_=>fail
def dG:M D:=fC .dic
section
variable{μ:Cf->Hp->D->(V->Hp->Prop)->Prop}{tg:Expr}{K:gi}{n:Nat}{g:List D->M Unit}{es:List Expr}
section
variable{X:Cx}{e a b:Expr}{pos:Pos}{st:Stmt}
theorem OU:PS X st (RSg X.K μ fail):=λgj s σ H E I ⟨Oo,c,t,fi,o,t',eq,k⟩=>by cases eq
theorem ItOk.str{K:gi}{c:Cf}{H:Hp}{x:Str}:ItOk K (Its x) c H (x.cps.toList.map λc=>.str ⟨#[c]⟩):=by
 refine⟨λc' H' i ex hi=>?_,λc' H' i y H'' d ex hd hy=>?_,λc' H' ex=>?_⟩
 .show i<x.cps.size;simpa using hi
 .clear 5 hy rfl n hn rfl;refine⟨rfl,?_⟩;have:d=.str ⟨#[n]⟩:=by
   rw[uf5] at hd;have hn':x.cps.toList[i]?=some n:=by simpa using hn
   rw[hn'] at hd;simpa using hd.symm
  rw[this];exact .str _
 .show _=x.cps.size;simp
theorem YU{f:M D}(h:PE X e (RE X.K f)):PI X tg e (RI X.K (CZ f)):=
 Kb (ZM h) λσ H R z9=>by
  clear 5 z9 Oo c t fi ds t' eq k;clear 5(Af eq)d t1 e1 eq;refine⟨Oo,c,t,fi,d,t1,e1,λv H1 c1 f1 s1 rv=>?_⟩
  cases rv with
  |@lst p vs ds' h1 h2 h3=>
    cases eq
    exact .inl ⟨p,rfl,⟨vs,SqL.of h1⟩,k _ H1 c1 f1 s1 (ItOk.lst λc' H' ex=>⟨vs,SqL.of (ex.keep _ _ h1 h2),h3.mono ex⟩)⟩
  |@scr p ns h1=>
    cases eq
    exact .inl ⟨p,rfl,⟨_,h1.sq⟩,k _ H1 c1 f1 s1 (ItOk.lst λc' H' ex=>⟨_,(h1.mono ex).sq,Reps.ints ns⟩)⟩
  |@tup p vs ds' h1 h2 h3=>
    cases eq
    exact .inr (.inl ⟨p,rfl,⟨vs,SqT.of h1⟩,k _ H1 c1 f1 s1 (ItOk.tup λc' H' ex=>⟨vs,SqT.of (ex.keep _ _ h1 h2),h3.mono ex⟩)⟩)
  |str x=>
    cases eq
    exact .inr (.inr ⟨x,rfl,k _ H1 c1 f1 s1 ItOk.str⟩)
  |_=>cases eq
theorem RG.un{v:V}{σ:L2.St}{H:Hp}{Q:L2.St->Hp->Prop}(q:RG K (unS n g) v σ H Q):gUn K n (RGs K g) v σ H Q:=by
 clear 5 q Oo c t d fi rv t' eq k
 cases rv with
 |@tup a vs ds h1 h2 h3=>
   unfold unS at eq
   by_cases hn:ds.length=n
   .dsimp only at eq;rw[jY hn] at eq;exact⟨a,vs,rfl,.inl (SqT.of h1),by rw[h3.length];exact hn,Oo,c,t,ds,fi,h3,t',eq,k⟩
   .dsimp only at eq;rw[jZ hn] at eq;cases eq
 |@lst a vs ds h1 h2 h3=>
   unfold unS at eq
   by_cases hn:ds.length=n
   .dsimp only at eq;rw[jY hn] at eq;exact⟨a,vs,rfl,.inr (SqL.of h1),by rw[h3.length];exact hn,Oo,c,t,ds,fi,h3,t',eq,k⟩
   .dsimp only at eq;rw[jZ hn] at eq;cases eq
 |_=>cases eq
theorem bi{k:Nat}(hc:X.calm=true)(h:PGs X es (RGs X.K g))(hn:(assignEach es X.env).length=n:=by rfl)(hst:(assignEach es X.env).findIdx? (·.1)=none:=by rfl):PG X (.Tuple es k pos) (RG X.K (unS n g)):=
 MO (bK hc h hn hst) λ_ _ _ _ q=>RG.un q
theorem TL{f:D->M Unit}(h1:PG X e (RG X.K f))(h2:PGs X es (RGs X.K g))(hs:(assignEach (e::es) X.env).map (·.2)=assign e X.env::(assignEach es X.env).map (·.2):=by rfl):PGs X (e::es) (RGs X.K (AI f g)):=
 OF (UA h1 h2 hs) λ_ _ _ _ q=>RGs.cons q
end
variable{x:Str}
section
variable{K:gi}
def Vt(K:gi):R2:=λx y H Q=>Qm K x y H Q\/Vu x y H Q
theorem WU{X:Cx}:OpR X (binaryOp .Mult) (Vt X.K):=op_mul3.or WV
theorem Oz{k:Int}(h:small k=true/\x.length*k.toNat<=LIM/\k<=LIM/\x.length<=LIM):MulOk x k:=by
 clear 5(Gs h.1)g1 g2;have hL:LIM=100000:=rfl;refine⟨?_,λh1 _=>?_,λh1 _=>?_⟩
 .rw[Bool.or_eq_false_iff];exact⟨uk1 (by lia),uk1 (by lia)⟩
 .have h2:k<=100000:=by have:=h.2.2.1;rw[hL] at this;exact this
  have h3:x.length<=100000:=by have:=h.2.2.2;rw[hL] at this;exact this
  have h4:(92233720368547:Int)<=(2 ^ 63-1)/k:=by
   rw[Int.le_ediv_iff_mul_le (by lia)];lia
  lia
 .have h5:=h.2.1;rw[hL] at h5;unfold Builtin.Str.tooLong
  first|exact uk1 (by unfold sizeLine;lia)|(unfold sizeLine;exact uk1 (by lia))
theorem UO:Bb K (Vt K) Cu:=λ{Oo c t σ H x y dx dy r t' Q} f rx ry eq k=>by
 unfold Cu at eq
 split at eq
 .next z kk=>
  split at eq
  .next h=>
   cases eq
   cases rx
   cases ry
   exact .inr ⟨z,kk,rfl,rfl,Oz h,k _ H c f .refl (.str _)⟩
  .cases eq
 .exact .inl (XC f rx ry eq k)
def Z3(K:gi):V->Option Int->Option Int->Hp->VK->Prop:=λx lo hi H Q=>UJ K x lo hi H Q\/(Z5 x lo hi H Q\/Z7 K x lo hi H Q)
theorem sl3{X:Cx}:SlR X (Z3 X.K):=sl2.or (sl_str.or XO)
theorem PD{α:Type}{xs:List α}{lo hi:Option Int}(h:HT.sIx xs.length 0 lo=0/\HT.sIx xs.length xs.length hi=xs.length):Bu xs lo hi=xs:=by
 unfold Bu;rw[h.1,h.2];simp
theorem XH:Tb K (Z3 K) Cr:=λ{Oo c t σ H x dx r lo hi t' Q} f rx eq k=>by
 unfold Cr at eq
 split at eq
 .next z=>
  clear 5(Eb eq)h e
  cases e
  cases rx
  exact .inr (.inl ⟨z,rfl,um4 h Dy,k _ H c f .refl (.str _)⟩)
 .next ds=>
  cases eq
  cases rx with
  |@tup p vs ds h1 h2 h3=>
    by_cases hw:HT.sIx ds.length 0 lo=0/\HT.sIx ds.length ds.length hi=ds.length
    .rw[PD hw] at k;exact .inr (.inr ⟨p,vs,rfl,SqT.of h1,by rw[h3.length];exact hw,k _ H c f .refl (.tup h1 h2 h3)⟩)
    .exact .inl (.inr ⟨p,vs,rfl,SqT.of h1,by rw[h3.length];exact hw,λq hq=>k _ _ c (f.laid hq) (f.stp_laid hq) (.tup AC (f.s.free hq) ((JQ h3 lo hi).mono (Ext.laid f.s hq)))⟩)
 .exact .inl (ad f rx eq k)
theorem Jj{g:Int->Int->Bool}{h:List Nat->List Nat->Bool}:Bb K (HI g h) (Ng g h):=λ{Oo c t σ H x y dx dy r t' Q} f rx ry eq k=>by
 cases rx with
 |int i=>cases ry with
   |int j=>cases eq;exact .inl ⟨i,j,rfl,rfl,k _ H c f .refl (.bl _)⟩
   |_=>cases eq
 |str i=>cases ry with
   |str j=>cases eq;exact .inr ⟨i,j,rfl,rfl,k _ H c f .refl (.bl _)⟩
   |_=>cases eq
 |_=>cases eq
theorem Pc:Bb K (HI (λi j=>decide (i<j)) λi j=>decide (i<j)) ltA:=Jj
theorem LR:Bb K (HI (λi j=>decide (i<=j)) λi j=>!(decide (j<i))) leA:=Jj
theorem Pb:Bb K (HI (λi j=>decide (j<i)) λi j=>decide (j<i)) gtA:=Jj
theorem Xt:Bb K (HI (λi j=>decide (j<=i)) λi j=>!(decide (i<j))) geA:=Jj
end
variable{fa:gm}{fd:gy}
theorem YW{P:gq}{w:gu}{mg:Str->Option gk}{base:Heap}{qual:Str}{st:Stmt}{N ps:List Str}{k m:Nat}{g:M Out}(e1:ps.length=n)(e2:N.length=m)(F:Fun K x qual st fa fd)(S:FnScope N ps (AA st))
 (hb:∀(cdv:gk) (A:Around) (outer:List Env) (s:gn) (H:Hp) (E:XK),Room k (A.deeper (PyProof.Rows.envOfC qual (AA st) s.heap.objs.size fa cdv))->
   PSs (EV CX0 P w K mg base N qual (AA st) fa cdv A outer s H E).nox (BS st) (RS K g)):FnOk P w K mg base CX0 (k+1) fa fd ps (spF K (fnOf n m g)):=by
 subst e1 e2;exact bn F S hb
theorem Z9{P:gq}{w:gu}{mg:Str->Option gk}{base:Heap}{ps:List Str}{k:Nat}{f g:Fn}(e:f=g)(h:FnOk P w K mg base CX0 k fa fd ps (spF K g)):FnOk P w K mg base CX0 k fa fd ps (spF K f):=by rw[e];exact h
theorem Yr:bootBuiltins "len" = some (.builtin "len"):=by decide +kernel
theorem My:bootBuiltins "isinstance" = some (.builtin "isinstance"):=by decide +kernel
theorem Yu:bootBuiltins "ord" = some (.builtin "ord"):=by decide +kernel
theorem Yt:bootBuiltins "min" = some (.builtin "min"):=by decide +kernel
theorem Ys:bootBuiltins "max" = some (.builtin "max"):=by decide +kernel
theorem Yw:bootBuiltins "sum" = some (.builtin "sum"):=by decide +kernel
theorem QQ:bootBuiltins "int" = some (.type "int"):=by decide +kernel
theorem Yv:bootBuiltins "str" = some (.type "str"):=by decide +kernel
theorem VQ:bootBuiltins "bool" = some (.type "bool"):=by decide +kernel
theorem OI:bootBuiltins "list" = some (.type "list"):=by decide +kernel
theorem Tj:bootBuiltins "tuple" = some (.type "tuple"):=by decide +kernel
noncomputable def AV:Expr->Bool
 |.Starred _ _=>true
 |_=>false
theorem AX{e:Expr}{env:Env}(h:AV e=false):starEach (e::es) env=(false,eval e env)::starEach es env:=by
 cases e<;>first|rfl|cases h
def A1(es:List Expr):Bool:=es.all λe=>!AV e
theorem AW:∀{es:List Expr}{env:Env}{p:Pos},A1 es=true->(backTo p (starEach es env)).any (·.1)=false/\(backTo p (starEach es env)).all (λx=>!x.1)=true
 |[],env,p,_=>⟨rfl,rfl⟩
 |e::es,env,p,h=>by
   have h':AV e=false/\A1 es=true:=by
    rw[A1,ul3,uh1] at h;exact⟨by simpa using h.1,h.2⟩
   clear 5(AW (es:=es) (env:=env) (p:=p) h'.2)h1 h2;rw[AX h'.1];refine⟨?_,?_⟩
   .show(false||(backTo p (starEach es env)).any (·.1))=false;rw[h1];rfl
   .show(!false&&(backTo p (starEach es env)).all (λx=>!x.1))=true;rw[h2];rfl
variable{f:M (List D)}{p:Pos}{id:String}{R:List V->Hp->VK->Prop}
section
variable{X:Cx}{e a b:Expr}{es:List Expr}{pos:Pos}
theorem Tu{f:M D}{g:M (List D)}(ha:PE X e (RE X.K f))(hr:PA X es (RA X.K g))(hs:AV e=false:=by rfl):PA X (e::es) (RA X.K (Ab f g)):=V4 ha hr (AX hs)
theorem Nq{k:Nat}{ps:List Str}{g:Fn}(F:FnOk X.prog X.w X.K X.mg X.base CX0 k fa fd ps (spF X.K g))(hr:Room k X.A)(hg:Gl X x)(hm:X.mg x=some (.ref fa))(hk:PySem.W.keepIn X.K (.ref fa)=true)(hb:Binds X.K fd ps [])
 (ha:PA X (e::es) (RA X.K f)) (hdb:(x==("__debug__":Str))=false:=by decide) (h1:AV e=false:=by rfl) (h2:A1 es=true:=by rfl) :
 PE X (.Call (.Name x p) (e::es) [] pos) (RE X.K (Ag g f)):=V6 F hr hg hm hk hb ha hdb (AX h1) (AW h2).1
theorem IX{h:List D->M D}(hc:CA X (.builtin id) R)(s:Fv X.K R h)(hg:Gl X x)(hm:X.mg x=none)(hv:bootBuiltins x=some (.builtin id))(ha:PA X (e::es) (RA X.K f))(hn:x≠"__name__":=by decide)(hdb:(x==("__debug__":Str))=false:=by decide)
 (h1:AV e=false:=by rfl) (h2:A1 es=true:=by rfl):PE X (.Call (.Name x p) (e::es) [] pos) (RE X.K (fB f h)):=dH hc s hg hm hv ha hn hdb (AX h1) (AW h2).1
theorem a9{h:List D->M D}(hc:CA X (.type id) R)(s:Fv X.K R h)(hg:Gl X x)(hm:X.mg x=none)(hv:bootBuiltins x=some (.type id))(ha:PA X (e::es) (RA X.K f))(hn:x≠"__name__":=by decide)(hdb:(x==("__debug__":Str))=false:=by decide)
 (h1:AV e=false:=by rfl) (h2:A1 es=true:=by rfl):PE X (.Call (.Name x p) (e::es) [] pos) (RE X.K (fB f h)):=dI hc s hg hm hv ha hn hdb (AX h1) (AW h2).1
theorem bg{h:List D->M (List D)}(hc:CA X (.type id) R)(s:Ke X.K R h)(hg:Gl X x)(hm:X.mg x=none)(hv:bootBuiltins x=some (.type id))(ha:PA X (e::es) (RA X.K f))(hn:x≠"__name__":=by decide)(hdb:(x==("__debug__":Str))=false:=by decide)
 (h1:AV e=false:=by rfl) (h2:A1 es=true:=by rfl):PE X (.Call (.Name x p) (e::es) [] pos) (RF X.K (fBF f h)):=dJ hc s hg hm hv ha hn hdb (AX h1) (AW h2).1
theorem PL(hg:Gl X "range")(hm:X.mg "range" = none)(ha:PA X [a] (RA X.K f))(h1:AV a=false:=by rfl):PI X tg (.Call (.Name "range" p) [a] [] pos) (RI X.K (BV f)):=Q9 hg hm ha (AX h1)
theorem PN(hg:Gl X "range")(hm:X.mg "range" = none)(ha:PA X [a,b] (RA X.K f))(h1:AV a=false:=by rfl)(h2:AV b=false:=by rfl):PI X tg (.Call (.Name "range" p) [a,b] [] pos) (RI X.K (Go f)):=
 Ra hg hm ha (by rw[AX h1,AX h2];rfl) (AX h2)
theorem Q7{cpos:Pos}(h1:AV e=false)(h2:A1 es=true)(h3:es.length<20):((backTo cpos (starEach (e::es) X.env)).all (λx=>!x.1)&&(backToKw cpos (keywordEach [] X.env)).all (λx=>x.1.isSome)&&decide ((e::es).length+([]:List Keyword).length+(if ([]:List Keyword).isEmpty then 0 else 1)<30))=true:=by
 rw[(AW (es:=e::es) (env:=X.env) (p:=cpos) (by rw[A1,ul3,h1];exact h2)).2];show(true&&true&&decide (es.length+1+0+0<30))=true;simp;lia
theorem PV(i:Nat){x:Str}{g:M (List D)}{px apos cpos:Pos}(ha:PA X (e::es) (RA X.K g))(hN:X.N[i]?=some x:=by rfl)(hv:Vis X.env.scope x:=by walk_at"h")(hd:(x==("__debug__":Str))=false:=by decide)
 (hcd:(x==("__classdict__":Str))=false:=by decide) (hline:(apos.endLine==cpos.line)=true:=by rfl) (h1:AV e=false:=by rfl) (h2:A1 es=true:=by rfl) (h3:es.length<20:=by decide) :
 PS X (.Expr (.Call (.Attribute (.Name x px) "append" apos) (e::es) [] cpos) pos) (RSg X.K μ (ownM i CI g)):=Rb i ha hN hv hd hcd rfl (Q7 h1 h2 h3) hline (AX h1) (AW h2).1
theorem PX(i:Nat){x:Str}{g:M (List D)}{px apos cpos:Pos}(ha:PA X (e::es) (RA X.K g))(hN:X.N[i]?=some x:=by rfl)(hv:Vis X.env.scope x:=by walk_at"h")(hd:(x==("__debug__":Str))=false:=by decide)
 (hcd:(x==("__classdict__":Str))=false:=by decide) (hline:(apos.endLine==cpos.line)=true:=by rfl) (h1:AV e=false:=by rfl) (h2:A1 es=true:=by rfl) (h3:es.length<20:=by decide) :
 PS X (.Expr (.Call (.Attribute (.Name x px) "extend" apos) (e::es) [] cpos) pos) (RSg X.K μ (ownM i EW g)):=Rc i ha hN hv hd hcd rfl (Q7 h1 h2 h3) hline (AX h1) (AW h2).1
end
end
end L2
namespace HT
open PySem PySem.Spec L2 PyProof.Rows
section
variable{prog:gq}{w:gu}{A:Around}{E:gk->gn->Prop}{s:gn}
end
end HT
namespace L2
open PySem PySem.Spec PyProof.Rows
section
variable{X:Cx}{e ek:Expr}{p2 pos:Pos}{te:TE}{tk:TO}
theorem Vals.rev{xs:List V}{us:List gk}(r:Vals xs us):Vals xs.reverse us.reverse:=by
 induction r with
 |nil=>exact .nil
 |cons r1 _ ih=>rw[ug3,ug3];exact ih.append (.cons r1 .nil)
end
section
variable{X:Cx}
end
section
variable{X:Cx}
end
section
variable{X:Cx}
end
section
variable{X:Cx}{K:gi}
theorem Reps.rev{c:Cf}{H:Hp}:∀{ds:List D}{vs:List V},Reps K c H vs ds->Reps K c H vs.reverse ds.reverse
 |[],_,r=>by cases r;exact .nil
 |_::_,_,r=>by
   cases r with
   |cons r1 r2=>rw[ug3,ug3];exact(Reps.rev r2).append (.cons r1 .nil)
noncomputable def GQ:List D->Option (List Int)
 |[]=>some []
 |.int i::r=>(GQ r).map (i :: ·)
 |_=>none
theorem NA{c:Cf}{H:Hp}:∀{ds:List D}{vs:List V}{ns:List Int},Reps K c H vs ds->GQ ds=some ns->vs=ns.map V.int
 |[],_,ns,r,e=>by
   cases r
   cases e
   rfl
 |d::ds,_,ns,r,e=>by
   cases r with
   |cons r1 r2=>
     cases r1 with
     |int i=>
       clear 5(uc0.mp e)zs e1 rfl;rw[NA r2 e1];rfl
     |_=>cases e
end
def Sn:R2:=λx y H Q=>∃a kvs k v,x=.ref a/\y=.str k/\H a=some (.dK kvs)/\D6 kvs (Sum.inr k:Key)=some v/\Q v H
def ZX:V->V->V->Hp->(Hp->Prop)->Prop:=λo i v H Q=>∃a kvs k,o=.ref a/\i=.str k/\H a=some (.dK kvs)/\kvs.length<sizeLine/\Q (upd H a (.dK (D4 kvs (Sum.inr k:Key) v)))
section
variable{X:Cx}
theorem Y8:IxR X Sn:=by
 intro value slice gj s σ H x y v u Q I rx ry h hs;clear 5 h a kvs k z rfl rfl e l q
 cases rx
 obtain⟨_,_,vs,rel,dd⟩:=MG I.hok e;have g:DGet H a (kV (Sum.inr k:Key)) (some z):=by rw[<-l];exact DGet.k e
 have hT:=dd.typeIs;unfold subscriptTail;refine un8 ?_;rw[getitemInPython_of_ne hT.not_modules];refine un8 (jv hT PySem.F.slot_dict_getitem.lookup ?_);have get:wpAny (model X.prog X.w) X.A (getItem (.ref a) u) (EP X gj σ Q) X.xe s:=by
  clear 5(RelO.some_of (v:=z) (o:=valueAt vs (Sum.inr k:Key)) (by rw[<-l];exact rel.val _))w' hw rw';exact wpAny_getItem_of (KO (k:=(Sum.inr k:Key)) ry) dd.mapOf hw ⟨z,H,I.tok _,rw',q⟩
 have fin:wpAny (model X.prog X.w) X.A (subscripted slice false (.ref a) u) (λr s₃=>wpAny (model X.prog X.w) X.A (letTemporaryGo value (.ref a) r >>= λ_=>pure r) (EP X gj σ Q) X.xe s₃) X.xe s:=by
  rw[hs];exact wpAny_operating (uo0 get (λr s₃ h₃=>un8 (wpAny_letTemporaryGo (un9 h₃))) λ_ _ x=>x)
 first
  |exact un9 (un8 fin)
  |exact un8 (un9 (un8 fin))
  |exact un8 fin
theorem XJ:Yl X ZX:=by
 intro gj s σ H o i v ov iv u Q I ro ri rv h;clear 5 h a kvs k rfl rfl e l q
 cases ro
 clear 5(MG I.hok e)z hd vs rel dd;have hz:vs.length<=sizeLine:=by rw[<-rel.length];exact z
 have hl:(D4 kvs (Sum.inr k:Key) v).length<=sizeLine:=by have:=Jt kvs (Sum.inr k:Key) v;lia
 refine wpAny_setItem_pairs (hsz:=hz) (KO (k:=(Sum.inr k:Key)) ri) dd λh' dd' hs=>⟨_,?_,q⟩;have he:∃q,h'.get? a=some q:=let ⟨q,_,_,hq,_⟩:=dd';⟨q,hq⟩;exact OK I (by rw[e];exact True.intro) hs he (Nl hl hd (rel.put _ rv) dd')
end
noncomputable def Bg(kvs:List (Key×D))(k:Key):Option D:=(kvs.find? λkv=>decide (kv.1=k)).map (·.2)
noncomputable def CG(kvs:List (Key×D))(k:Key)(d:D):List (Key×D):=
 if (kvs.any λkv=>decide (kv.1=k))=true then kvs.map (λkv=>if kv.1=k then(kv.1,d) else kv) else kvs++[(k,d)]
def A6:D->D->M D
 |.obj n,.str x=>λt=>match t.S[n]? with
   |some (.dct kvs)=>(Bg kvs (.inr x)).map λd=>(d,t)
   |_=>none
 |_,_=>fail
def Ha:D->D->D->M Unit
 |.obj n,.str x,d=>λt=>match t.S[n]? with
   |some (.dct kvs)=>if kvs.length<LIM then some ((),{t with S:=t.S.set n (.dct (CG kvs (.inr x) d))}) else none
   |_=>none
 |_,_,_=>fail
def Gu(f g:M D)(d:D):M Unit:=bnd f λo=>bnd g λi=>Ha o i d
def D7:List (Str×M D)->M (List (Key×D))
 |[]=>ret []
 |(k,f)::r=>bnd f λd=>bnd (D7 r) λps=>ret ((.inr k,d)::ps)
def AT(ps:List (Key×D)):List (Key×D):=ps.foldl (λacc kv=>CG acc kv.1 kv.2) []
def FO(n:Nat)(ps:List (Key×D)):M D:=λt=>match t.S[n]? with
 |some (.dct [])=>if ps.length<=15 then some (.obj n,{t with S:=t.S.set n (.dct (AT ps))}) else none
 |_=>none
def FI(l:List (Str×M D)):M D:=λt=>bnd (D7 l) (FO t.S.length) {t with S:=t.S++[.dct []]}
def GN(i:Nat)(g:M D):M D:=λt=>match t.env[i]? with
 | some (some (.own _))=>bnd g (λj t1=>match j,t1.env[i]? with
   |.int j,some (some (.own xs))=>(atI xs j).map λd=>(d,t1)
   |_,_=>none) t
 |_=>none
section
variable{K:gi}{c:Cf}{H:Hp}
theorem KVR.get{us:List (Key×V)}{kvs:List (Key×D)}(r:KVR K c H us kvs)(k:Key){d:D}(e:Bg kvs k=some d):∃v,D6 us k=some v/\Rep K c H v d:=by
 unfold KVR at r
 induction r with
 |nil=>simp[Bg] at e
 |@cons p q ps qs h t ih=>
   by_cases hk:p.1=k
   .have hq:q.1=k:=h.1.symm.trans hk;have:Bg (q::qs) k=some q.2:=by simp[Bg,uj1,hq]
    rw[this] at e;cases e
    exact⟨p.2,HN hk,h.2⟩
   .have hq:¬q.1=k:=λz=>hk (h.1.trans z);have:Bg (q::qs) k=Bg qs k:=by simp[Bg,uj1,hq]
    rw[this] at e;rw[HM hk];exact ih e
theorem KVR.any{us:List (Key×V)}{kvs:List (Key×D)}(r:KVR K c H us kvs)(k:Key):(us.any λkv=>decide (kv.1=k))=(kvs.any λkv=>decide (kv.1=k)):=by
 unfold KVR at r
 induction r with
 |nil=>rfl
 |@cons p q ps qs h t ih=>rw[ul2,ul2,ih,h.1]
theorem KVR.put{us:List (Key×V)}{kvs:List (Key×D)}(r:KVR K c H us kvs)(k:Key){v:V}{d:D}(rv:Rep K c H v d):KVR K c H (D4 us k v) (CG kvs k d):=by
 unfold D4 CG;rw[r.any k]
 by_cases q:(kvs.any λkv=>decide (kv.1=k))=true
 .rw[jY q,jY q];clear q;unfold KVR at r⊢
  induction r with
  |nil=>exact .nil
  |@cons p q ps qs h t ih=>
    rw[ul0,ul0];refine .cons ?_ ih
    by_cases e:p.1=k
    .rw[jY e,jY (h.1.symm.trans e)];exact⟨h.1,rv⟩
    .rw[jZ e,jZ (λz=>e (h.1.trans z))];exact h
 .rw[jZ q,jZ q];exact Paired.snoc r ⟨rfl,rv⟩
theorem KVR.length{us:List (Key×V)}{kvs:List (Key×D)}(r:KVR K c H us kvs):us.length=kvs.length:=Paired.length r
theorem KVR.mono{c':Cf}{H':Hp}{us:List (Key×V)}{kvs:List (Key×D)}(e:Ext c H c' H')(r:KVR K c H us kvs):KVR K c' H' us kvs:=Paired.mapP r λ_ _ z=>⟨z.1,z.2.mono e⟩
theorem KVR.merge:∀{ps:List (Key×D)}{us:List (Key×V)}{acc:List (Key×D)}{ua:List (Key×V)},KVR K c H us ps->KVR K c H ua acc->KVR K c H (Gc ua us) (ps.foldl (λacc kv=>CG acc kv.1 kv.2) acc):=by
 intro ps us acc ua r;unfold KVR at r
 induction r generalizing acc ua with
 |nil=>intro q;exact q
 |@cons p q ps qs h t ih=>
   intro r0;refine ih ?_;show KVR K c H (D4 ua p.1 p.2) (CG acc q.1 q.2);have:=KVR.put r0 p.1 h.2;rw[<-h.1];exact this
theorem Sy:Bb K Sn A6:=λ{Oo c t σ H x y dx dy r t' Q} f rx ry eq k=>by
 unfold A6 at eq
 split at eq
 .next n z=>
  cases ry
  cases rx with
  |@obj a kk hk=>
    split at eq
    .next kvs es=>
     clear 5(uc0.mp eq)d e1 e2
     cases e2
     clear 5(f.s.obs _ a _ hk es)us g1 g2;clear 5(g2.get _ e1)v e3 e4;exact⟨a,us,z,v,rfl,rfl,g1,e3,k _ H c f .refl e4⟩
    .cases eq
 .cases eq
end
section
variable{X:Cx}{pos:Pos}{e:Expr}
theorem Q8{o i:Expr}{f g:M D}(ho:PE X o (RE X.K f))(hi:PE X i (RE X.K g))
 (ha:∀v,assign (.Subscript o i pos) X.env v=(do
   let ov <-holding [v] (eval o X.env)
   let iv <-holding [v,ov] (eval i X.env)
   standAt pos
   holding [v,ov,iv] (setItem ov iv v)
   release [v,ov,iv] []):=by intro _;rfl):PG X (.Subscript o i pos) (RG X.K (Gu f g)):=
 MO (ZJ ho hi XJ ha) λv σ H Q z9=>by
  clear 5 z9 Oo c t d fi rv t' eq k;clear 5(Af eq)d0 t1 e1 eq;clear 5(Af eq)di t2 e2 eq;refine⟨Oo,c,t,fi,_,t1,e1,λx H1 c1 f1 s1 rx=>⟨Oo,c1,t1,f1,di,t2,e2,λy H2 c2 f2 s2 ry=>?_⟩⟩;unfold Ha at eq
  split at eq
  .next n z dd=>
   cases ry
   cases rx with
   |@obj a kk hk=>
     split at eq
     .next kvs es=>
      split at eq
      .next hl=>
       cases eq
       have hk2:=s2.ext.io _ _ hk;clear 5(f2.s.obs _ a _ hk2 es)us g1 g2;refine⟨a,us,z,rfl,rfl,g1,by rw[g2.length];exact Nat.lt_trans hl Yi,?_⟩;have rv2:=rv.mono (s1.trans s2).ext;obtain⟨f3,s3⟩:=f2.wrObj (o:=.dct (CG kvs (.inr z) d)) (u:=.dK (D4 us (.inr z) v)) hk2 λc' H' ext hu=>⟨_,hu,(g2.put _ rv2).mono ext⟩;exact k σ _ c2 f3 ((s1.trans s2).trans s3)
      .cases eq
     .cases eq
  .cases eq
def RP(K:gi)(f:M (List (Key×D)))(σ:St)(H:Hp)(Q:List (V×V)->Hp->Prop):Prop:=
 ∃Oo c t,FInv K Oo c t σ H/\∃ps t',f t=some (ps,t')/\∀us H' c',FInv K Oo c' t' σ H'->Stp Oo c H c' H'->KVR K c' H' us ps->Q (us.map λkv=>(kV kv.1,kv.2)) H'
def PPf(X:Cx)(pos:Pos)(keys:List (Option Expr))(values:List Expr)(f:M (List (Key×D))):Prop:=
 ∃trs,PPs X pos keys values trs/\∀σ H Q,RP X.K f σ H Q->K6 trs σ H Q
theorem Wm:PPf X pos [] [] (D7 []):=⟨[],Xa,λσ H Q z9=>by
 clear 5 z9 Oo c t fi ps t' eq k
 cases eq
 exact k [] H c fi .refl .nil⟩
theorem TR{k:Str}{j:Nat}{kp:Pos}{v:Expr}{ks:List (Option Expr)}{vs:List Expr}{f:M D}{r:List (Str×M D)}(hv:PE X v (RE X.K f))(hr:PPf X pos ks vs (D7 r)) :
 PPf X pos (some (.Constant (.str k) j kp)::ks) (v::vs) (D7 ((k,f)::r)):=by
 clear 5 hr trs h1 h2;refine⟨_,UD Se hv h1,λσ H Q z9=>?_⟩;clear 5 z9 Oo c t fi ps t' eq kk;clear 5(Af eq)d t1 e1 eq;clear 5(Af eq)qs t2 e2 eq
 cases eq
 refine⟨Oo,c,t,fi,d,t1,e1,λy H1 c1 f1 s1 ry=>?_⟩;refine h2 σ H1 _ ⟨Oo,c1,t1,f1,qs,_,e2,λus H2 c2 f2 s2 ru=>?_⟩;exact kk ((.inr k,y)::us) H2 c2 f2 (s1.trans s2) (.cons ⟨rfl,ry.mono s2.ext⟩ ru)
theorem V7{keys:List (Option Expr)}{values:List Expr}{l:List (Str×M D)}(h:PPf X pos keys values (D7 l))(hall:keys.all (·.isSome)=true:=by rfl)(hl:keys.length=values.length:=by rfl)(h0:keys≠[]:=by exact List.cons_ne_nil _ _)
 (h15:keys.length<=15:=by exact jd rfl):PE X (.Dict keys values pos) (RE X.K (FI l)):=by
 clear 5 h trs h1 h2;refine AE (W1 h1 hall hl h0 h15) λσ H Q z9=>?_;clear 5 z9 Oo c t fi r t' eq k;intro p hp;obtain⟨c1,f1,s1,e1⟩:=fi.newObj (o:=.dct []) (u:=.dK []) hp λc' H' ex hu=>⟨[],hu,.nil⟩;clear 5(Af eq)ps t2 e2 eq;refine h2 σ _ _ ⟨Oo,c1,_,f1,ps,t2,e2,λus H2 c2 f2 s2 ru=>?_⟩;unfold FO at eq
 split at eq
 .next es=>
  split at eq
  .next hl15=>
   cases eq
   have hk2:=s2.ext.io _ _ e1;clear 5(f2.s.obs _ p _ hk2 es)u0 g1 g2
   cases g2
   refine⟨g1,us,rfl,by rw[ru.length];exact hl15,?_⟩;obtain⟨f3,s3⟩:=f2.wrObj (o:=.dct (AT ps)) (u:=.dK (Gc [] us)) hk2 λc' H' ext hu=>⟨_,hu,(KVR.merge ru .nil).mono ext⟩;exact k _ _ c2 f3 (s1.trans (s2.trans s3)) (.obj hk2)
  .cases eq
 .cases eq
theorem TD(i:Nat){x:Str}{ix:Expr}{g:M D}{px:Pos}(hi:PE X ix (RE X.K g))(hs:IQ ix)(hN:X.N[i]?=some x:=by rfl)(hv:Vis X.env.scope x:=by walk_at"h")(hd:(x==("__debug__":Str))=false:=by decide)
 (hcd:(x==("__classdict__":Str))=false:=by decide):PE X (.Subscript (.Name x px) ix pos) (RE X.K (GN i g)):=
 AE (Qe ix_list (Ge hN hv hd hcd) hi hs) λσ H Q z9=>by
  clear 5 z9 Oo c t fi r t' eq k;unfold GN at eq
  split at eq
  .next xs0 e0=>
   clear 5(Af eq)j t1 e1 eq;clear 5(fi.own i xs0 e0)a vs0 h1 h2 h3 h4 h5;refine⟨.ref a,h1,Oo,c,t,fi,j,t1,e1,λy H1 c1 f1 s1 ry=>?_⟩
   split at eq
   .next j' xs ex=>
    clear 5(uc0.mp eq)d en ez
    cases ez
    cases ry
    clear 5(f1.own i xs ex)a' vs g1 g2 g3 g4 g5;rw[h1] at g1;injection g1 with g1;injection g1 with g1;injection g1 with g1;subst g1
    clear 5(Hl g5 en)v e3 e4;exact⟨a,vs,j',v,rfl,rfl,SqL.of g4,e3,k _ H1 c1 f1 s1 e4⟩
   .cases eq
  .cases eq
end
section
variable{X:Cx}
end
section
variable{X:Cx}{pos:Pos}{e:Expr}{es:List Expr}
end
section
variable{prog:gq}{w:gu}{A:Around}{I:gm}{fp wr:List gm}{G:Array GenState->Array GenState->Prop}{n:Nat}{P:Nat->gk->Prop}{St:Nat->gn->Prop}
end
section
variable{X:Cx}
end
section
variable{X:Cx}{pos:Pos}{e:Expr}
end
noncomputable def Do(f:M Bool)(b:M Out):Nat->M Out
 |0=>λ_=>none
 |n+1=>λt=>match f t with
   |none=>none
   |some (false,t1)=>some (.next,t1)
   |some (true,t1)=>match b t1 with
     |some (.next,t2)=>Do f b n t2
     |some (.cont,t2)=>Do f b n t2
     |some (.brk,t2)=>some (.next,t2)
     |some (.ret x,t2)=>some (.ret x,t2)
     |none=>none
def Hh:Nat:=1000000
def IL(f:M Bool)(b:M Out):M Out:=Do f b Hh
theorem RS.while{μ:Cf->Hp->D->(V->Hp->Prop)->Prop}{K:gi}{f:M Bool}{b:M Out}{E:Ends}{σ:L2.St}{H:Hp}(q:RSg K μ (IL f b) E σ H):SJ (RT K f) (RSg K μ b) E σ H:=by
 clear 5 q Oo c t fi o t' eq k;refine⟨λm σ' H'=>∃c' t2,FInv K Oo c' t2 σ' H'/\Stp Oo c H c' H'/\Do f b m t2=some (o,t'),⟨Hh,c,t,fi,.refl,eq⟩,?_⟩;rintro m σ' H' ⟨c',t2,f2,s2,e2⟩
 cases m with
 |zero=>cases e2
 |succ m=>
 rw[Do] at e2;dsimp only at e2
 cases ef:f t2 with
 |none=>rw[ef] at e2;cases e2
 |some p=>
 clear 5 p r t3;rw[ef] at e2;refine⟨Oo,c',t2,f2,r,t3,ef,λH3 c3 f3 s3=>?_⟩
 cases r with
 |false=>
   cases e2
   exact k σ' H3 c3 f3 (s2.trans s3)
 |true=>
   rw[jY rfl];dsimp only at e2;refine⟨λσ4 H4=>∃c4 t4,FInv K Oo c4 t4 σ4 H4/\Stp Oo c H c4 H4/\Do f b m t4=some (o,t'),λσ4 H4 h=>⟨m,ug8 m,h⟩,?_⟩
   cases eb:b t3 with
   |none=>rw[eb] at e2;cases e2
   |some p=>
   clear 5 p ob t4;rw[eb] at e2;refine⟨Oo,c3,t3,f3,ob,t4,eb,λσ4 H4 c4 f4 s4=>?_⟩
   cases ob with
   |next=>exact⟨c4,t4,f4,(s2.trans s3).trans s4,e2⟩
   |cont=>exact⟨c4,t4,f4,(s2.trans s3).trans s4,e2⟩
   |brk=>
     cases e2
     exact k σ4 H4 c4 f4 ((s2.trans s3).trans s4)
   |ret x=>
     cases e2
     exact k σ4 H4 c4 f4 ((s2.trans s3).trans s4)
section
variable{X:Cx}{pos:Pos}
theorem TV{μ:Cf->Hp->D->(V->Hp->Prop)->Prop}{e:Expr}{body:List Stmt}{f:M Bool}{b:M Out}(hp:PassesOwn (model X.prog X.w) X.A X.env X.xe)(hc:PT X e (RT X.K f))(hb:PSs X body (RSg X.K μ b)):PS X (.While e body [] pos) (RSg X.K μ (IL f b)):=
 A7 (UF hp hc hb) λ_ _ _ q=>RS.while q
end
theorem Jx(ns:List Int):∀n:Nat,n<=ns.length->preSum (λi=>ns.getD i 0) n=(ns.take n).sum
 |0,_=>by simp[preSum]
 |n+1,h=>by
   rw[preSum,Jx ns n (by lia),jz,ub3 (by lia),List.sum_append];simp[ua7,ub3 (show n<ns.length by lia)]
theorem QV{X:Cx}(hc:X.calm=true):CA X (.builtin "sum") (λxs H Q=>∃(p:gm) (ns:List Int),xs=[.ref p]/\SqL X.K H p (ns.map V.int)/\Q (.int ns.sum) H):=by
 intro gj s σ H xs us Q I r h;clear 5 h p ns rfl hq q;clear 5(FN r)u rfl rx
 cases rx
 clear 5(I.list hq)its rv pl hz;have hl:=rv.length;rw[ui4] at hl;have hlist:=pl.isList;have lp:p<s.heap.objs.size:=by obtain⟨o,ho,_⟩:=hlist;exact um2 ho
 refine call_sum_walkAnyS (jq hlist ?_);refine⟨s.heap.objs.size,_,_,_,_,_,_,λi=>ns.getD i 0,rfl,(Walks.list (by simp[I.ok.hd hc]) s.heap.objs.size p (um3 lp) its.toArray).toS,⟨⟨_,ud7 _ rfl,rfl,rfl⟩,hlist.push _⟩,?_,?_,?_⟩
 .intro b hb;simp only[uk9,uh6,jV] at hb;show b<(s.heap.push _).objs.size;rw[uk4];rcases hb with rfl|rfl
  .exact ug8 _
  .exact ug0 lp
 .intro i v e;have e':its[i]?=some v:=by simpa using e
  obtain⟨hi,_⟩:=ua9.mp e';have hy:(ns.map V.int)[i]?=some (.int (ns.getD i 0)):=by
   rw[uf5,ua7,ub3 (by lia)];rfl
  clear 5(rv.get hy)w' ew rw';rw[e'] at ew;cases ew
  exact rw'
 .intro s' t' mv;clear 5 s' h' g' d' tk' os';obtain rfl:g'=s.gens:=mv.gens;obtain rfl:d'=s.drawn:=mv.drawn;obtain rfl:os'=s.os:=mv.os;have e:preSum (λi=>ns.getD i 0) its.toArray.size=ns.sum:=by
   rw[Jx ns _ (by simp;lia),uc1 (by simp;lia)]
  refine⟨.int ns.sum,H,I.kept (t':=tk') λb o e=>?_,⟨t',by rw[e]⟩,q⟩;have lb:=um2 e;exact mv.heap b o (by simp only[uk9,uh6,jV];exact um3 lb) (ub8 _ e)
def LX:List D->M D
 |[.lst ds]=>λt=>match GQ ds with
   |some ns=>some (.int ns.sum,t)
   |none=>none
 |_=>fail
theorem UQ{K:gi}:Fv K (λxs H Q=>∃(p:gm) (ns:List Int),xs=[.ref p]/\SqL K H p (ns.map V.int)/\Q (.int ns.sum) H) LX:=λ{Oo c t σ H xs ds r t' Q} f rx eq k=>by
 unfold LX at eq
 split at eq
 .next es=>
  split at eq
  .next ns e=>
   cases eq
   clear 5(EL rx)v rfl rv
   cases rv with
   |@lst a ws es g1 g2 g3=>
   have:=NA g3 e;subst this;exact⟨a,ns,rfl,SqL.of g1,k _ H c f .refl (.int _)⟩
  .cases eq
 .cases eq
noncomputable def rngS(a b c:Int):Nat:=(Builtin.Range.rangeSize a b c).toNat
noncomputable def S8(lo c:Int)(n:Nat):It:=⟨λi _=>i<n,λi H x H'=>H'=H/\x=.int (lo+i*c),λi _=>n<=i⟩
theorem SN{P:gq}{w:gu}{K:gi}{tg:Expr}(it:gm)(lo c:Int)(n:Nat):Turn P w K tg (S8 lo c n) [it] it (λi h=>IsRangeIter h it (lo+(i:Nat)*c) ((n:Int)-(i:Nat)) c) where
 mem:=by simp
 obj:=λi h st b hb=>by
  obtain rfl:b=it:=by simpa using hb
  exact⟨_,st,λv z=>by have z':Data.fields _=Data.cell v:=z;cases z'⟩
 keep:=λi h h' st k=>k it (by simp) _ st
 item:=by
  intro X hP hw hK hc i gj s σ H E I hf st hg;subst hP hw hK;clear 5(hf it (by simp))f0 f1 f2 f3 f4 f5;have Wk:=Walks.range (prog:=X.prog) (w:=X.w) (I.ok.hd hc) it lo c n;refine Wk.item i s _ _ hg st λv h' tk hv st' kk=>?_;clear 5 hv t rfl;have I1:Inv X gj σ H {s with heap:=h',toks:=tk}:=I.turned (λb o hb e=>kk b o (by simpa using hb) e) f0 f1 f3 f4 f5;exact⟨_,rfl,KJ (s:={s with heap:=h',toks:=tk}) (n:="range_iterator") st' rfl rfl (by decide) ⟨.int (lo+i*c),H,I1,⟨t,rfl⟩,⟨rfl,rfl⟩,st',λb hb=>(hf b hb).1⟩⟩
 done:=by
  intro X hP hw hK hc i gj s σ H E I hf st hg;subst hP hw hK;clear 5(hf it (by simp))f0 f1 f2 f3 f4 f5;exact wpAny_pyNext_range_end (I.ok.hd hc) st (by have:n<=i:=hg;lia) λh' eb=>⟨rfl,I.turned (t':=s.toks) (λb o hb e=>eb b o hb e) f0 f1 f3 f4 f5⟩
 self:=λ_ _ _ _ _ st h=>wpAny_pyIter_rangeiter st h
section
variable{X:Cx}{tg:Expr}
def bx(ta:TA):TI:=λσ H R=>ta σ H λvs H1=>∃a b c:Int,vs=[.int a,.int b,.int c]/\c≠0/\c.natAbs<1073741824/\Builtin.Range.small a b c=true/\0<=Builtin.Range.rangeSize a b c/\R (S8 a c (rngS a b c)) H1
theorem Si{e:Expr}{es:List Expr}{ta:TA}{p pos:Pos}(hg:Gl X "range")(hm:X.mg "range" = none)(ha:PA X (e::es) ta)(he:starEach (e::es) X.env=(false,eval e X.env)::starEach es X.env)(hpl:(backTo pos (starEach es X.env)).any (·.1)=false) :
 PI X tg (.Call (.Name "range" p) (e::es) [] pos) (bx ta):=by
 intro gj s σ H R I h;refine Call_ (Fq I hg hm boot_range (ua4 (thn (ha pos gj s σ H _ I h) λus s1 z9=>?_) he hpl));clear 5 z9 vs H1 I1 r1 q1;clear 5 q1 a b c ev h0 h1 hs hz q;subst ev
 cases r1 with
 |cons r1 rr=>
 cases rr with
 |cons r2 rr=>
 cases rr with
 |cons r3 rr=>
 cases rr
 clear 5 r1 t rfl;clear 5 r2 u rfl;clear 5 r3 v rfl;refine call_range_3 h0 ?_ (.inl (iZ h1));generalize hN:({cls:=.type "range",data:=.fields #[.int a t,.int b u,.int c v]}:Obj)=N;have hfr:N.isFreed=false:=by rw[<-hN];rfl
 refine wpAny_pyIter_range (a:=a) (b:=b) (c:=c) (t:=t) (u:=u) (v:=v) (by subst hN;exact ud7 _ rfl) hs ?_;have I2:Inv X gj σ H1 {s1 with heap:=s1.heap.push N,toks:=s1.toks}:=I1.kept λb o e=>ub8 _ e;refine⟨(s1.heap.push N).objs.size,[(s1.heap.push N).objs.size],_,_,H1,rfl,I2.kept (t':=s1.toks) λb o e=>ub8 _ e,SN _ a c (rngS a b c),?_,λb' hb=>?_,q⟩
 .have e1:a+((0:Nat):Int)*c=a:=by simp
  have e2:((rngS a b c:Nat):Int)-((0:Nat):Int)=Builtin.Range.rangeSize a b c:=by unfold rngS;lia
  show IsRangeIter _ _ (a+((0:Nat):Int)*c) (((rngS a b c:Nat):Int)-((0:Nat):Int)) c;rw[e1,e2];exact ud7 _ rfl
 .obtain rfl:b'=(s1.heap.push N).objs.size:=by simpa using hb
  exact I2.fpOk (un4 _) (I2.hok.fresh (un4 _))
end
def N7:List D->M (List D)
 |[.int a,.int b,.int c]=>λt=>if (c≠0/\c.natAbs<1073741824)/\Builtin.Range.small a b c=true/\0<=Builtin.Range.rangeSize a b c then some ((List.range (rngS a b c)).map (λi:Nat=>D.int (a+i*c)),t) else none
 |_=>fail
def KB(f:M (List D)):M (List D):=bnd f N7
section
variable{K:gi}
theorem ItOk.rngC{c:Cf}{H:Hp}(lo st:Int)(n:Nat):ItOk K (S8 lo st n) c H ((List.range n).map (λi:Nat=>D.int (lo+i*st))):=by
 refine⟨λc' H' i ex hi=>?_,λc' H' i x H'' d ex hd hy=>?_,λc' H' ex=>?_⟩
 .show i<n;simpa using hi
 .clear 5 hy rfl rfl;rw[uf5] at hd;clear 5(uc0.mp hd)k hk rfl;clear 5(ua9.mp hk)hlt ek;rw[List.getElem_range] at ek;subst ek;exact⟨rfl,.int _⟩
 .show n<=_;simp
variable{f:M (List D)}
section
variable{X:Cx}{pos:Pos}{e:Expr}{es:List Expr}
theorem PP{tg:Expr}{p:Pos}(hg:Gl X "range")(hm:X.mg "range" = none)(ha:PA X (e::es) (RA X.K f))(h1:AV e=false:=by rfl)(h2:A1 es=true:=by rfl):PI X tg (.Call (.Name "range" p) (e::es) [] pos) (RI X.K (KB f)):=
 Kb (Si hg hm ha (AX h1) (AW h2).1) λσ H R z9=>by
  clear 5 z9 Oo c t fi ds t' eq k;clear 5(Af eq)xs t1 e1 eq;refine⟨Oo,c,t,fi,xs,t1,e1,λvs H1 c1 f1 s1 rv=>?_⟩;unfold N7 at eq
  split at eq
  .next a b cc=>
   split at eq
   .next hs=>
    cases eq
    cases rv with
    |cons r1 rv=>
    cases rv with
    |cons r2 rv=>
    cases rv with
    |cons r3 rv=>
    cases rv
    cases r1
    cases r2
    cases r3
    exact⟨a,b,cc,rfl,hs.1.1,hs.1.2,hs.2.1,hs.2.2,k _ H1 c1 f1 s1 (ItOk.rngC a cc _)⟩
   .cases eq
  .cases eq
end
noncomputable def E8(H:Hp)(a:gm):Hp:=λb=>if b=a then none else H b
theorem Us{H:Hp}{a:gm}{o:HO}(h:H a=some o):upd (E8 H a) a o=H:=by
 funext b
 by_cases e:b=a
 .subst e;rw[AC];exact h.symm
 .rw[Aq e];unfold E8;rw[jZ e]
section
variable{K:gi}{Oo:gm->Prop}{c:Cf}{t:T}{σ:L2.St}{H:Hp}
theorem FInv.out(f:FInv K Oo c t σ H){i:Nat}{ds:List D}(e:t.env[i]?=some (some (.own ds))){a:gm}(ha:σ[i]?=some (some (.ref a))) :
 FInv K Oo ⟨c.ι,λb=>c.O b/\b≠a⟩ {t with env:=t.env.set i none} σ (E8 H a)/\Stp Oo c H ⟨c.ι,λb=>c.O b/\b≠a⟩ (E8 H a):=by
 clear 5(f.own i ds e)a' vs g1 g2 g3 g4 g5;rw[ha] at g1;injection g1 with g1;injection g1 with g1;injection g1 with g1;subst g1
 have ni:a∉c.ι:=f.s.dis a g2;have ext:Ext c H ⟨c.ι,λb=>c.O b/\b≠a⟩ (E8 H a):=by
  refine⟨λb o hb hn=>?_,λb o hb z=>?_,λk b h=>h⟩
  .unfold E8;rw[jZ λz=>hn (by rw[z];exact .inr g2)];exact hb
  .rcases z with z|z
   .exact .inl z
   .exact .inr z.1
 have stp:Stp Oo c H ⟨c.ι,λb=>c.O b/\b≠a⟩ (E8 H a):=⟨ext,λb hb=>by unfold E8;rw[jZ λz=>g3 (by rw[<-z];exact hb)]⟩;have old:∀{j:Nat}{x:Sl},(t.env.set i none)[j]?=some (some x)->j≠i/\t.env[j]?=some (some x):=λ{j x} q=>by
  by_cases h:j=i
  .subst h;rw[ug1] at q
   split at q
   .split at q<;>simp at q
   .contradiction
  .exact⟨h,by rw[ud3 (Ne.symm h)] at q;exact q⟩
 refine⟨⟨⟨f.s.len,f.s.nd,λk b o e1 e2=>?_,λb hb=>?_,λb hb=>f.s.dis b hb.1⟩,by simpa using f.len,λb hb=>⟨f.sub b hb,λz=>g3 (by rw[<-z];exact hb)⟩,λj d q=>?_,λj es q=>?_,λj k es fs b q1 q2 q3 q4=>?_⟩,stp⟩
 .refine(f.s.obs k b o e1 e2).mono ext ?_;unfold E8;rw[jZ λz=>ni (by rw[<-z];exact ud4 e1)]
 .clear 5(f.s.trk b hb.1)o ho;exact⟨o,by unfold E8;rw[jZ hb.2];exact ho⟩
 .clear 5(f.val j d (old q).2)v h1 h2;exact⟨v,h1,h2.mono ext⟩
 .clear 5(old q)nj q';clear 5(f.own j es q')b us k1 k2 k3 k4 k5;have nb:b≠a:=λz=>nj (f.inj j i es ds a q' e (by rw[k1,z]) ha);exact⟨b,us,k1,⟨k2,nb⟩,k3,by unfold E8;rw[jZ nb];exact k4,k5.mono ext⟩
 .exact f.inj j k es fs b (old q1).2 (old q2).2 q3 q4
end
noncomputable def Gg(i:Nat):M Out:=λt=>match t.env[i]? with
 |some (some (.own xs))=>some (.ret (.lst xs),{t with env:=t.env.set i none})
 |_=>none
def HJ(f:M (List D)):M Out:=bnd f λds=>ret (.ret (.lst ds))
variable{g:Fn}{fa:gm}{fd:gy}
section
variable{X:Cx}{pos:Pos}{e:Expr}{es:List Expr}
theorem OV(h:PE X e (RF X.K f)):PS X (.Return (some e) pos) (RSg X.K (μF X.K) (HJ f)):=
 A7 (IE h) λE σ H z9=>by
  clear 5 z9 Oo c t fi o t' eq k;clear 5(Af eq)ds t1 e1 eq
  cases eq
  exact⟨Oo,c,t,fi,ds,_,e1,λp us H1 c1 f1 s1 ru hp=>k σ H1 c1 f1 s1 p us hp ru⟩
theorem Ri(i:Nat){x:Str}{px:Pos}(hN:X.N[i]?=some x:=by rfl)(hv:Vis X.env.scope x:=by walk_at"h")(hd:(x==("__debug__":Str))=false:=by decide)
 (hcd:(x==("__classdict__":Str))=false:=by decide):PS X (.Return (some (.Name x px)) pos) (RSg X.K (μF X.K) (Gg i)):=
 A7 (IE (Ge hN hv hd hcd)) λE σ H z9=>by
  clear 5 z9 Oo c t fi o t' eq k;unfold Gg at eq
  split at eq
  .next xs ex=>
   cases eq
   clear 5(fi.own i xs ex)a vs h1 h2 h3 h4 h5;refine⟨.ref a,h1,?_⟩;clear 5(fi.out ex h1)f2 s2;have:=k σ (E8 H a) _ f2 s2 a vs (by unfold E8;rw[jY rfl]) (h5.mono s2.ext);rw[Us h4] at this;exact this
  .cases eq
inductive spFF(K:gi)(f:Fn)(vs:List V)(H:Hp)(Q:VK)(E:XK):Prop where
 |mk (c:Cf) (ds:List D) (S:List Ob) (si:SInv K c S H) (rp:Reps K c H vs ds) (rs:List D) (S':List Ob) (e:f ds S=some (.lst rs,S')) (k:∀p us H' c',SInv K c' S' H'->Stp c.O c H c' H'->(∀b,c'.O b↔c.O b)->Reps K c' H' us rs->H' p=none->Q (.ref p) (upd H' p (.lst us))):spFF K f vs H Q E
def DC(g:Fn)(f:M (List D)):M (List D):=bnd f λds t=>match g ds t.S with
 |some (.lst rs,S')=>some (rs,{t with S:=S'})
 |_=>none
theorem Pz{ds:List D}{t:T}{rs:List D}{t':T}(h:(match g ds t.S with|some (.lst rs,S')=>some (rs,{t with S:=S'})|_=>none:Option (List D×T))=some (rs,t')):∃S',g ds t.S=some (.lst rs,S')/\t' = {t with S:=S'}:=by
 split at h
 .next rs' S' e=>cases h;exact⟨S',e,rfl⟩
 .cases h
theorem TK{k:Nat}{ps:List Str}{x:Str}{p:Pos}(F:FnOk X.prog X.w X.K X.mg X.base CX0 k fa fd ps (spFF X.K g))(hr:Room k X.A)(hg:Gl X x)(hm:X.mg x=some (.ref fa))(hk:PySem.W.keepIn X.K (.ref fa)=true)(hb:Binds X.K fd ps [])
 (ha:PA X (e::es) (RA X.K f)) (hdb:(x==("__debug__":Str))=false:=by decide) (h1:AV e=false:=by rfl) (h2:A1 es=true:=by rfl) :
 PE X (.Call (.Name x p) (e::es) [] pos) (RF X.K (DC g f)):=
 AE (LI F hr hg hm hk hb .nil HH ha hdb (AX h1) (AW h2).1) λσ H Q z9=>by
  clear 5 z9 Oo c t fi rs t' eq kk;clear 5(Af eq)ds t1 e1 eq;clear 5(Pz eq)S' e2 rfl;refine⟨Oo,c,t,fi,ds,t1,e1,λvs H1 c1 f1 s1 rvs=>?_⟩;show spFF X.K g (vs++[]) H1 Q E0;rw[ui6];refine⟨c1,ds,t1.S,f1.s,rvs,rs,S',e2,λp us H' c' si st ho ru hp=>?_⟩;clear 5(f1.after si st ho)f2 s2;exact kk p us H' c' f2 (s1.trans s2) ru hp
end
theorem Wh{P:gq}{w:gu}{mg:Str->Option gk}{base:Heap}{x qual:Str}{st:Stmt}{N ps:List Str}{k n m:Nat}{g:M Out}(e1:ps.length=n)(e2:N.length=m)(F:Fun K x qual st fa fd)(S:FnScope N ps (AA st))
 (hb:∀(cdv:gk) (A:Around) (outer:List Env) (s:gn) (H:Hp) (E:XK),Room k (A.deeper (PyProof.Rows.envOfC qual (AA st) s.heap.objs.size fa cdv))->
   PSs (EV CX0 P w K mg base N qual (AA st) fa cdv A outer s H E).nox (BS st) (RSg K (μF K) g)):FnOk P w K mg base CX0 (k+1) fa fd ps (spFF K (fnOf n m g)):=by
 subst e1 e2;have hlen:∀{ds:List D}{S:List Ob}{z:D×List Ob},fnOf ps.length N.length g ds S=some z->ds.length=ps.length:=λ{ds S z} h=>by
  unfold fnOf at h
  split at h
  .next h1=>exact h1
  .cases h
 refine F.ok S (λvs H Q E h=>?_) (λcdv A outer s H vs Q E hr h=>?_)
 .obtain⟨c,ds,S,si,rs,r,S',e,_⟩:=h;rw[rs.length];exact hlen e
 clear 5 h c ds S0 si rs r S' e kk;refine⟨RSg K (μF K) g,hb cdv A outer s H E hr,?_⟩;have hl:=hlen e;unfold fnOf at e;rw[jY hl] at e
 cases eg:g ⟨env0 N.length ds,S0⟩ with
 |none=>rw[eg] at e;cases e
 |some p=>
   clear 5 p o t;rw[eg] at e;refine⟨c.O,c,_,Hw si rs,o,t,eg,λσ' H' c' f' s'=>?_⟩;clear 5 f'.leave si' ext';have st':Stp c.O c H ⟨c'.ι,c.O⟩ H':=⟨s'.ext.trans ext',s'.oo⟩
   cases o with
   |next=>cases e
   |ret d=>
     cases e
     exact λp us hp ru=>kk p us H' _ si' st' (λ_=>jX) (ru.mono ext') hp
   |brk=>cases e
   |cont=>cases e
theorem Xn{P:gq}{w:gu}{mg:Str->Option gk}{base:Heap}{ps:List Str}{k:Nat}{f:Fn}(e:f=g)(h:FnOk P w K mg base CX0 k fa fd ps (spFF K g)):FnOk P w K mg base CX0 k fa fd ps (spFF K f):=by rw[e];exact h
end
section
variable{X:Cx}
theorem WX{o:Expr}{to:TE}{apos cpos:Pos}(ho:PE X o to)(hbase:attributeBase o "bit_length" X.env (eval o X.env)=eval o X.env:=by rfl)(hline:(apos.endLine==cpos.line)=true:=by rfl) :
 PE X (.Call (.Attribute o "bit_length" apos) [] [] cpos) (λσ H Q=>to σ H λv H1=>∃i,v=.int i/\Q (.int (Builtin.Int.intBits i:Nat)) H1):=by
 intro gj s σ H Q I h;refine Call_method0 hbase hline (thn (ho gj s σ H _ I h) λu s1 z9=>?_);clear 5 z9 v H1 I1 rv i ex q;subst ex;clear 5 rv t rfl;exact⟨"int", "int.bit_length",PySem.F.plainAttrs_int,ua5,PySem.F.type_int_bit_length,jR _ _ _,(λ_ e=>nomatch e),
  method0_gives ua5 PySem.F.entry_int_bit_length (jR _ _ _) (PySem.F.args_int_bit_length_1 _) (PySem.AutoIntG2.int_bit_length_int_0 i t) ⟨.int (Builtin.Int.intBits i:Nat),H1,I1.tok _,⟨_,rfl⟩,q⟩⟩
end
def Kk:D->M D
 |.int i=>ret (.int (Builtin.Int.intBits i:Nat))
 |_=>fail
section
variable{X:Cx}{pos:Pos}{e:Expr}{es:List Expr}
theorem Q3{o:Expr}{f:M D}{apos cpos:Pos}(ho:PE X o (RE X.K f))(hbase:attributeBase o "bit_length" X.env (eval o X.env)=eval o X.env:=by rfl)(hline:(apos.endLine==cpos.line)=true:=by rfl) :
 PE X (.Call (.Attribute o "bit_length" apos) [] [] cpos) (RE X.K (fUn f Kk)):=
 AE (WX ho hbase hline) λσ H Q z9=>by
  clear 5 z9 Oo c t fi r t' eq k;clear 5(Af eq)d t1 e1 eq;refine⟨Oo,c,t,fi,d,t1,e1,λx H1 c1 f1 s1 rx=>?_⟩;unfold Kk at eq
  split at eq
  .next i=>
   cases eq
   cases rx
   exact⟨i,rfl,k _ H1 c1 f1 s1 (.int _)⟩
  .cases eq
end
section
variable{X:Cx}{b elt:Expr}{pos:Pos}
end
structure ItOk2(K:gi)(J:It)(c:Cf)(H:Hp)(ds:List D):Prop where
 go:∀c' H' (i:Nat),Ext c H c' H'->i<ds.length->J.go i H'
 yld:∀c' H' (i:Nat) x H'' d,Ext c H c' H'->ds[i]?=some d->J.yld i H' x H''->∃p vs es,x=.ref p/\H' p=none/\H''=upd H' p (.tup vs)/\d=.tup es/\Reps K c' H' vs es
 stop:∀c' H',Ext c H c' H'->J.stop ds.length H'
inductive RI2(K:gi)(f:M (List D))(σ:L2.St)(H:Hp)(R:It->Hp->Prop):Prop where
 |mk (Oo:gm->Prop) (c:Cf) (t:T) (fi:FInv K Oo c t σ H) (ds:List D) (t':T) (e:f t=some (ds,t')) (k:∀J H' c',FInv K Oo c' t' σ H'->Stp Oo c H c' H'->ItOk2 K J c' H' ds->R J H'):RI2 K f σ H R
section
variable{X:Cx}{pos:Pos}{e:Expr}
end
section
variable{X:Cx}
end
section
variable{X:Cx}{pos:Pos}{e:Expr}{es:List Expr}
end
section
variable{X:Cx}{e ek:Expr}{p2 pos:Pos}{te:TE}{tk:TO}
end
section
variable{X:Cx}
end
section
variable{X:Cx}
end
section
variable{X:Cx}{pos:Pos}
end
section
variable{X:Cx}
end
section
variable{X:Cx}
end
section
variable{X:Cx}
end
section
variable{X:Cx}
end
section
variable{X:Cx}{pos:Pos}{e:Expr}{es:List Expr}
end
section
variable{X:Cx}
end
def IW:List (Int×M D)->M (List (Key×D))
 |[]=>ret []
 |(k,f)::r=>bnd f λd=>bnd (IW r) λps=>ret ((.inl k,d)::ps)
def Fm(l:List (Int×M D)):M D:=λt=>bnd (IW l) (FO t.S.length) {t with S:=t.S++[.dct []]}
noncomputable def P1:List (Key×D)->Option (List Int)
 |[]=>some []
 |(.inl k,_)::r=>(P1 r).map (k :: ·)
 |_=>none
section
variable{K:gi}{c:Cf}{H:Hp}
theorem KVR.has{us:List (Key×V)}{kvs:List (Key×D)}(r:KVR K c H us kvs)(k:Key):(D6 us k).isSome=(Bg kvs k).isSome:=by
 unfold KVR at r
 induction r with
 |nil=>rfl
 |@cons p q ps qs h t ih=>
   by_cases hk:p.1=k
   .have hq:q.1=k:=h.1.symm.trans hk;rw[HN hk];simp[Bg,uj1,hq]
   .have hq:¬q.1=k:=λz=>hk (h.1.trans z);have:Bg (q::qs) k=Bg qs k:=by simp[Bg,uj1,hq]
    rw[this,HM hk];exact ih
end
section
variable{X:Cx}{pos:Pos}{e b:Expr}
theorem Q4:PE X (.Dict [] [] pos) (RE X.K (Fm [])):=
 AE Ux λσ H Q z9=>by
  clear 5 z9 Oo c t fi r t' eq k;intro p hp;obtain⟨c1,f1,s1,e1⟩:=fi.newObj (o:=.dct []) (u:=.dK []) hp λc' H' ex hu=>⟨[],hu,.nil⟩;have e2:Fm [] t=some (.obj t.S.length,{t with S:=t.S++[.dct []]}):=by
   simp[Fm,IW,bnd,L2.ret,FO,AT]
  rw[e2] at eq
  cases eq
  exact k _ _ c1 f1 s1 (.obj e1)
end
noncomputable def tb(led:Bool)(pl:List Nat):SetTable:={mask:=7,place:=pl.toArray,dummies:=#[],finger:=0,led:=led,moves:=0,plain:=true}
noncomputable def pls:Nat->List (List Nat)
 |0=>[[]]
 |k+1=>(pls k).flatMap λl=>(List.range 8).filterMap λj=>if l.all (· < j) then some (l++[j]) else none
section
variable{P:gq}{w:gu}{A:Around}{E:gk->gn->Prop}{s:gn}
end
section
variable{P:gq}{w:gu}{A:Around}{I:gm}{fp wr:List gm}{G:Array GenState->Array GenState->Prop}{n:Nat}{Pr:Nat->gk->Prop}{St:Nat->gn->Prop}
end
section
variable{P:gq}{w:gu}{A:Around}{E:gk->gn->Prop}{s:gn}
end
section
variable{prog:gq}{w:gu}{A:Around}
end
section
variable{X:Cx}
end
section
variable{X:Cx}{pos:Pos}{e:Expr}
end
section
variable{P:gq}{w:gu}{A:Around}{E:gk->gn->Prop}{s:gn}
structure ZT(h:Heap)(z TI TO i1 i2 t1 t2:gm)(n:Nat):Prop where
 zz:IsZip h z TI TO .none
 ti:IsPair h TI (.ref i1) (.ref i2)
 ot:∃a b,IsPair h TO a b
 p1:h.IsTupleIter i1 t1 n
 p2:h.IsTupleIter i2 t2 n
end
section
variable{P:gq}{w:gu}{A:Around}{E:gk->gn->Prop}{s:gn}
end
noncomputable def Itz(K:gi)(a b:gm):It:=
 ⟨λi H=>∃xs ys x y,SqT K H a xs/\SqT K H b ys/\xs[i]?=some x/\ys[i]?=some y,λi H v H'=>∃p x y,v=.ref p/\H p=none/\(∀xs,SqT K H a xs->xs[i]?=some x)/\(∀ys,SqT K H b ys->ys[i]?=some y)/\H'=upd H p (.tup [x,y]),λi H=>∃xs ys,SqT K H a xs/\SqT K H b ys/\(xs.length<=i\/ys.length<=i)⟩
noncomputable def fK:List D->List D->List D
 |x::xs,y::ys=>.tup [x,y]::fK xs ys
 |_,_=>[]
section
variable{X:Cx}{e a b tg iter elt:Expr}{ifs:List Expr}{pos:Pos}{scope:Scope}{N':List Str}{n:Nat}{fr:List Nat}{f:M (List D)}{st:D->M Unit}{tst:M Bool}{el:M D}
end
def FD(S:List Ob):D->D
 |.tup ds=>.tup (ds.map (DL S))
 |d=>DL S d
theorem Mo{K:gi}{c:Cf}{S:List Ob}{H:Hp}(s:SInv K c S H):∀{vs:List V}{ds:List D},Reps K c H vs ds->GK (ds.map (DL S))=true->Reps K c0 H vs (ds.map (DL S))
 |_,_,.nil,_=>.nil
 |_,_,.cons h t,p=>by
   simp only[ul0,GK,uh1] at p;exact .cons (BU s h p.1) (Mo s t p.2)
theorem N6{K:gi}{c:Cf}{S:List Ob}{H:Hp}{v:V}{d:D}(s:SInv K c S H)(r:Rep K c H v d)(p:B7 (FD S d)=true):Rep K c0 H v (FD S d):=by
 cases r with
 |tup h n q=>exact .tup h (Lk _) (Mo s q (by simpa[FD,B7] using p))
 |@obj a k hk=>exact BU s (.obj hk) p
 |non=>exact BU s .non p
 |bl b=>exact BU s (.bl b) p
 |int b=>exact BU s (.int b) p
 |str b=>exact BU s (.str b) p
 |ty b=>exact BU s (.ty b) p
 |lst h n q=>exact BU s (.lst h n q) p
 |scr h=>exact BU s (.scr h) p
 |dic h n=>exact BU s (.dic h n) p
 |exc a b n f q=>exact BU s (.exc a b n f q) p
def eqT(g:Bool->Bool)(x y:D):M D:=λt=>if (B7 (FD t.S x)&&B7 (FD t.S y))=true then(eqN EQD (FD t.S x) (FD t.S y)).map λb=>(.bl (g b),t) else none
theorem Xs{K:gi}{g:Bool->Bool}:Bb K (Ql K g) (eqT g):=λ{Oo c t σ H x y dx dy r t' Q} f rx ry eq k=>by
 unfold eqT at eq
 split at eq
 .next hp=>
  rw[uh1] at hp;clear 5(uc0.mp eq)b e1 e2
  cases e2
  exact⟨c0,_,_,b,N6 f.s rx hp.1,N6 f.s ry hp.2,e1,k _ H c f .refl (.bl (g b))⟩
 .cases eq
def gd:List D->M D
 |[.obj k,.ty m]=>λt=>match t.S[k]? with
   |some (.lst _)=>(F3 "list" m).map λb=>(.bl b,t)
   |_=>none
 |ds=>C7 ds
section
variable{X:Cx}{elt:Expr}{pos:Pos}{e:Expr}{es:List Expr}
theorem Q5{o:Expr}{f:M D}{g:M (List D)}{apos cpos:Pos}(ho:PE X o (RE X.K f))(ha:PA X (e::es) (RA X.K g))
 (hbase:attributeBase o "extend" X.env (eval o X.env)=eval o X.env:=by rfl)
 (hfew:((backTo cpos (starEach (e::es) X.env)).all (λx=>!x.1)&&(backToKw cpos (keywordEach [] X.env)).all (λx=>x.1.isSome)&&decide ((e::es).length+([]:List Keyword).length+(if ([]:List Keyword).isEmpty then 0 else 1)<30))=true:=by rfl)
 (hline:(apos.endLine==cpos.line)=true:=by rfl) (hs:starEach (e::es) X.env=(false,eval e X.env)::starEach es X.env:=by rfl) (hplain:(backTo cpos (starEach es X.env)).any (·.1)=false:=by rfl) :
 PE X (.Call (.Attribute o "extend" apos) (e::es) [] cpos) (RE X.K (objM EW f g)):=
 AE (MI ub5 ir iu O0 ho ha hbase hfew hline hs hplain) λ_ _ _ q=>RE.objM Pa q
end
section
variable{X:Cx}{gj:List (gm×Obj)}{σ:St}{H:Hp}{s:gn}{a:gm}{kvs:List (Key×V)}{o:Obj}
end
section
variable{X:Cx}
end
section
variable{X:Cx}
end
open SeqAt
def QH(K:gi)(H:Hp)(v w:V):Prop:=∃c dv dw,Rep K c H v dv/\Rep K c H w dw/\eqN EQD dv dw=some true
def Yg(K:gi)(H:Hp)(v w:V):Prop:=QH K H v w\/∃a b us ts,v=.ref a/\w=.ref b/\H a=some (.dK us)/\H b=some (.dK ts)/\us.length=ts.length/\(∀kv∈us,∃n:Int,kv.1=Sum.inl n)/\(∀kv∈ts,∃n:Int,kv.1=Sum.inl n)/\∀kv∈us,∃z,D6 ts kv.1=some z/\QH K H kv.2 z
def gf(K:gi)(b:Bool):R2:=λx y H Q=>∃p q vs ws,x=.ref p/\y=.ref q/\H p=some (.lst vs)/\H q=some (.lst ws)/\vs.length=ws.length/\(∀(j:Nat) v w,vs[j]?=some v->ws[j]?=some w->Yg K H v w)/\Q (.bl b) H
def MX(S:List Ob)(x y:D):Bool:=B7 (DL S x)&&B7 (DL S y)&&decide (eqN EQD (DL S x) (DL S y)=some true)
def fP(S:List Ob)(x y:D):Bool:=match x,y with
 |.obj m,.obj n=>match S[m]?,S[n]? with
   |some (.dct kvs),some (.dct lvs)=>kvs.length==lvs.length&&(P1 kvs).isSome&&(P1 lvs).isSome&&kvs.all (λkv=>match Bg lvs kv.1 with|some e=>MX S kv.2 e|none=>false)
   |_,_=>MX S x y
 |_,_=>MX S x y
section
variable{X:Cx}{pos:Pos}
end
structure ZL(h:Heap)(z TI TO i1 i2 t1 t2:gm)(n:Nat):Prop where
 zz:IsZip h z TI TO .none
 ti:IsPair h TI (.ref i1) (.ref i2)
 ot:∃a b,IsPair h TO a b
 p1:h.IsListIter i1 t1 n
 p2:h.IsListIter i2 t2 n
section
variable{X:Cx}{a b:Expr}{pos:Pos}
end
open PySem.W
section
variable{prog:gq}{w:gu}{A:Around}{h:Heap}{g:Array GenState}{d:Drawn}{t:Nat}{os:OsState}{R:Result->gn->Prop}
variable{nm q:Str}{C N fI:gm}{bs bm bmB:List gk}{hdct:Bool}{sn:List Str}{sub:List gk}{ab:Bool}{col:Option Bool}{dd:Option gm}{k0 k1 k2 k3 k5:Option gk}{B newId initId:String}{mN:Str->Option gk}
abbrev excObj(C tp:gm):Obj:={cls:=.ref C,data:=.fields #[.ref tp,.none,.none,.none,.bool false,.none]}
abbrev EJ(h:Heap)(C:gm)(us:List gk):Heap:=(h.push {cls:=.type "tuple",data:=.seq us.toArray}).push (excObj C h.objs.size)
theorem Uj(F:ExcBaseFacts B newId initId bmB)(T:OwnTail h bmB bm){us:List gk}(hC:h.get? C=some (excClassObj nm q C N bs bm hdct sn sub ab col dd k0 k1 k2 k3 k5 newId))(hn:h.Ns N mN)(hni:mN "__init__" = some (.ref fI))
 (hb:Looks (model prog w) h (bindSpecial (.ref fI) (.ref (h.objs.size+1))) (.ref fI,[.ref (h.objs.size+1)])) (hus:us.length<=sizeLine)
 (hq:codeAny (model prog w) (A.under (.builtin "type.__call__" ⟨.ref C::us,[]⟩)) (.call (.ref fI) ⟨.ref (h.objs.size+1)::us,[]⟩) (InitBack (h.objs.size+1) R) ⟨EJ h C us,g,d,t,os⟩) :
 codeAny (model prog w) A (.call (.ref C) ⟨us,[]⟩) R ⟨h,g,d,t,os⟩:=by
 have c1:=tc_lookup;have c2:=tc_bind (.ref C);have ty:(⟨h,g,d,t,os⟩:gn).TypeIs (.ref C) "type":=⟨_,hC,rfl⟩;refine codeAny_of_tree ?_;show wpAny _ _ (callAny (.ref C) _) _ _ _
 repeat (any_goals (first
  |assumption
  |with_reducible refine jr hC ?_
  |wp_step))
 refine⟨rfl,codeAny_call_builtin_at (jn _ (by decide +kernel)) entry_typeCall (ie hC ?_)⟩
 repeat (first
  |with_reducible refine jr hC ?_
  |with_reducible refine wpAny_madeBy_exc hC ?_
  |wp_step)
 refine ig (jn _ F.quiet) (wpAny_check_new_subT F T hC (codeAny_exc_new_subT F T hC ?_ hus))
 change wpAny _ _ _ _ _ (Shared.mk (EJ h C us) g d t os)
 have kp:∀b o,h.get? b=some o->(EJ h C us).get? b=some o:=λb o e=>ub8 _ (ub8 _ e);have he:(EJ h C us).get? (h.objs.size+1)=some {cls:=.ref C,data:=.fields #[.ref h.objs.size,.none,.none,.none,.bool false,.none]}:=by heap_get
 have n1:(EJ h C us).Ns N mN:=hn.keeps kp;have cC:(Value.ref C::bm).contains (.ref C)=true:=by simp
 unfold isInstance
 repeat (first
  |with_reducible refine jr he ?_
  |(with_reducible refine jk (kp _ _ hC) ?_;rw[cC])
  |wp_step)
 show wpAny _ _ (typeLookup (.ref C) _) _ _ _;refine wpAny_typeLookup_tail (kp _ _ hC) n1 (T.keeps kp) F.mroIs F.init.lookup ?_;rw[hni];refine um1 (un8 ((hb.keeps kp).at ?_));refine un8 (jQ (jH hq λr s' z=>?_))
 cases r with
 |error e=>exact z
 |ok f=>
   cases f with
   |ret v=>
     clear 5 z rfl z;exact un9 (un9 z)
   |_=>exact z.elim
end
open PySem.Builtin PySem.Builtin.ObjectAttr
theorem Ss(self:gk):refuseLoop self "__setattr__" [.type "ValueError",.type "Exception",.type "BaseException",.type "object"]=pure ():=by
 kernel_rfl
abbrev Kz(C P:gm):List gk:=[.ref C,.ref P,.type "ValueError",.type "Exception",.type "BaseException",.type "object"]
theorem Qo(self:gk)(C P:gm):refuseLoop self "__setattr__" (Kz C P)=pure ():=by
 rw[Kz,refuseLoop_ref,refuseLoop_ref];exact Ss self
section
variable{prog:gq}{w:gu}{A:Around}{s:gn}{K:gi}{x C P tp:gm}{R:Result->gn->Prop}{name:Str}{v:gk}{tk:Tok}{cd:ClassData}
theorem WW(X:K.In s.heap)(hx:s.heap.get? x=some (excObj C tp))(hc:clsIn K C=some cd)(hmr:cd.mro=Kz C P)(ha:findIn K (.ref C) name=some none)
 (h:wpAny (model prog w) A.in1 (storeInOwnDict (.ref x) (.ref C) (.str name tk) name v false) (λfin s'=>match fin with | .done f=>R (.ok f) s' | .again c'=>c'.quiet=true/\codeAny (model prog w) A c' R s') (λe s'=>R (.error e) s') s) :
 codeAny (model prog w) A (.call (.builtin "object.__setattr__") ⟨[.ref x,.str name tk,v],[]⟩) R s:=by
 have SF:=PySem.F.store_object;have I:InstAt s.heap x (excObj C tp) C none:=⟨hx,rfl,rfl,trivial⟩;have ob:Looks (model prog w) s.heap (isInstance (.ref x) (.type "object")) true:=I.type.andThen (looks_mroIn X (by unfold mroIn;rw[hc,Option.bind_some,hmr];rfl));refine jh SF.slot.plain SF.entry (@check_slot (model prog w) _ _ s "object.__setattr__" "object" "__setattr__" (.ref x) [.str name tk,v] [] _ SF.kind SF.split ob (SF.args (.ref x) (.str name tk) v) ?_);have mr:Looks (model prog w) s.heap (mroOf (.ref C)) (Kz C P):=by rw[<-hmr];exact(looks_clsIn X hc).andThen .now
 rw[osa_eq,refuse_eq];refine un8 (un8 (I.type.here (un8 (mr.here ?_))));rw[Qo];refine un9 (un8 (I.type.here (un8 ((looks_findIn X ha).here ?_))));exact un8 (un9 h)
theorem XL{E:gk->gn->Prop}{Q:Unit->gn->Prop}(X:K.In s.heap)(hx:s.heap.get? x=some (excObj C tp))(hs:findIn K (.ref C) "__setattr__" = some (some (.builtin "object.__setattr__")))(hc:clsIn K C=some cd)(hmr:cd.mro=Kz C P)(hd:cd.hasDict=true)(ha:findIn K (.ref C) name=some none)
 (h:∀h',(∀b o,b≠x->s.heap.get? b=some o->h'.get? b=some o)->h'.get? x=some {excObj C tp with dict:=some s.heap.objs.size}->h'.Ns1 s.heap.objs.size (λy=>if y=name then some v else none)->Q () {s with heap:=h',toks:=s.toks+2}) :
 wpAny (model prog w) A (setAttr (.ref x) name v) Q E s:=by
 have I:InstAt s.heap x (excObj C tp) C none:=⟨hx,rfl,rfl,trivial⟩;refine set_plain X I hs (WW (s:={s with toks:=s.toks+1}) X hx hc hmr ha ?_);refine un8 (un9 (un8 (un8 (wpAny_loadPart (s:={s with toks:=s.toks+1}) hx (un8 (Looks.here (s:={s with toks:=s.toks+1}) (looks_clsIn X hc) ?_))))));rw[hd,jZ (by decide)];show wpAny _ _ (alloc _ >>= λdx=>update x _ >>= λ_=>pure (some dx)) _ _ _;have hx1:(s.heap.push emptyDict).get? x=some (excObj C tp):=ub8 _ hx;have hne:s.heap.objs.size≠x:=um5 (um2 hx);refine un8 (wpAny_alloc (s:={s with toks:=s.toks+1}) (un8 (wpAny_update hx1 (un9 ?_))));have hx2:((s.heap.push emptyDict).update x λo=>{o with dict:=some s.heap.objs.size}).get? x=some {excObj C tp with dict:=some s.heap.objs.size}:=uc9 _ hx1 rfl;have hk:∀b o,b≠x->s.heap.get? b=some o->((s.heap.push emptyDict).update x λo=>{o with dict:=some s.heap.objs.size}).get? b=some o:=λb o hb e=>(ub9 _ _ (Ne.symm hb)).trans (ub8 _ e);have hdx:((s.heap.push emptyDict).update x λo=>{o with dict:=some s.heap.objs.size}).get? s.heap.objs.size=some emptyDict:=(ub9 _ _ (Ne.symm hne)).trans (ud7 _ rfl);have n1:((s.heap.push emptyDict).update x λo=>{o with dict:=some s.heap.objs.size}).Ns1 s.heap.objs.size λ_=>none:=⟨_,#[],_,hdx,rfl,(λe he=>by simp at he),(by simp[UniqKeys]),λ_=>rfl⟩;refine un8 (un9 (un8 ?_));refine wpAny_nsSet1 n1 λh' n2 sb=>?_;clear 5(n2.count (PySem.Within.cons name v (ns:=[]) (λy u=>absurd rfl u)))oD esD epD hoD hdD hcD;refine un8 (wpAny_lookBehind hoD (by rw[hdD];exact pastItsLine_dict (um4 hcD (by show 1<=_;decide))) ?_);exact un9 (h h' (λb o hb e=>by
  by_cases hb2:b=s.heap.objs.size
  .subst hb2;exact absurd (um2 e) (uk8 _)
  .exact(sb.2 b hb2).trans (hk b o hb e)) ((sb.2 x (Ne.symm hne)).trans hx2) n2)
end
section
variable{qx:Bool}
def XRec(qx:Bool)(h:Heap)(x C:gm)(dx:Option gm)(tb:gk):Prop:=∃(o:Obj) (vs:Array gk),h.get? x=some o/\o.cls=.ref C/\o.dict=dx/\o.data=.fields vs/\vs[1]?=some tb/\(qx=true->vs[2]?=some .none/\4<vs.size)
theorem YD{qx:Bool}{vs:Array gk}{v:gk}(h:qx=true->vs[2]?=some .none/\4<vs.size):qx=true->(vs.setIfInBounds 1 v)[2]?=some .none/\4<(vs.setIfInBounds 1 v).size:=λz=>by
 rw[Array.getElem?_setIfInBounds_ne (by decide),Array.size_setIfInBounds];exact h z
theorem XRec.to{qx:Bool}{h:Heap}{x C:gm}{dx:Option gm}{tb:gk}(r:XRec true h x C dx tb):XRec qx h x C dx tb:=by
 clear 5 r o vs h1 h2 h3 h4 h5 h6;exact⟨o,vs,h1,h2,h3,h4,h5,λ_=>h6 rfl⟩
def XTb(h:Heap)(T:gm):Prop:=∃(o:Obj) (ts:Array gk),h.get? T=some o/\o.data=.fields ts/\ts[3]?=some .none
structure XKeep(fs ch:List gm)(h h':Heap):Prop where
 keep:∀b o,b∉ch->b∉fs->h.get? b=some o->h'.get? b=some o
 slot:∀b o,b∉ch->h.get? b=some o->∃sl,h'.get? b=some {o with slots:=sl}
section
variable{M:Model}{A:Around}{E:gk->gn->Prop}{s:gn}{env:Env}{outer:List Env}{base:Heap}{L x C:gm}{dx:Option gm}{tb:gk}{Q:Unit->gn->Prop}
theorem NI{o:Obj}{vs:Array gk}(hd:o.data=.fields vs)(f:Array gk->Array gk):(o.mapFields f).data=.fields (f vs)/\(o.mapFields f).cls=o.cls/\(o.mapFields f).dict=o.dict:=by
 clear 5 o c d dt sl
 cases hd
 exact⟨rfl,rfl,rfl⟩
end
end
section
variable{qx:Bool}
abbrev VE:List gk:=[.type "ValueError",.type "Exception",.type "BaseException",.type "object"]
structure XCl(K:gi)(C:gm)(bm:List gk):Prop where
 ex:∃cd dd k0 k1 k2 k3 k5,K.lookup C=some {cls:=.type "type",dict:=dd,data:=.cls cd,slots:=#[k0,k1,k2,k3,some (.builtin "ValueError.__new__"),k5]}/\cd.mro=.ref C::bm/\cd.hasDel=false/\cd.hasDict=true/\nsOkIn K cd.ns=true
 tl:tailIn K VE bm=true
noncomputable def MK(K:gi)(C:gm)(bm:List gk):Bool:=tailIn K VE bm&&match K.lookup C with
 | some ⟨.type "type",_,.cls cd,sl⟩=>(match sl.toList with
   |[_,_,_,_,some (.builtin n),_]=>n == "ValueError.__new__" && cd.mro==.ref C::bm && !cd.hasDel&&cd.hasDict&&nsOkIn K cd.ns
   |_=>false)
 |_=>false
variable{K:gi}{C:gm}{bm:List gk}
theorem XCl.of_in(q:MK K C bm=true):XCl K C bm:=by
 unfold MK at q;rw[uh1] at q;refine⟨?_,q.1⟩;have q:=q.2
 split at q
 .rename_i dd cd sl ho
  split at q
  .rename_i k0 k1 k2 k3 n k5 hs;simp only[uh1,jP,Bool.not_eq_true'] at q;obtain⟨⟨⟨⟨rfl,h1⟩,h2⟩,h3⟩,h4⟩:=q;have hsl:sl=#[k0,k1,k2,k3,some (.builtin "ValueError.__new__"),k5]:=by
    cases sl
    exact jT Array.mk hs
   exact⟨cd,dd,k0,k1,k2,k3,k5,by rw[ho,hsl],h1,h2,h3,h4⟩
  .cases q
 .cases q
theorem XCl.obj{K:gi}{C:gm}{bm:List gk}{h:Heap}(c:XCl K C bm)(X:K.In h):∃nm q N bs sn sub ab col dd k0 k1 k2 k3 k5,h.get? C=some (excClassObj nm q C N bs bm true sn sub ab col dd k0 k1 k2 k3 k5 "ValueError.__new__")/\h.Ns N (h.nsMap N):=by
 obtain⟨⟨nm,bs,mro,ns,qn,hd,sn,sub,ab,col,del⟩,dd,k0,k1,k2,k3,k5,h1,h2,h3,h4,h5⟩:=c.ex;dsimp only at h2 h3 h4 h5;subst h2 h3 h4;exact⟨nm,qn,ns,bs,sn,sub,ab,col,dd,k0,k1,k2,k3,k5,X _ _ h1,.of_isNs (isNs_of_in X h5)⟩
variable{h:Heap}
theorem XCl.tail(c:XCl K C bm)(X:K.In h):OwnTail h VE bm:=tail_of_in X c.tl
theorem XCl.has(c:XCl K C bm)(X:K.In h):(Value.ref C::bm).contains (.type "BaseException")=true:=by
 rw[List.contains_cons,(c.tail X).hasType (b:=true) (by decide +kernel),Bool.or_true]
section
variable{M:Model}{A:Around}{E:gk->gn->Prop}{env:Env}{K:gi}{C:gm}{bm:List gk}{s:gn}
theorem UK{t:Sem gk}{Q:Flow->gn->Prop}(c:XCl K C bm)(hh:A.handled=none)
 (h:wpAny M A t (λv s1=>∃x dx,v=.ref x/\K.In s1.heap/\XRec qx s1.heap x C dx .none/\E v s1) E s):wpAny M A (raiseStmt env (some t) none) Q E s:=by
 unfold raiseStmt;refine un8 (uo0 h (λv s1 q=>?_) λ_ _ z=>z);obtain⟨x,dx,rfl,X,⟨o,vs,hx,hc,hd,hdt,h1,_⟩,hE⟩:=q;obtain⟨nm,q,N,bs,sn,sub,ab,col,dd,k0,k1,k2,k3,k5,hC,_⟩:=c.obj X;have hb:=c.has X;clear 5 s1 hp g d tk os
 repeat (first
  |(with_reducible refine jr hx ?_;rw[hc])
  |with_reducible refine jr hC ?_
  |(with_reducible refine jk hC ?_;rw[hb])
  |with_reducible refine un7 hx hdt h1 ?_
  |wp_step)
 exact wpAny_raiseNew_none hh hE
end
def CX1(qx:Bool)(P:gq)(w:gu):CXT:=λouter H s E e s'=>∃(x C:gm) (dx:Option gm) (T:gm) (H':Hp),e=.ref x/\s'.os=s.os/\AllBare s'.gens/\Un (frs outer) [] H H' s.heap s'.heap/\HOk P w H' s'.heap/\
 H' x=some (.ext (L2.XIs qx x C dx))/\s.heap.objs.size<=x/\s.heap.objs.size<=T/\T≠x/\H' T=none/\XRec qx s'.heap x C dx (.ref T)/\XTb s'.heap T/\E (.ref x) dx H'
variable{x:gm}{dx:Option gm}
theorem XRec.is{tb:gk}(r:XRec qx h x C dx tb):L2.XIs qx x C dx h:=by
 obtain⟨o,vs,h1,h2,h3,h4,_,h5⟩:=r;exact⟨o,vs,h1,h2,h3,h4,h5⟩
theorem XIs.stay{h1 h2:Heap}(r:L2.XIs qx x C dx h1)(k:∀o,h1.get? x=some o->h2.get? x=some o):L2.XIs qx x C dx h2:=by
 clear 5 r o vs e q;exact⟨o,vs,k o e,q⟩
theorem No{P:gq}{w:gu}{H:Hp}(r:L2.XIs qx x C dx h):ObjOk P w H h x (.ext (L2.XIs qx x C dx)):=
 ⟨r,let ⟨o,_,e,_⟩:=r;⟨o,e⟩,λ_ _ q k=>XIs.stay q k⟩
section
variable{X:Cx}{gj:List (gm×Obj)}{σ:St}{H H':Hp}{s s':gn}{h':Heap}{x C T:gm}{dx:Option gm}{ch:List gm}
theorem U0(k:XKeep (frs X.stack) ch s.heap h')(hT:∀b∈ch,b=x\/b=T):Un (frs X.stack) (x::T::[]) H H s.heap h':=by
 have nch:∀b:gm,b∉(x::T::[])->b∉ch:=λb hb z=>hb (by rcases hT b z with rfl|rfl<;>simp);refine⟨λb o e n hb hx=>k.keep b o (nch b hx) hb e,λb o e n hb hx=>k.slot b o (nch b hx) e,λb o e n _=>n,λb o e hx=>?_,λ_ _ e=>e,λ_ _ _ e=>e,λb ps e=>⟨#[],by rw[e];simp⟩⟩;clear 5(k.slot b o (nch b hx) e)sl q;exact⟨_,q⟩
theorem Inv.left(I:Inv X gj σ H s)(hx:H x=some (.ext (L2.XIs qx x C dx)))(hT:H T=none)(nx:X.s₀.heap.objs.size<=x)(nT:X.s₀.heap.objs.size<=T)(k:XKeep (frs X.stack) ch s.heap h')(hc:∀b∈ch,b=x\/b=T)(r:L2.XIs qx x C dx h')
 (oT:∀y c,X.env.cells.lookup y=some c->c≠T) (lT:T≠X.env.locals) (pT:∀p∈X.pn++gj,p.1≠T):Inv X gj σ H {s with heap:=h'}:=by
 have nfr:∀b u,H b=some u->b∉frs X.stack:=λb u e z=>by rw[I.stkFree b z] at e;cases e
 refine I.call (g':=s.gens) (t':=s.toks) (d':=s.drawn) (ch:=[x,T]) (U0 k hc) (λb u e=>?_) I.bare λb hb=>?_
 .by_cases hb:b=x
  .subst hb;rw[hx] at e;cases e;exact No r
  .refine(I.hok b u e).stay (λc v hcc q=>k.keep c v ?_ ?_ q) (λ_ q=>q) λ_ _ q=>q
   .intro z;rcases hcc with rfl|hcc
    .rcases hc c z with q|q
     .exact hb q
     .rw[q,hT] at e;cases e
    .rcases hc c z with q|q
     .rw[q,hx] at hcc;cases hcc
     .rw[q,hT] at hcc;cases hcc
   .rcases hcc with rfl|hcc
    .exact nfr _ _ e
    .exact nfr _ _ hcc
 .have q:b=x\/b=T:=by simpa using hb
  rcases q with rfl|rfl
  .exact⟨.inr nx,(λz=>by rw[z,I.free] at hx;cases hx),(λy c e z=>by subst z;rw[I.freeC y c e] at hx;cases hx),λp hp z=>by rw[<-z,(I.pin p hp).2.1] at hx;cases hx⟩
  .exact⟨.inr nT,lT,oT,pT⟩
theorem Inv.raised(I:Inv X gj σ H s){E:XK}{e:gk}(q:CX1 qx X.prog X.w X.stack H s E e s'):∃(x C:gm) (dx:Option gm) (T:gm) (H':Hp),e=.ref x/\Inv X gj σ H' s'/\H' x=some (.ext (L2.XIs qx x C dx))/\s.heap.objs.size<=x/\s.heap.objs.size<=T/\T≠x/\H' T=none/\XRec qx s'.heap x C dx (.ref T)/\XTb s'.heap T/\E (.ref x) dx H':=by
 clear 5 q x C dx T H' he os bare un hok hx nx nT ne hT r tb q;clear 5 s' hh g d t os';obtain rfl:os'=s.os:=os;exact⟨x,C,dx,T,H',he,I.call (h':=hh) (g':=g) (d':=d) (t':=t) (ch:=[]) un hok bare (λb z=>absurd z (by simp)),hx,nx,nT,ne,hT,r,tb,q⟩
theorem Inv.newT(I:Inv X gj σ H s)(h:s.heap.objs.size<=T):T≠X.env.locals/\(∀y c,X.env.cells.lookup y=some c->c≠T)/\∀p∈X.pn++gj,p.1≠T:=by
 have far:∀b o,s.heap.get? b=some o->b≠T:=λb o e z=>absurd (ue3 (um2 e) h) (by rw[z];exact uk8 _);refine⟨λz=>absurd I.lt (by rw[<-z];exact Nat.not_lt.mpr h),λy c e=>?_,λp hp=>far _ _ (I.pin p hp).1⟩;obtain⟨v,o,ho,_⟩:=I.cell y c e;exact far c o ho
end
section
variable{P:gq}{w:gu}{K:gi}{mg:Str->Option gk}{base:Heap}{N:List Str}{qual:Str}{scope:Scope}{f:gm}{cd:gk}{A:Around}{outer:List Env}{s₀:gn}{H₀:Hp}{E:XK}
end
end
noncomputable def exO(x C tp:gm):HO:=.ext λh=>h.get? x=some (excObj C tp)
noncomputable def PF(x C tp dx:gm):HO:=.ext λh=>h.get? x=some {excObj C tp with dict:=some dx}
theorem YE{P:gq}{w:gu}{H:Hp}{h:Heap}{x C tp:gm}(e:h.get? x=some (excObj C tp)):ObjOk P w H h x (exO x C tp):=⟨e,⟨_,e⟩,λ_ _ p k=>k _ p⟩
theorem V3{P:gq}{w:gu}{H:Hp}{h:Heap}{x C tp dx:gm}(e:h.get? x=some {excObj C tp with dict:=some dx}):ObjOk P w H h x (PF x C tp dx):=⟨e,⟨_,e⟩,λ_ _ p k=>k _ p⟩
structure XAt(K:gi)(C P:gm)(f:Str):Prop where
 cl:XCl K C (.ref P::VE)
 set:findIn K (.ref C) "__setattr__" = some (some (.builtin "object.__setattr__"))
 no:findIn K (.ref C) f=some none
theorem XCl.cls{K:gi}{C:gm}{bm:List gk}(c:XCl K C bm):∃cd,clsIn K C=some cd/\cd.mro=.ref C::bm/\cd.hasDict=true:=by
 obtain⟨cd,dd,k0,k1,k2,k3,k5,h1,h2,_,h4,_⟩:=c.ex;exact⟨cd,by unfold clsIn;rw[h1],h2,h4⟩
def sXF(K:gi)(P:gm)(ta tv:TE)(f:Str):TS:=λD σ H=>tv σ H λy H1=>ta σ H1 λx H2=>∃a C tp,x=.ref a/\H2 a=some (exO a C tp)/\XAt K C P f/\
 ∀dx,H2 dx=none->dx≠a->D.nx σ (upd (upd H2 dx (.xd [(f,y)])) a (PF a C tp dx))
theorem bQ{X:Cx}{P:gm}{o value:Expr}{ta tv:TE}{f:Str}{pos' pos:Pos}(ha:PE X o ta)(hv:PE X value tv)(hs:swapsWith value (some (.Attribute o f pos')) pos.line X.env=pure false):PS X (.Assign [.Attribute o f pos'] value pos) (sXF X.K P ta tv f):=by
 intro gj s σ H D I h;refine gz (thn (hv gj s σ H _ I h) λu s1 ⟨y,H1,I1,ry,q⟩=>thn (ha gj s1 σ H1 _ I1 q) λov s2 z9=>?_) hs;clear 5 z9 x H2 I2 rx a C tp ex ea c q2;subst ex;obtain rfl:ov=Value.ref a:=rx;clear 5 c.cl.cls cd c1 c2 c3;have hx:s2.heap.get? a=some (excObj C tp):=(I2.hok a _ ea).1;refine XL I2.kIn hx c.set c1 c2 c3 c.no λh' k e n=>?_;have fr:=I2.hok.fresh (un4 s2.heap.objs.size);have ne:s2.heap.objs.size≠a:=(λz=>by rw[z,ea] at fr;cases fr)
 have nn:∀b u,H2 b=some u->b≠s2.heap.objs.size:=λb u z=>AH z fr;have na:∀b u,s2.heap.get? b=some u->H2 b=none->b≠a:=λb u _ z w'=>by rw[w',ea] at z;cases z
 refine⟨σ,_,I2.un (h':=h') (t':=s2.toks+2) ⟨λb u e1 e2 _ _=>k b u (na b u e1 e2) e1,λb u e1 e2 _ _=>⟨u.slots,k b u (na b u e1 e2) e1⟩,λb u e1 e2 _=>?_,λb u e1 _=>?_,λb xs e1=>?_,λb o' u e1=>?_,λb ps e1=>⟨#[],?_⟩⟩ λb u e1=>?_,q2 s2.heap.objs.size fr ne⟩
 .rw[Aq (na b u e1 e2),Aq (um3 (um2 e1))];exact e2
 .by_cases hb:b=a
  .subst hb;exact⟨_,e⟩
  .exact⟨_,k b u hb e1⟩
 .rw[Aq (λz=>by rw[z,ea] at e1;cases e1),Aq (nn _ _ e1)];exact e1
 .rw[Aq (λz=>by rw[z,ea] at e1;cases e1),Aq (nn _ _ e1)];exact e1
 .rw[Aq (λz=>by rw[z,ea] at e1;cases e1),Aq (nn _ _ e1),e1];simp
 .by_cases hb:b=a
  .subst hb;rw[AC] at e1;cases e1;exact V3 e
  .rw[Aq hb] at e1
   by_cases hb2:b=s2.heap.objs.size
   .subst hb2;rw[AC] at e1;cases e1
    refine⟨_,n,λg=>?_⟩
    by_cases hg:g=f
    .subst hg;simp only[List.lookup,ui1,jW];exact ry
    .have hgb:(g==f)=false:=ji.mpr hg;simp only[List.lookup,hgb,jZ hg];trivial
   .rw[Aq hb2] at e1;refine(I2.hok b u e1).stay (λz v hz q=>k z v ?_ q) (λz q=>?_) λz xs q=>?_
    .rcases hz with rfl|hz
     .exact hb
     .intro w';rw[w',ea] at hz;cases hz
    .rw[Aq (λz=>by rw[z,ea] at q;cases q),Aq (nn _ _ q)];exact q
    .rw[Aq (λz=>by rw[z,ea] at q;cases q),Aq (nn _ _ q)];exact q
section
variable{qx:Bool}
theorem Qc{K:gi}{h:Heap}{N:gm}{m:Str->Option gk}{n:Str}{v:gk}(X:K.In h)(G:h.Ns N m)(e:nsIn K N n=some (some v)):m n=some v:=by
 obtain⟨o,es,ep,ho,hd,_,hf⟩:=G;unfold nsIn at e
 split at e
 .next c d es' n' sl q=>
  have z:=X _ _ q;rw[ho] at z
  cases z
  cases hd
  split at e
  .next en he=>
   rw[<-hf];unfold nsFind findBy;rw[<-ue6,he];simpa using e
  .split at e<;>cases e
 .cases e
structure XMk(K:gi)(C P f:gm):Prop where
 cl:XCl K C (.ref P::VE)
 init:∃cd,clsIn K C=some cd/\nsIn K cd.ns "__init__" = some (some (.ref f))
 fn:isFn K (.ref f)=true
 kp:keepIn K (.ref C)=true
def spI(K:gi)(P:gm)(a:Str):Sp:=λvs H Q _=>∃x C tp v,vs=[.ref x,v]/\H x=some (exO x C tp)/\XAt K C P a/\∀dx,H dx=none->dx≠x->Q .non (upd (upd H dx (.xd [(a,v)])) x (PF x C tp dx))
section
variable{X:Cx}{k:Nat}{f C P:gm}{fd:gy}{gj:List (gm×Obj)}{σ:St}{H:Hp}{s:gn}{Q:gk->gn->Prop}{us:List gk}{vs:List V}{a:Str}{ps:List Str}{v:V}{u:gk}
theorem Sw(M:XMk X.K C P f)(ha:XAt X.K C P a)(F:FnOk X.prog X.w X.K X.mg X.base CX0 k f fd ps (spI X.K P a))(hr:Room (k+1) X.A)(hb:Binds X.K fd ps [])(I:Inv X gj σ H s)(r:RelV v u)
 (h:∀s' x dx,Inv X gj σ (upd (upd H dx (.xd [(a,v)])) x (.ext (L2.XIs qx x C (some dx)))) s'->H x=none->H dx=none->dx≠x->s.heap.objs.size<=x->XRec true s'.heap x C (some dx) .none->Q (.ref x) s'):wpAny (model X.prog X.w) X.A (call (.ref C) [u]) Q X.xe s:=by
 clear 5(M.cl.obj I.kIn)nm q N bs sn sub ab col dd k0 k1 k2 k3 k5 hC hN;have hni:s.heap.nsMap N "__init__" = some (.ref f):=by
  clear 5 M.init cd c1 c2;refine Qc I.kIn hN ?_;unfold clsIn at c1
  split at c1
  .next l=>
   cases c1
   have z:=I.kIn _ _ l;rw[hC] at z
   cases z
   exact c2
  .cases c1
 have I1:Inv X gj σ (upd H (s.heap.objs.size+1) (exO (s.heap.objs.size+1) C s.heap.objs.size)) {s with heap:=EJ s.heap C [u]}:=by
  refine I.laid (t':=s.toks) (λb o e=>ub8 _ (ub8 _ e)) (un6 _) (YE ?_);show((s.heap.push _).push _).get? _=_
  heap_get
 have hx0:=I.hok.fresh (un6 s.heap.objs.size);have r2:Vals [V.ref (s.heap.objs.size+1),v] [Value.ref (s.heap.objs.size+1),u]:=.cons rfl (.cons r .nil);have hsp:spI X.K P a [V.ref (s.heap.objs.size+1),v] (upd H (s.heap.objs.size+1) (exO (s.heap.objs.size+1) C s.heap.objs.size))
  (λw' H'=>w'=.non/\∃dx,H dx=none/\dx≠s.heap.objs.size+1/\H'=upd (upd H dx (.xd [(a,v)])) (s.heap.objs.size+1) (PF (s.heap.objs.size+1) C s.heap.objs.size dx)) E0:=by
  refine⟨_,C,s.heap.objs.size,v,rfl,AC,ha,λdx h1 h2=>⟨rfl,dx,by rw[Aq h2] at h1;exact h1,h2,?_⟩⟩
  funext b
  by_cases e1:b=s.heap.objs.size+1
  .subst e1;rw[AC,AC]
  .by_cases e2:b=dx
   .subst e2;rw[Aq e1,Aq e1,AC,AC]
   .rw[Aq e1,Aq e1,Aq e2,Aq e2,Aq e1]
 have hl:([Value.ref (s.heap.objs.size+1),u]++[]).length=ps.length:=by
  have e:=F.len _ _ _ _ hsp;simpa using e
 clear 5 s hh g d t os;refine jQ (Uj ic (M.cl.tail I.kIn) hC hN hni ((bind_fn I.kIn _ (jP.mp M.fn))) (by show 1<=sizeLine;decide) ?_);refine jH (F.run _ X.stack _ _ ⟨[Value.ref (hh.objs.size+1),u],[]⟩ [Value.ref (hh.objs.size+1),u] _ _ E0 (hr.make C [u] []) (I1.env0.make C [u] []) (by have:=hb _ [Value.ref (hh.objs.size+1),u] I1.kIn hl;simpa using this) r2 hsp) λr s' hq'=>?_
 cases r with
 |error e=>exact hq'.elim
 |ok fl=>
   cases fl with
   |ret w'=>
     clear 5(I1.after hq')v' H' I3 rv rfl dx d1 d2 rfl;refine⟨rv,?_⟩;have hx:=(I3.hok (hh.objs.size+1) _ AC).1;have hx:s'.heap.get? (hh.objs.size+1)=some {excObj C hh.objs.size with dict:=some dx}:=hx;have xr:XRec true s'.heap (hh.objs.size+1) C (some dx) .none:=⟨_,_,hx,rfl,rfl,rfl,rfl,λ_=>⟨rfl,by show 4<6;decide⟩⟩;have I4:=I3.write (x:=hh.objs.size+1) (e:=hh.objs.size+1) (o:=.ext (L2.XIs qx (hh.objs.size+1) C (some dx))) (h':=s'.heap) (t':=s'.toks) (by rw[AC];trivial) (.inl rfl) (λ_ _ _ z=>z) ⟨_,hx⟩ (No xr.to.is);rw[XX] at I4;exact h s' (hh.objs.size+1) dx I4 hx0 d1 d2 (un6 _) xr
   |next=>exact False.elim hq'
   |brk=>exact False.elim hq'
   |cont=>exact False.elim hq'
end
end
section
variable{qx:Bool}
section
variable{M:Model}{A:Around}{E:gk->gn->Prop}{K:gi}{s:gn}{x C C':gm}{bm bm':List gk}{dx:Option gm}{tb:gk}
theorem NJ{Q:Bool->gn->Prop}(c:XCl K C bm)(c':XCl K C' bm')(X:K.In s.heap)(hx:XRec qx s.heap x C dx tb)(h:Q ((Value.ref C::bm).contains (.ref C')) s):wpAny M A (excMatches (.ref x) (.ref C')) Q E s:=by
 obtain⟨nm,q,N,bs,sn,sub,ab,col,dd,k0,k1,k2,k3,k5,hC,_⟩:=c.obj X;obtain⟨nm',q',N',bs',sn',sub',ab',col',dd',k0',k1',k2',k3',k5',hC',_⟩:=c'.obj X;have hb:=c'.has X;clear 5 hx o vs ho hc hd hdt h1;clear 5 s hp g d tk os;have ty:(⟨hp,g,d,tk,os⟩:gn).TypeIs (.ref C') "type":=⟨_,hC',rfl⟩;have nt:=tc_notTuple
 cases hbb:(Value.ref C::bm).contains (.ref C')<;>(
  rw[hbb] at h;unfold excMatches
  repeat (first
   |(with_reducible refine jr ho ?_;rw[hc])
   |with_reducible refine jr hC' ?_
   |(with_reducible refine jk hC' ?_;rw[hb])
   |(with_reducible refine jk hC ?_;rw[hbb])
   |wp_step)
  exact h)
end
end
section
variable{qx:Bool}
def Te(h:Heap)(T:gm)(fl:gk):Prop:=∃(o:Obj) (ts:Array gk),h.get? T=some o/\o.data=.fields ts/\ts[3]?=some fl
section
variable{M:Model}{A:Around}{E:gk->gn->Prop}{s:gn}{env:Env}{outer:List Env}{base:Heap}{L x C:gm}{dx:Option gm}{tb:gk}{Q:Unit->gn->Prop}
theorem Me{hadNext:Bool}{hd:gk}(hfr:A.frames=some (env::outer))(hl:s.heap.FunFrames base (env::outer))(hf:env.frame=some L)(hx:XRec qx s.heap x C dx tb)
 (h:∀h' T,s.heap.objs.size<=T->T≠x->XRec qx h' x C dx (.ref T)->Te h' T (rawInt L)->XKeep (frs (env::outer)) [x] s.heap h'->Q () {s with heap:=h'}) :
 wpAny M A (do let fo <-frameOf env;let at' <-entryPlaceOf L hadNext;let en <-EntryCells.newEntry hd fo .none (rawInt L) .none at';setField (.ref x) 1 en) Q E s:=by
 clear 5 hx ox vs gx cx dxe dtx tbx xc;have v1:1<vs.size:=(ua8.mp tbx).1;have nfr:x∉frs (env::outer):=λz=>by
  obtain⟨_,o2,g2,n2⟩:=hl.mem z;rw[gx] at g2;cases g2
  exact n2 vs dtx
 refine un8 (wpAny_frameOf_fun hfr hl hf λh1 so=>?_);refine un8 (wpAny_entryPlaceOf λat' ip=>?_);unfold EntryCells.newEntry newFields;refine un8 (jp ?_ (ip.sizeOk5 _ _ _ _ _));generalize hne:(Obj.mk (Value.type "traceback") none (Data.fields ([hd,Value.ref L,Value.none,rawInt L,Value.none]++if at'.isEmpty=true then List.replicate 6 Value.none else at').toArray) #[])=nob;have dn:nob.data=.fields ([hd,Value.ref L,Value.none,rawInt L,Value.none]++if at'.isEmpty=true then List.replicate 6 Value.none else at').toArray:=by rw[<-hne]
 have gx1:h1.get? x=some ox:=(so.2.1 x nfr).trans gx;have gx2:(h1.push nob).get? x=some ox:=ub8 _ gx1;have nex:h1.objs.size≠x:=um5 (um2 gx1);refine jA gx2 dtx v1 ?_;clear 5(NI dtx (·.setIfInBounds 1 (Value.ref h1.objs.size)))m1 m2 m3;have gx3:=uc9 (Obj.mapFields (·.setIfInBounds 1 (Value.ref h1.objs.size))) gx2 (je m1);have gT2:(h1.push nob).get? h1.objs.size=some nob:=ud7 h1 (je dn);have gT3:=(ub9 (h1.push nob) (Obj.mapFields (·.setIfInBounds 1 (Value.ref h1.objs.size))) (Ne.symm nex)).trans gT2;have vx:(vs.setIfInBounds 1 (Value.ref h1.objs.size))[1]?=some (.ref h1.objs.size):=by simp[v1]
 have old:∀b o,b≠x->h1.get? b=some o->((h1.push nob).update x (Obj.mapFields (·.setIfInBounds 1 (Value.ref h1.objs.size)))).get? b=some o:=λb o hb e=>by
  rw[ub9 _ _ (Ne.symm hb)];exact ub8 _ e
 refine h _ h1.objs.size (jG so.1.symm) nex ⟨_,_,gx3,m2.trans cx,m3.trans dxe,m1,vx,YD xc⟩ ⟨_,_,gT3,dn,?_⟩ ⟨λb o hb hbf e=>old b o (λz=>hb (by simp[z])) ((so.2.1 b hbf).trans e),λb o hb e=>?_⟩
 .rw[List.getElem?_toArray];rfl
 .clear 5(so.2.2 b o e)sl e1;exact⟨sl,old b _ (λz=>hb (by simp[z])) e1⟩
end
structure XOn(qx:Bool)(X:Cx)(gj:List (gm×Obj))(H:Hp)(s:gn)(x C:gm)(dx:Option gm)(T:Option gm)(fl:gk):Prop where
 hx:H x=some (.ext (L2.XIs qx x C dx))
 nx:X.s₀.heap.objs.size<=x
 rc:XRec qx s.heap x C dx (match T with|some a=>.ref a|none=>.none)
 tb:∀a,T=some a->a≠x/\H a=none/\X.s₀.heap.objs.size<=a/\(a≠X.env.locals/\(∀y c,X.env.cells.lookup y=some c->c≠a)/\∀p∈X.pn++gj,p.1≠a)/\Te s.heap a fl
 fo:fl=.none\/fl=rawInt X.env.locals
section
variable{M:Model}{A:Around}{Er:gk->gn->Prop}{X:Cx}{gj:List (gm×Obj)}{σ:St}{H:Hp}{s:gn}{x C:gm}{dx T:Option gm}{fl:gk}{Q:Unit->gn->Prop}
theorem G9(fr:Option gm)(I:Inv X gj σ H s){a:gm}(o:XOn qx X gj H s x C dx (some a) fl)(hfr:fr=none\/fr=some X.env.locals)
 (k:∀h',Inv X gj σ H {s with heap:=h'}->XOn qx X gj H {s with heap:=h'} x C dx (some a) (fr.elim Value.none λf=>rawInt f)->Q () {s with heap:=h'}):wpAny M A (setFlight (.ref x) fr) Q Er s:=by
 clear 5(id o.rc)ox vs gx cx dxe dtx tbx xc;clear 5(o.tb a rfl)ne hT nT oT ot ts gT dT t3;unfold setFlight;refine un8 (un7 gx dtx tbx ?_);rw[jY (show(Value.ref a != Value.none)=true from rfl)];refine jA gT dT (ua8.mp t3).1 ?_;clear 5(NI dT (·.setIfInBounds 3 (fr.elim Value.none λf=>rawInt f)))m1 m2 m3;have gT2:=uc9 (Obj.mapFields (·.setIfInBounds 3 (fr.elim Value.none λf=>rawInt f))) gT (je m1);have oth:∀b,b≠a->(s.heap.update a (Obj.mapFields (·.setIfInBounds 3 (fr.elim Value.none λf=>rawInt f)))).get? b=s.heap.get? b:=λb z=>ub9 _ _ (Ne.symm z);have rc':XRec qx (s.heap.update a (Obj.mapFields (·.setIfInBounds 3 (fr.elim Value.none λf=>rawInt f)))) x C dx (.ref a):=⟨ox,vs,(oth x (Ne.symm ne)).trans gx,cx,dxe,dtx,tbx,xc⟩;refine k _ (I.left o.hx hT o.nx nT (ch:=[a]) ⟨λb u hb _ e=>(oth b (by simpa using hb)).trans e,λb u hb e=>⟨u.slots,(oth b (by simpa using hb)).trans e⟩⟩ (λb hb=>.inr (by simpa using hb)) rc'.is oT.2.1 oT.1 oT.2.2) ⟨o.hx,o.nx,rc',λa' e=>?_,?_⟩
 .cases e
  exact⟨ne,hT,nT,oT,_,_,gT2,m1,by rw[Array.getElem?_setIfInBounds_self,jY (ua8.mp t3).1]⟩
 .rcases hfr with rfl|rfl
  .exact .inl rfl
  .exact .inr rfl
theorem JO(hA:A.frames=some X.stack)(I:Inv X gj σ H s)(hs:X.stack=X.env::X.outer)(hf:X.env.frame=some X.env.locals)(o:XOn qx X gj H s x C dx T fl)
 (k:∀h' a,Inv X gj σ H {s with heap:=h'}->XOn qx X gj H {s with heap:=h'} x C dx (some a) (rawInt X.env.locals)->Q () {s with heap:=h'}):wpAny M A (noteFrame (.ref x) X.env) Q Er s:=by
 clear 5(id o.rc)ox vs gx cx dxe dtx tbx xc;have fin:∀(s1:gn) (hh:∃h1,s1 = {s with heap:=h1}) (ch:List gm) (h':Heap) (a:gm),Inv X gj σ H s1->s1.heap.objs.size<=a->a≠x->XRec qx h' x C dx (.ref a)->Te h' a (rawInt X.env.locals)->XKeep (frs (X.env::X.outer)) [x] s1.heap h'->Q () {s1 with heap:=h'}:=by
  rintro s1 ⟨h1,rfl⟩ ch h' a I1 l1 l2 l3 l4 l5;clear 5(I1.newT l1)o1 o2 o3;have J:=I1.left o.hx (I1.hok.fresh l1) o.nx (um4 I1.sz l1) (ch:=[x]) (hs ▸ l5) (λb hb=>.inl (by simpa using hb)) l3.is o2 o1 o3;exact k h' a J ⟨o.hx,o.nx,l3,λa' e=>by cases e;exact⟨l2,I1.hok.fresh l1,um4 I1.sz l1,⟨o1,o2,o3⟩,l4⟩,.inr rfl⟩
 unfold noteFrame;simp only[hf];refine un8 (un7 gx dtx tbx ?_)
 cases T with
 |none=>
   rw[jZ (by decide)];exact Me (hA.trans (jT some hs)) (hs ▸ I.stack) hf o.rc λh' a l1 l2 l3 l4 l5=>fin s ⟨s.heap,rfl⟩ [] h' a I l1 l2 l3 l4 l5
 |some T₀=>
   clear 5(o.tb T₀ rfl)ne hT nT oT ot ts gT dT t3;rw[jY (show(Value.ref T₀ != Value.none)=true from rfl)];refine un8 (un7 gT dT t3 ?_);rcases o.fo with rfl|rfl
   .rw[jZ (show ¬((Value.none==rawInt X.env.locals)=true) from by simp[rawInt])];refine un8 (jA gT dT (ua8.mp t3).1 ?_);have oth:∀b,b≠T₀->(s.heap.update T₀ (Obj.mapFields (·.setIfInBounds 3 Value.none))).get? b=s.heap.get? b:=λb z=>ub9 _ _ (Ne.symm z);have rc':XRec qx (s.heap.update T₀ (Obj.mapFields (·.setIfInBounds 3 Value.none))) x C dx (.ref T₀):=⟨ox,vs,(oth x (Ne.symm ne)).trans gx,cx,dxe,dtx,tbx,xc⟩;have J:=I.left o.hx hT o.nx nT (ch:=[T₀]) ⟨λb u hb _ e=>(oth b (by simpa using hb)).trans e,λb u hb e=>⟨u.slots,(oth b (by simpa using hb)).trans e⟩⟩ (λb hb=>.inr (by simpa using hb)) rc'.is oT.2.1 oT.1 oT.2.2;exact Me (s:={s with heap:=s.heap.update T₀ (Obj.mapFields (·.setIfInBounds 3 Value.none))}) (hA.trans (jT some hs)) (hs ▸ J.stack) hf rc' λh' a l1 l2 l3 l4 l5=>fin _ ⟨_,rfl⟩ [] h' a J l1 l2 l3 l4 l5
   .rw[jY (show(rawInt X.env.locals==rawInt X.env.locals)=true from by first|(simp;done)|exact ui1 _)];exact un9 (k s.heap T₀ I ⟨o.hx,o.nx,o.rc,o.tb,.inr rfl⟩)
end
def XE(qx:Bool)(X:Cx)(E:St->XK):gk->gn->Prop:=λe s=>∃gj σ H x C dx T fl,e=.ref x/\Inv X gj σ H s/\XOn qx X gj H s x C dx T fl/\E σ (.ref x) dx H
def Ek(CX:CXT)(X:Cx)(E:St->XK):Prop:=∀(gj:List (gm×Obj)) (σ:St) (H:Hp) (s:gn) (e:gk) (s':gn),Inv X gj σ H s->CX X.stack H s (E σ) e s'->X.xe e s'
section
variable{M:Model}{X:Cx}{E:St->XK}
theorem XE.own(hs:X.stack=X.env::X.outer)(hf:X.env.frame=some X.env.locals):PassesOwn M X.A X.env (XE qx X E):=by
 rintro e s ⟨gj,σ,H,x,C,dx,T,fl,rfl,I,o,q⟩;refine JO I.ok.frames I hs hf o λh' a I' o'=>?_;clear 5(id o'.rc)ox vs gx cx dxe dtx tbx xc;unfold cameBackBy;refine un8 (un7 gx dtx tbx ?_);rw[jZ (show ¬((Value.ref a==Value.none)=true) from by intro z;cases z)]
 rw[hf];exact G9 _ I' o' (.inr rfl) λh'' I'' o''=>⟨gj,σ,H,x,C,dx,some a,_,rfl,I'',o'',q⟩
theorem XE.pass:Ek (CX1 qx X.prog X.w) (X.wish (XE qx X E)) E:=by
 intro gj σ H s e s' I q;clear 5(I.unwish.raised q)x C dx T H' rfl J hx nx nT ne hT r tb q;exact⟨gj,σ,H',x,C,dx,some T,.none,rfl,J,⟨hx,um4 I.sz nx,r,λa e=>by cases e;exact⟨ne,hT,um4 I.sz nT,I.unwish.newT nT,tb⟩,.inl rfl⟩,q⟩
end
section
variable{P:gq}{w:gu}{K:gi}{mg:Str->Option gk}{base:Heap}
abbrev cxX(qx:Bool)(P:gq)(w:gu)(K:gi)(mg:Str->Option gk)(base:Heap)(N:List Str)(qual:Str)(scope:Scope)(f:gm)(cd:gk)(A:Around)(outer:List Env)(s:gn)(H:Hp)(E:XK):Cx:=
 (EV (CX1 qx P w) P w K mg base N qual scope f cd A outer s H E).wish (XE qx (EV (CX1 qx P w) P w K mg base N qual scope f cd A outer s H E) λ_=>E)
theorem XE.leaves{N:List Str}{qual:Str}{scope:Scope}{f:gm}{cd:gk}{A:Around}{outer:List Env}{s₀:gn}{H₀:Hp}{E:XK}{e:gk}{s:gn}
 (h:XE qx (EV (CX1 qx P w) P w K mg base N qual scope f cd A outer s₀ H₀ E) (λ_=>E) e s):(EV (CX1 qx P w) P w K mg base N qual scope f cd A outer s₀ H₀ E).xe e s:=by
 clear 5 h gj σ H x C dx T fl rfl I o q;refine un8 (JO I.ok.frames I rfl rfl o λh' a I' o'=>?_);refine G9 none I' o' (.inl rfl) λh'' I'' o''=>?_;clear 5(o''.tb a rfl)ne hT nT oT tb;exact⟨x,C,dx,a,H,rfl,I''.os,I''.bare,I''.base,I''.hok,o''.hx,o''.nx,nT,ne,hT,o''.rc,tb,q⟩
theorem Fun.okX{x qual:Str}{st:Stmt}{f:gm}{fd:gy}{N ps:List Str}{k:Nat}{sp:Sp}(F:Fun K x qual st f fd)(S:FnScope N ps (AA st))(len:∀vs H Q E,sp vs H Q E->vs.length=ps.length)
 (hbody:∀(cdv:gk) (A:Around) (outer:List Env) (s:gn) (H:Hp) (vs:List V) (Q:VK) (E:XK),Room k (A.deeper (envOfC qual (AA st) s.heap.objs.size f cdv))->sp vs H Q E->
   ∃t,PSs (cxX qx P w K mg base N qual (AA st) f cdv A outer s H E) (BS st) t/\t {nx:=λ_ H'=>Q .non H',rt:=Q} (start N vs) H):FnOk P w K mg base (CX1 qx P w) (k+1) f fd ps sp:=by
 clear 5 F.ex oc od kV doc pm an cdv ct osl rfl lk hcd;refine Vl lk hcd S len λA outer s H vs Q E hr hsp=>?_;clear 5(hbody cdv A outer s H vs Q E hr hsp)t h q;exact⟨t,λgj s1 σ H1 D I hw=>uo0 (h gj s1 σ H1 D (I.wish _) hw) (λ_ _ q=>q.unwish) λ_ _ z=>z.leaves,q⟩
theorem FnOk.calm{k:Nat}{f:gm}{fd:gy}{ps:List Str}{sp sp':Sp}(F:FnOk P w K mg base (CX1 qx P w) k f fd ps sp)(h:∀vs H Q E,sp' vs H Q E->sp vs H Q E0):FnOk P w K mg base CX0 k f fd ps sp':=by
 refine⟨λvs H Q E q=>F.len vs H Q E0 (h _ _ _ _ q),λA outer s H args us vs Q E hr he hb hv hs=>jH (F.run A outer s H args us vs Q E0 hr he hb hv (h _ _ _ _ hs)) λr s' q=>?_⟩
 cases r with
 |error e=>obtain⟨_,_,_,_,_,_,_,_,_,_,_,_,_,_,_,_,_,z⟩:=q;exact z.elim
 |ok fl=>cases fl<;>exact q
end
section
variable{X:Cx}{CX:CXT}{k:Nat}{f:gm}{fd:gy}{ps:List Str}{sp:Sp}{E:St->XK}{x:Str}{p pos:Pos}{e:Expr}{es:List Expr}{t:TA}
def SI(sp:Sp)(E:St->XK)(t:TA):TE:=λσ H Q=>t σ H λvs H1=>sp vs H1 Q (E σ)
theorem Uv(F:FnOk X.prog X.w X.K X.mg X.base CX k f fd ps sp)(hr:Room k X.A)(hg:Gl X x)(hm:X.mg x=some (.ref f))(hk:PySem.W.keepIn X.K (.ref f)=true)(hb:Binds X.K fd ps [])(hx:Ek CX X E)
 (ha:PA X (e::es) t) (hdb:(x==("__debug__":Str))=false:=by decide) (he:starEach (e::es) X.env=(false,eval e X.env)::starEach es X.env:=by rfl) (hpl:(backTo pos (starEach es X.env)).any (·.1)=false:=by rfl) :
 PE X (.Call (.Name x p) (e::es) [] pos) (SI sp E t):=by
 intro gj s σ H Q I h;refine jm (DS I hg hm ?_ hdb);refine ue7 (h₀:=X.base) I.ok.mod.kin hk (thn (ha pos gj s σ H _ I h) λus s1 z9=>?_) he hpl;clear 5 z9 vs H1 I1 r q;refine⟨I1.kIn,?_⟩;have hl:(us++[]).length=ps.length:=by rw[ui6,<-r.length];exact F.len _ _ _ _ q
 refine jQ (jH (F.run X.A X.stack s1 H1 ⟨us,[]⟩ us vs Q (E σ) hr I1.env0 (by have:=hb s1 us I1.kIn hl;rwa [ui6] at this) r q) λr s' hq=>?_)
 cases r with
 |error e=>exact hx gj σ H1 s1 e s' I1 hq
 |ok fl=>
   cases fl with
   |ret u=>exact I1.after hq
   |next=>exact False.elim hq
   |brk=>exact False.elim hq
   |cont=>exact False.elim hq
end
end
section
variable{qx:Bool}
def PM(qx:Bool)(X:Cx)(e:Expr)(C:gm)(t:St->Hp->(gm->Option gm->Hp->Prop)->Prop):Prop:=
 ∀(gj:List (gm×Obj)) (s:gn) (σ:St) (H:Hp) (Q:gm->Option gm->Hp->Prop),Inv X gj σ H s->t σ H Q->
  wpAny (model X.prog X.w) X.A (eval e X.env) (λv s1=>∃x dx H1,v=.ref x/\Inv X gj σ H1 s1/\H1 x=some (.ext (L2.XIs qx x C dx))/\X.s₀.heap.objs.size<=x/\XRec true s1.heap x C dx .none/\Q x dx H1) X.xe s
def HZ(qx:Bool)(X:Cx)(E:St->XK):Prop:=∀(gj:List (gm×Obj)) (σ:St) (H:Hp) (s:gn) (x C:gm) (dx:Option gm),Inv X gj σ H s->XOn qx X gj H s x C dx none .none->E σ (.ref x) dx H->X.xe (.ref x) s
theorem XE.raises{X:Cx}{E:St->XK}:HZ qx (X.wish (XE qx X E)) E:=λgj σ H s x C dx I o q=>⟨gj,σ,H,x,C,dx,none,.none,rfl,I.unwish,⟨o.hx,o.nx,o.rc,o.tb,o.fo⟩,q⟩
theorem N0{X:Cx}{e:Expr}{C:gm}{bm:List gk}{t:St->Hp->(gm->Option gm->Hp->Prop)->Prop}{E:St->XK}{pos:Pos}(hc:X.calm=true)(c:XCl X.K C bm)(hx:HZ qx X E)(h:PM qx X e C t)
 (ho:evalOpt (some e) X.env=some (eval e X.env):=by rfl):PS X (.Raise (some e) none pos) (λ_ σ H=>t σ H λx dx H1=>E σ (.ref x) dx H1):=by
 intro gj s σ H D I q;rw[arm_exec_Raise,ho];refine un8 (jB ?_);refine UK (qx:=true) c (I.ok.hd hc) ?_;refine un8 (uo0 (h gj s σ H _ I q) (λv s1 z9=>?_) λ_ _ z=>z);clear 5 z9 x dx H1 e1 I1 hx1 nx r q1;subst e1;refine un8 (jB (un9 ⟨x,dx,rfl,I1.kIn,r,hx gj σ H1 s1 x C dx I1 ⟨hx1,nx,r.to,(λa e=>by cases e),.inl rfl⟩ q1⟩))
theorem Qb{K:gi}{h:Heap}{N:gm}{m:Str->Option gk}{n:Str}(X:K.In h)(G:h.Ns N m)(e:nsIn K N n=some none):m n=none:=by
 obtain⟨o,es,ep,ho,hd,_,hf⟩:=G;unfold nsIn at e
 split at e
 .next c d es' n' sl q=>
  have z:=X _ _ q;rw[ho] at z
  cases z
  cases hd
  split at e
  .cases e
  .next he=>rw[<-hf];unfold nsFind findBy;rw[<-ue6,he];rfl
 .cases e
section
variable{prog:gq}{w:gu}{A:Around}{E:gk->gn->Prop}{h:Heap}{g:Array GenState}{d:Drawn}{t:Nat}{os:OsState}{Q:gk->gn->Prop}
variable{nm q:Str}{C N:gm}{bs bm bmB:List gk}{hdct:Bool}{sn:List Str}{sub:List gk}{ab:Bool}{col:Option Bool}{dd:Option gm}{k0 k1 k2 k3 k5:Option gk}{B newId initId:String}{mN:Str->Option gk}
theorem RK(F:ExcBaseFacts B newId initId bmB)(T:OwnTail h bmB bm){us:List gk}(hC:h.get? C=some (excClassObj nm q C N bs bm hdct sn sub ab col dd k0 k1 k2 k3 k5 newId))(hn:h.Ns N mN)(hni:mN "__init__" = none)(hus:us.length<=sizeLine)
 (hq:∀h' tp,(∀b o,h.get? b=some o->h'.get? b=some o)->h'.get? (h.objs.size+1)=some (excObj C tp)->Q (.ref (h.objs.size+1)) ⟨h',g,d,t,os⟩) :
 wpAny (model prog w) A (call (.ref C) us) Q E ⟨h,g,d,t,os⟩:=by
 have c1:=tc_lookup;have c2:=tc_bind (.ref C);have ty:(⟨h,g,d,t,os⟩:gn).TypeIs (.ref C) "type":=⟨_,hC,rfl⟩;refine jQ (codeAny_of_tree ?_);show wpAny _ _ (callAny (.ref C) _) _ _ _
 repeat (any_goals (first
  |assumption
  |with_reducible refine jr hC ?_
  |wp_step))
 refine⟨rfl,codeAny_call_builtin_at (jn _ (by decide +kernel)) entry_typeCall (ie hC ?_)⟩
 repeat (first
  |with_reducible refine jr hC ?_
  |with_reducible refine wpAny_madeBy_exc hC ?_
  |wp_step)
 refine ig (jn _ F.quiet) (wpAny_check_new_subT F T hC (codeAny_exc_new_subT F T hC ?_ hus))
 change wpAny _ _ _ _ _ (Shared.mk (EJ h C us) g d t os)
 have kp:∀b o,h.get? b=some o->(EJ h C us).get? b=some o:=λb o e=>ub8 _ (ub8 _ e);have he:(EJ h C us).get? (h.objs.size+1)=some {cls:=.ref C,data:=.fields #[.ref h.objs.size,.none,.none,.none,.bool false,.none]}:=by heap_get
 have n1:(EJ h C us).Ns N mN:=hn.keeps kp;have cC:(Value.ref C::bm).contains (.ref C)=true:=by simp
 unfold isInstance
 repeat (first
  |with_reducible refine jr he ?_
  |(with_reducible refine jk (kp _ _ hC) ?_;rw[cC])
  |wp_step)
 show wpAny _ _ (typeLookup (.ref C) _) _ _ _;refine wpAny_typeLookup_tail (kp _ _ hC) n1 (T.keeps kp) F.mroIs F.init.lookup ?_;rw[hni];refine um1 (un8 (wpAny_of_eq (F.init.bind _) (un8 (jQ (jh F.init.plain F.initEntry (wpAny_check_init_subT F (T.keeps kp) (kp _ _ hC) he rfl ?_))))))
 wp_walk
 refine hq _ ((EJ h C us).objs.size) (λb o hb=>?_) ?_
 .rw[ub9 _ _ (um5 (ug0 (um2 hb)))];exact ub8 _ (kp b o hb)
 .rw[uc9 _ (ub8 _ he) rfl];rfl
end
section
variable{X:Cx}{k:Nat}{f C P:gm}{fd:gy}{a:Str}{ps:List Str}{n:Str}{p pos:Pos}{e:Expr}{es:List Expr}
theorem ZN{t:TA}(M:XMk X.K C P f)(ha:XAt X.K C P a)(F:FnOk X.prog X.w X.K X.mg X.base CX0 k f fd ps (spI X.K P a))(hr:Room (k+1) X.A)(hb:Binds X.K fd ps [])(hg:Gl X n)(hm:X.mg n=some (.ref C))(hA:PA X [e] t)
 (hdb:(n==("__debug__":Str))=false:=by decide) (h1:starEach [e] X.env=[(false,eval e X.env)]:=by rfl) :
 PM qx X (.Call (.Name n p) [e] [] pos) C (λσ H Q=>t σ H λvs H1=>∃v,vs=[v]/\∀x dx,H1 x=none->H1 dx=none->dx≠x->Q x (some dx) (upd (upd H1 dx (.xd [(a,v)])) x (.ext (L2.XIs qx x C (some dx))))):=by
 intro gj s σ H Q I h;refine jm (DS I hg hm ?_ hdb);refine ue7 (h₀:=X.base) I.ok.mod.kin M.kp (thn (hA pos gj s σ H _ I h) λus s1 z9=>?_) h1 rfl;clear 5 z9 vs H1 I1 r v ev q;refine⟨I1.kIn,?_⟩;subst ev
 cases r with
 |cons r0 rs=>
   cases rs
   exact Sw M ha F hr hb I1 r0 λs' x dx I' hx hdx ne nx rc=>⟨x,some dx,_,rfl,I',AC,um4 I1.sz nx,rc,q x dx hx hdx ne⟩
theorem W7{t:TA}{bm:List gk}{cd:ClassData}(c:XCl X.K C bm)(hk:keepIn X.K (.ref C)=true)(hcd:clsIn X.K C=some cd)(hni:nsIn X.K cd.ns "__init__" = some none)(hg:Gl X n)(hm:X.mg n=some (.ref C))(ha:PA X (e::es) t)
 (hdb:(n==("__debug__":Str))=false:=by decide) (h1:starEach (e::es) X.env=(false,eval e X.env)::starEach es X.env:=by rfl) (hpl:(backTo pos (starEach es X.env)).any (·.1)=false:=by rfl) :
 PM qx X (.Call (.Name n p) (e::es) [] pos) C (λσ H Q=>t σ H λvs H1=>vs.length<=1000/\∀x,H1 x=none->Q x none (upd H1 x (.ext (L2.XIs qx x C none)))):=by
 intro gj s σ H Q I h;refine jm (DS I hg hm ?_ hdb);refine ue7 (h₀:=X.base) I.ok.mod.kin hk (thn (ha pos gj s σ H _ I h) λus s1 z9=>?_) h1 hpl;clear 5 z9 vs H1 I1 r hl q;refine⟨I1.kIn,?_⟩;clear 5(c.obj I1.kIn)nm q' N bs sn sub ab col dd k0 k1 k2 k3 k5 hC hN;have hni':s1.heap.nsMap N "__init__" = none:=by
  unfold clsIn at hcd
  split at hcd
  .next l=>
   cases hcd
   have z:=I1.kIn _ _ l;rw[hC] at z
   cases z
   exact Qb I1.kIn hN hni
  .cases hcd
 clear 5 s1 hh g d tk os;refine RK ic (c.tail I1.kIn) hC hN hni' (by show us.length<=sizeLine;rw[<-r.length];exact um4 hl (by decide)) λh' tp kp ht=>?_;have xr:XRec true h' (hh.objs.size+1) C none .none:=⟨_,_,ht,rfl,rfl,rfl,rfl,λ_=>⟨rfl,by show 4<6;decide⟩⟩;exact⟨_,none,_,rfl,I1.laid (h':=h') (t':=tk) kp (un6 _) (No xr.to.is),AC,um4 I1.sz (un6 _),xr,q _ (I1.hok.fresh (un6 _))⟩
end
end
section
variable{qx:Bool}
abbrev Cx.mark(X:Cx)(x:gm):Cx:={X with A:=X.A.mark (some (.ref x)),calm:=false,xe:=λ_ _=>False}
section
variable{X:Cx}{gj:List (gm×Obj)}{σ:St}{H:Hp}{s:gn}{D:Ends}
theorem Inv.mark(I:Inv X gj σ H s)(x:gm):Inv (X.mark x) gj σ H s:=
 ⟨⟨I.ok.mod,I.ok.kind,I.ok.glob,I.ok.blt,I.ok.above,I.ok.inj,I.ok.has,I.ok.cab,(λz=>by cases z),I.ok.frames,I.ok.stk,I.ok.exf,I.ok.bs,I.ok.bsz,I.ok.noex,I.ok.exfs,I.ok.funs,I.ok.frf⟩,I.os,I.bare,I.base,I.loc,I.cell,I.free,I.freeC,I.pin,I.hok,I.len⟩
theorem Inv.unmark{x:gm}(J:X.Ok)(I:Inv (X.mark x) gj σ H s):Inv X gj σ H s:=⟨J,I.os,I.bare,I.base,I.loc,I.cell,I.free,I.freeC,I.pin,I.hok,I.len⟩
theorem Inv.repin{pn' pins':List (gm×Obj)}{xe:gk->gn->Prop}(I:Inv X gj σ H s)(h:∀p∈pn'++pins',p∈X.pn++gj):Inv {X with pn:=pn',xe:=xe} pins' σ H s:=
 ⟨⟨I.ok.mod,I.ok.kind,I.ok.glob,I.ok.blt,I.ok.above,I.ok.inj,I.ok.has,I.ok.cab,I.ok.hd,I.ok.frames,I.ok.stk,I.ok.exf,I.ok.bs,I.ok.bsz,I.ok.noex,I.ok.exfs,I.ok.funs,I.ok.frf⟩,I.os,I.bare,I.base,I.loc,I.cell,I.free,I.freeC,λp hp=>I.pin p (h p hp),I.hok,I.len⟩
theorem SP.unmark{x:gm}(J:X.Ok){f:Flow}(h:SP (X.mark x) gj D f s):SP X gj D f s:=by
 cases f with
 |next=>clear 5 h σ' H' I q;exact⟨σ',H',I.unmark J,q⟩
 |brk=>clear 5 h σ' H' I q;exact⟨σ',H',I.unmark J,q⟩
 |cont=>clear 5 h σ' H' I q;exact⟨σ',H',I.unmark J,q⟩
 |ret u=>clear 5 h v σ' H' I r q;exact⟨v,σ',H',I.unmark J,r,q⟩
theorem HL{M:Model}{A:Around}{E:gk->gn->Prop}{i:Nat}{n:Str}{pos:Pos}{Q:Unit->gn->Prop}(I:Inv X gj σ H s)(hN:X.N.Nodup)(hi:X.N[i]?=some n)(hk:X.env.scope.names.lookup n=some .local)
 (h:∀s',Inv X gj (σ.set i none) H s'->Q () s'):wpAny M A (do bindName X.env n .none;unbindBehindTheSuite X.env n pos) Q E s:=by
 refine un8 (jy (Fb (v:=.non) I hN hi (.inl hk) rfl (λs1 I1=>?_) (.inr hk)));unfold unbindBehindTheSuite;have hiσ:i < σ.length:=by rw[I.len];exact(ua9.mp hi).1
 clear 5(id I1.loc)m hn hl;have hcls:(X.env.scope.kind==.class||(X.env.scope.kind==.module&&X.env.locals != X.env.globals))=false:=by rw[I.ok.kind];rfl
 obtain⟨u0,_,lk⟩:=hl i n .non hi (by rw[ub7 hiσ]) (.inl hk);have hv:m n=some u0:=by
  rcases lk with⟨_,e⟩|⟨k,_⟩
  .exact e
  .have k:X.env.scope.names.lookup n=some .cell\/X.env.scope.names.lookup n=some .free:=k;rw[hk] at k;rcases k with k|k<;>cases k
 refine wpAny_onRaise (wpAny_unbindName_local hk hn hv hcls λh' u hn' hs=>?_);have cne:=I1.cne;have tracked:HOk X.prog X.w H h':=λb ob e=>by
  refine(I1.hok b ob e).stay (λc w' hc q=>(hs.2 c ?_).trans q) (λ_ q=>q) λ_ _ q=>q;rintro rfl;rcases hc with rfl|hc
  .rw[I1.free] at e;cases e
  .rw[I1.free] at hc;cases hc
 have far:∀b o,X.s₀.heap.get? b=some o->b≠X.env.locals:=λb o e=>um3 (ue3 (um2 e) I1.ok.above);refine h _ ⟨I1.ok,I1.os,I1.bare,⟨λb o e n hb hx=>?_,λb o e n hb hx=>?_,I1.base.free,λb o e hx=>?_,I1.base.tups,I1.base.frzs,I1.base.tbls⟩,⟨_,hn',λj y v' e1 e2 e3=>?_⟩,λy c e=>?_,I1.free,I1.freeC,λp hp=>?_,tracked,by simpa using I.len⟩
 .exact(hs.2 b (far b o e)).trans (I1.base.keep b o e n hb hx)
 .clear 5(I1.base.slot b o e n hb hx)sl e1;exact⟨sl,(hs.2 b (far b o e)).trans e1⟩
 .clear 5(I1.base.there b o e hx)o' e1;exact⟨o',(hs.2 b (far b o e)).trans e1⟩
 .by_cases hj:j=i
  .subst hj;rw[ub7 hiσ] at e2
   cases e2
  .rw[ud3 (Ne.symm hj)] at e2;clear 5(hl j y v' e1 (by rw[ud3 (Ne.symm hj)];exact e2) e3)u' r' q;refine⟨u',r',?_⟩;rcases q with⟨k,e⟩|⟨k,c,e,z⟩
   .refine .inl ⟨k,?_⟩;have:y≠n:=λe=>hj (JN hN e1 (e ▸ hi));simp[this,e]
   .exact .inr ⟨k,c,e,z.sameBut hs (cne y c e)⟩
 .clear 5(I1.cell y c e)w' z;exact⟨w',z.sameBut hs (cne y c e)⟩
 .clear 5(I1.pin p hp)e n ne nf d;exact⟨(hs.2 p.1 ne).trans e,n,ne,nf,d⟩
end
def PH(qx:Bool)(X:Cx)(hs:List ExceptHandler)(th:gm->gm->Option gm->TS):Prop:=∀(gj:List (gm×Obj)) (s:gn) (σ:St) (H:Hp) (x C:gm) (dx:Option gm) (T:gm) (D:Ends),Inv X gj σ H s->XOn qx X gj H s x C dx (some T) .none->th x C dx D σ H->
 wpAny (model X.prog X.w) X.A (handleBy (.ref x) X.env hs) (SP X gj D) X.xe s
noncomputable def Ends.unset(D:Ends)(i:Nat):Ends:={nx:=λσ H=>D.nx (σ.set i none) H,rt:=D.rt,bk:=λσ H=>D.bk (σ.set i none) H,ct:=λσ H=>D.ct (σ.set i none) H}
section
variable{X:Cx}{n v:Str}{C':gm}{bm':List gk}{p pos:Pos}{b₀:Stmt}{suite:List Stmt}{rest:List ExceptHandler}{ts:gm->TS}{tr:gm->gm->Option gm->TS}{i:Nat}
def ee(K:gi)(C':gm)(i:Nat)(ts:gm->TS)(tr:gm->gm->Option gm->TS):gm->gm->Option gm->TS:=λx C dx D σ H=>∃bm,XCl K C bm/\
 if (Value.ref C::bm).contains (.ref C')=true then ts x (D.unset i) (σ.set i (some (.ref x))) H else tr x C dx D σ H
theorem bL(hg:Gl X n)(hm:X.mg n=some (.ref C'))(c':XCl X.K C' bm')(hN:X.N.Nodup)(hi:X.N[i]?=some v)(hl:X.env.scope.names.lookup v=some .local)(hb:∀x,PSs (X.mark x) (b₀::suite) (ts x))(hr:PH qx X rest tr)
 (hdb:(n==("__debug__":Str))=false:=by decide):PH qx X (.ExceptHandler (some (.Name n p)) (some v) (b₀::suite) pos::rest) (ee X.K C' i ts tr):=by
 intro gj s σ H x C dx T D I o ⟨bm,c,q⟩;have Im:=I.mark x;refine wpAny_handleBy_cons (codeAny_handlers_test (DS Im hg hm ?_ hdb)) (by intro z;cases z)
 refine NJ c c' I.kIn o.rc ?_
 cases hc:(Value.ref C::bm).contains (.ref C') with
 |false=>
   rw[hc,jZ (by decide)] at q;exact hr gj s σ H x C dx T D I o q
 |true=>
   rw[hc,jY rfl] at q;refine codeAny_handlers_suite_as ?_;refine G9 none I o (.inl rfl) λh1 I1 o1=>?_;refine Fb (v:=.ref x) I1 hN hi (.inl hl) rfl (λs2 I2=>?_) (.inr hl);refine uo0 (hb x gj s2 _ H _ (I2.mark x) q) (λf s3 z=>?_) λ_ _ z=>z.elim;show wpAny _ _ _ _ _ _;have J:=I.ok
   cases f with
   |next=>clear 5 z σ' H' I' q';exact HL (I'.unmark J) hN hi hl λs4 I4=>⟨_,H',I4,q'⟩
   |brk=>clear 5 z σ' H' I' q';exact HL (I'.unmark J) hN hi hl λs4 I4=>⟨_,H',I4,q'⟩
   |cont=>clear 5 z σ' H' I' q';exact HL (I'.unmark J) hN hi hl λs4 I4=>⟨_,H',I4,q'⟩
   |ret u=>clear 5 z w σ' H' I' r q';exact HL (I'.unmark J) hN hi hl λs4 I4=>⟨w,_,H',I4,r,q'⟩
def eh(K:gi)(C':gm)(ts:TS)(tr:gm->gm->Option gm->TS):gm->gm->Option gm->TS:=λx C dx D σ H=>∃bm,XCl K C bm/\
 if (Value.ref C::bm).contains (.ref C')=true then ts D σ H else tr x C dx D σ H
theorem bM{ts:TS}(hg:Gl X n)(hm:X.mg n=some (.ref C'))(c':XCl X.K C' bm')(hb:∀x,PSs (X.mark x) (b₀::suite) ts)(hr:PH qx X rest tr)
 (hdb:(n==("__debug__":Str))=false:=by decide):PH qx X (.ExceptHandler (some (.Name n p)) none (b₀::suite) pos::rest) (eh X.K C' ts tr):=by
 intro gj s σ H x C dx T D I o ⟨bm,c,q⟩;have Im:=I.mark x;refine wpAny_handleBy_cons (codeAny_handlers_test (DS Im hg hm ?_ hdb)) (by intro z;cases z)
 refine NJ c c' I.kIn o.rc ?_
 cases hc:(Value.ref C::bm).contains (.ref C') with
 |false=>
   rw[hc,jZ (by decide)] at q;exact hr gj s σ H x C dx T D I o q
 |true=>
   rw[hc,jY rfl] at q;refine codeAny_handlers_suite ?_;refine G9 none I o (.inl rfl) λh1 I1 o1=>?_;exact uo0 (hb x gj _ _ H _ (I1.mark x) q) (λf s3 z=>z.unmark I.ok) λ_ _ z=>z.elim
theorem ZR{body:List Stmt}{h₀:ExceptHandler}{hs:List ExceptHandler}{tb:(St->XK)->TS}{th:gm->gm->Option gm->TS}(h1:X.stack=X.env::X.outer)(h2:X.env.frame=some X.env.locals)
 (hb:∀(pn:List (gm×Obj)) (E:St->XK),PSs {X with pn:=pn,xe:=XE qx {X with pn:=pn} E} body (tb E)) (hh:PH qx X (h₀::hs) th) :
 PS X (.Try body (h₀::hs) [] [] pos) (λD σ H=>tb (λσ' v dx H'=>∀x C,v=.ref x->H' x=some (.ext (L2.XIs qx x C dx))->(∃h,L2.XIs qx x C dx h)->th x C dx D σ' H') D σ H):=by
 intro gj s σ H D I q;refine wpAny_Try_except ?_;refine uo0 (hb (X.pn++gj) _ [] s σ H D (I.repin λp hp=>by simpa using hp) q) (λf s1 z=>?_) λe s1 z=>?_
 .have back:∀{σ':St}{H':Hp},Inv {X with pn:=X.pn++gj,xe:=XE qx {X with pn:=X.pn++gj} (λσ' v dx H'=>∀x C,v=.ref x->H' x=some (.ext (L2.XIs qx x C dx))->(∃h,L2.XIs qx x C dx h)->th x C dx D σ' H')} [] σ' H' s1->Inv X gj σ' H' s1:=λJ=>J.repin (X:={X with pn:=X.pn++gj,xe:=_}) (pn':=X.pn) (pins':=gj) (xe:=X.xe) λp hp=>by simpa using hp
  cases f with
  |next=>clear 5 z σ' H' J q';exact jt ⟨σ',H',back J,q'⟩
  |brk=>clear 5 z σ' H' J q';exact⟨σ',H',back J,q'⟩
  |cont=>clear 5 z σ' H' J q';exact⟨σ',H',back J,q'⟩
  |ret u=>clear 5 z w σ' H' J r q';exact⟨w,σ',H',back J,r,q'⟩
 .clear 5 z pins' σ' H' x C dx T fl rfl J o q';have J1:Inv X gj σ' H' s1:=J.repin (X:={X with pn:=X.pn++gj}) (pn':=X.pn) (pins':=gj) (xe:=X.xe) λp hp=>by
   simp only[ui2] at hp⊢;exact .inl hp
  have o1:XOn qx X gj H' s1 x C dx T fl:=⟨o.hx,o.nx,o.rc,λa e=>by
   obtain⟨z1,z2,z3,⟨y1,y2,y3⟩,z5⟩:=o.tb a e;exact⟨z1,z2,z3,⟨y1,y2,λp hp=>y3 p (by simp only[ui2] at hp⊢;exact .inl hp)⟩,z5⟩,o.fo⟩
  refine JO J1.ok.frames J1 h1 h2 o1 λh' a I' o'=>G9 none I' o' (.inl rfl) λh'' I'' o''=>?_;exact hh gj _ σ' H' x C dx a D I'' o'' (q' x C rfl o.hx ⟨_,o.rc.is⟩)
end
end
section
variable{qx:Bool}
noncomputable def A2:D->Bool
 |.exc _ _=>true
 |_=>false
def exE(E:XK)(v:V)(H:Hp):Prop:=∀x dx,v=.ref x->E (.ref x) dx H
section
variable(K:gi)
inductive RX(E:L2.St->XK)(f:M D)(σ:L2.St)(H:Hp)(Q:VK):Prop where
 |mk (Oo:gm->Prop) (c:Cf) (t:T) (fi:FInv K Oo c t σ H) (r:D) (t':T) (e:f t=some (r,t')) (k:∀v H' c',FInv K Oo c' t' σ H'->Stp Oo c H c' H'->Rep K c' H' v r->if A2 r=true then exE (E σ) v H' else Q v H'):RX E f σ H Q
def μX(E:XK):Cf->Hp->D->(V->Hp->Prop)->Prop:=λc H r rt=>∀v,Rep K c H v r->if A2 r=true then exE E v H else rt v H
inductive RSX(E:L2.St->XK)(f:M Out)(D:Ends)(σ:L2.St)(H:Hp):Prop where
 |mk (Oo:gm->Prop) (c:Cf) (t:T) (fi:FInv K Oo c t σ H) (o:Out) (t':T) (e:f t=some (o,t')) (k:∀σ' H' c',FInv K Oo c' t' σ' H'->Stp Oo c H c' H'->
 match (generalizing:=false) o with
 |.next=>D.nx σ' H'
 |.brk=>D.bk σ' H'
 |.cont=>D.ct σ' H'
 |.ret r=>∀v,Rep K c' H' v r->if A2 r=true then exE (E σ') v H' else D.rt v H'):RSX E f D σ H
inductive spX(f:Fn)(vs:List V)(H:Hp)(Q:VK)(E:XK):Prop where
 |mk (c:Cf) (ds:List D) (S:List Ob) (si:SInv K c S H) (rs:Reps K c H vs ds) (r:D) (S':List Ob) (e:f ds S=some (r,S')) (k:∀v H' c',SInv K c' S' H'->Stp c.O c H c' H'->(∀b,c'.O b↔c.O b)->Rep K c' H' v r->if A2 r=true then exE E v H' else Q v H'):spX f vs H Q E
end
def GJ(g:Fn):Fn:=λds S=>match g ds S with
 |some (r,S')=>if A2 r=true then none else some (r,S')
 |none=>none
variable{g:Fn}{r:D}
theorem R6{ds:List D}{S S':List Ob}(h:GJ g ds S=some (r,S')):g ds S=some (r,S')/\A2 r=false:=by
 unfold GJ at h
 split at h
 .next r' S1 e=>
  by_cases hx:A2 r'=true
  .rw[jY hx] at h;cases h
  .rw[jZ hx] at h;cases h;exact⟨e,by simpa using hx⟩
 .cases h
variable{fa:gm}{fd:gy}{x:Str}
section
variable{P:gq}{w:gu}{K:gi}{mg:Str->Option gk}{base:Heap}
theorem aW{k:Nat}{ps:List Str}(F:FnOk P w K mg base (CX1 qx P w) k fa fd ps (spX K g)):FnOk P w K mg base CX0 k fa fd ps (spF K (GJ g)):=
 F.calm λvs H Q E z9=>by
  clear 5 z9 c ds S si rs r S' e kk;clear 5(R6 e)e1 e2;exact⟨c,ds,S,si,rs,r,S',e1,λv H' c' a1 a2 a3 a4=>by rw[jZ (by rw[e2];decide)];exact kk v H' c' a1 a2 a3 a4⟩
theorem Wi{qual:Str}{st:Stmt}{N ps:List Str}{k n m:Nat}{g:M Out}(e1:ps.length=n)(e2:N.length=m)(F:Fun K x qual st fa fd)(S:FnScope N ps (AA st))
 (hb:∀(cdv:gk) (A:Around) (outer:List Env) (s:gn) (H:Hp) (E:XK),Room k (A.deeper (PyProof.Rows.envOfC qual (AA st) s.heap.objs.size fa cdv))->
   Ek (CX1 qx P w) (cxX qx P w K mg base N qual (AA st) fa cdv A outer s H E) (λ_=>E)->HZ qx (cxX qx P w K mg base N qual (AA st) fa cdv A outer s H E) (λ_=>E)->
   PassesOwn (model P w) (cxX qx P w K mg base N qual (AA st) fa cdv A outer s H E).A (cxX qx P w K mg base N qual (AA st) fa cdv A outer s H E).env (cxX qx P w K mg base N qual (AA st) fa cdv A outer s H E).xe->
   PSs (cxX qx P w K mg base N qual (AA st) fa cdv A outer s H E) (BS st) (RSg K (μX K E) g)):FnOk P w K mg base (CX1 qx P w) (k+1) fa fd ps (spX K (fnOf n m g)):=by
 subst e1 e2;have hlen:∀{ds:List D}{S:List Ob}{z:D×List Ob},fnOf ps.length N.length g ds S=some z->ds.length=ps.length:=λ{ds S z} h=>by
  unfold fnOf at h
  split at h
  .next h1=>exact h1
  .cases h
 refine F.okX S (λvs H Q E h=>?_) (λcdv A outer s H vs Q E hr h=>?_)
 .obtain⟨c,ds,S,si,rs,r,S',e,_⟩:=h;rw[rs.length];exact hlen e
 clear 5 h c ds S0 si rs r S' e kk;refine⟨RSg K (μX K E) g,hb cdv A outer s H E hr XE.pass XE.raises (XE.own rfl rfl),?_⟩;have hl:=hlen e;unfold fnOf at e;rw[jY hl] at e
 cases eg:g ⟨env0 N.length ds,S0⟩ with
 |none=>rw[eg] at e;cases e
 |some p=>
   clear 5 p o t;rw[eg] at e;refine⟨c.O,c,_,Hw si rs,o,t,eg,λσ' H' c' f' s'=>?_⟩;clear 5 f'.leave si' ext';have st':Stp c.O c H ⟨c'.ι,c.O⟩ H':=⟨s'.ext.trans ext',s'.oo⟩
   cases o with
   |next=>cases e;exact kk .non H' _ si' st' (λ_=>jX) .non
   |ret d=>cases e;exact λv rv=>kk v H' _ si' st' (λ_=>jX) (rv.mono ext')
   |brk=>cases e
   |cont=>cases e
theorem Xo{ps:List Str}{k:Nat}{f:Fn}(e:f=g)(h:FnOk P w K mg base (CX1 qx P w) k fa fd ps (spX K g)):FnOk P w K mg base (CX1 qx P w) k fa fd ps (spX K f):=by rw[e];exact h
end
variable{f:M D}{h:D->D->M D}{R:R2}
section
variable{X:Cx}{e a b:Expr}{es:List Expr}{pos:Pos}{E:L2.St->XK}{st:Stmt}
theorem KZ{E:XK}{f:M Out}(h:PS X st (RSX X.K (λ_=>E) f)):PS X st (RSg X.K (μX X.K E) f):=A7 h λD σ H z9=>by
 clear 5 z9 Oo c t fi o t' eq k;refine⟨Oo,c,t,fi,o,t',eq,λσ' H' c' f' s'=>?_⟩;have q:=k σ' H' c' f' s'
 cases o<;>exact q
theorem Wq{k:Nat}{ps:List Str}{f:M (List D)}{p:Pos}(F:FnOk X.prog X.w X.K X.mg X.base (CX1 qx X.prog X.w) k fa fd ps (spX X.K g))(hr:Room k X.A)(hg:Gl X x)(hm:X.mg x=some (.ref fa))(hk:PySem.W.keepIn X.K (.ref fa)=true)(hb:Binds X.K fd ps [])
 (hx:Ek (CX1 qx X.prog X.w) X E) (ha:PA X (e::es) (RA X.K f)) (hdb:(x==("__debug__":Str))=false:=by decide) (h1:AV e=false:=by rfl) (h2:A1 es=true:=by rfl) :
 PE X (.Call (.Name x p) (e::es) [] pos) (RX X.K E (Ag g f)):=
 AE (Uv F hr hg hm hk hb hx ha hdb (AX h1) (AW h2).1) λσ H Q z9=>by
  clear 5 z9 Oo c t fi r t' eq kk;clear 5(Af eq)ds t1 e1 eq;clear 5(Fl eq)S' e2 rfl;refine⟨Oo,c,t,fi,ds,t1,e1,λvs H1 c1 f1 s1 rvs=>?_⟩;refine⟨c1,ds,t1.S,f1.s,rvs,r,S',e2,λv H' c' si st ho rv=>?_⟩;clear 5(f1.after si st ho)f2 s2;exact kk v H' c' f2 (s1.trans s2) rv
def nxD(f:M D):M D:=bnd f λd=>if A2 d=true then fail else ret d
theorem NV{t t':T}(h:nxD f t=some (r,t')):f t=some (r,t')/\A2 r=false:=by
 clear 5(Af h)d t1 e1 h
 by_cases hx:A2 d=true
 .rw[jY hx] at h;cases h
 .rw[jZ hx] at h;cases h;exact⟨e1,by simpa using hx⟩
theorem Rn{A B:Prop}(h:A2 r=false)(q:if A2 r=true then A else B):B:=by rw[jZ (by rw[h];decide)] at q;exact q
def Lj(g:M D)(h:D->M D):M D:=bnd g λy=>if A2 y=true then ret y else nxD (h y)
theorem RX.bind{K:gi}{g:M D}{h:D->M D}{σ:L2.St}{H:Hp}{Q:VK}{Oo:gm->Prop}{c:Cf}{t t':T}(fi:FInv K Oo c t σ H)(eq:Lj g h t=some (r,t'))
 (k:∀v H' c',FInv K Oo c' t' σ H'->Stp Oo c H c' H'->Rep K c' H' v r->if A2 r=true then exE (E σ) v H' else Q v H'){R:V->Hp->Prop}
 (s:∀y dy t1 H1 c1,FInv K Oo c1 t1 σ H1->Stp Oo c H c1 H1->Rep K c1 H1 y dy->h dy t1=some (r,t')->(∀v H' c',FInv K Oo c' t' σ H'->Stp Oo c1 H1 c' H'->Rep K c' H' v r->Q v H')->R y H1):RX K E g σ H R:=by
 clear 5(Af eq)dy t1 e1 eq;refine⟨Oo,c,t,fi,dy,t1,e1,λy H1 c1 f1 s1 ry=>?_⟩
 by_cases hx:A2 dy=true
 .rw[jY hx] at eq⊢
  cases eq
  have:=k y H1 c1 f1 s1 ry;rw[jY hx] at this;exact this
 .rw[jZ hx] at eq⊢;clear 5(NV eq)e2 e3;exact s y dy t1 H1 c1 f1 s1 ry e2 λv H' c' f' s' rv=>Rn e3 (k v H' c' f' (s1.trans s') rv)
def Ff(f g:M D)(h:D->D->M D):M D:=bnd f λx=>Lj g λy=>h x y
theorem RX.two{K:gi}{g:M D}(s:Bb K R h){σ:L2.St}{H:Hp}{Q:VK}(q:RX K E (Ff f g h) σ H Q):tOp R (RE K f) (RX K E g) σ H Q:=by
 clear 5 q Oo c t fi r t' eq k;clear 5(Af eq)dx t1 e1 eq;refine⟨Oo,c,t,fi,dx,t1,e1,λx H1 c1 f1 s1 rx=>?_⟩;exact RX.bind f1 eq (λv H' c' f' s' rv=>k v H' c' f' (s1.trans s') rv) λy dy t2 H2 c2 f2 s2 ry e2 kk=>s f2 (rx.mono s2.ext) ry e2 kk
theorem bu{op:Operator}{g:M D}(ho:OpR X (binaryOp op) R)(s:Bb X.K R h)(ha:PE X a (RE X.K f))(hb:PE X b (RX X.K E g)):PE X (.BinOp a op b pos) (RX X.K E (Ff f g h)):=
 AE (Qg ho ha hb) λ_ _ _ q=>RX.two s q
theorem br{g:M D}(hr:IxR X R)(s:Bb X.K R h)(ha:PE X a (RE X.K f))(hb:PE X b (RX X.K E g))(hs:IQ b):PE X (.Subscript a b pos) (RX X.K E (Ff f g h)):=
 AE (Qe hr ha hb hs) λ_ _ _ q=>RX.two s q
def fY(f g:M D)(h:D->D->M D):M D:=Lj f λx=>bnd g λy=>h x y
def KA(g:Fn)(f:M D):M D:=Lj f λd t=>match g [d] t.S with
 |some (r,S')=>some (r,{t with S:=S'})
 |none=>none
theorem TZ{k:Nat}{ps:List Str}{p:Pos}(F:FnOk X.prog X.w X.K X.mg X.base CX0 k fa fd ps (spF X.K g))(hr:Room k X.A)(hg:Gl X x)(hm:X.mg x=some (.ref fa))(hk:PySem.W.keepIn X.K (.ref fa)=true)(hb:Binds X.K fd ps [])
 (ha:PE X e (RX X.K E f)) (hdb:(x==("__debug__":Str))=false:=by decide) (h1:AV e=false:=by rfl) :
 PE X (.Call (.Name x p) [e] [] pos) (RX X.K E (KA g f)):=
 AE (LI F hr hg hm hk hb .nil HH (O5 ha Sd (AX h1)) hdb (AX h1) rfl) λσ H Q z9=>by
  clear 5 z9 Oo c t fi r t' eq kk;show RX X.K E f σ H λy H1=>spF X.K g ([y]++[]) H1 Q E0;refine RX.bind fi eq kk λy dy t1 H1 c1 f1 s1 ry e2 k2=>?_;clear 5(Fl e2)S' e3 rfl;refine⟨c1,[dy],t1.S,f1.s,.cons ry .nil,r,S',e3,λv H' c' si st ho rv=>?_⟩;clear 5(f1.after si st ho)f2 s2;exact k2 v H' c' f2 s2 rv
theorem OX(h:PE X e (RX X.K E f)):PS X (.Return (some e) pos) (RSX X.K E (Al f)):=
 A7 (IE h) λD σ H z9=>by
  clear 5 z9 Oo c t fi o t' eq k;clear 5(Af eq)d t1 e1 eq
  cases eq
  exact⟨Oo,c,t,fi,d,_,e1,λv H1 c1 f1 s1 rv=>k σ H1 c1 f1 s1 v rv⟩
def CV(i:Nat)(f:M D):M Out:=bnd f λd=>if A2 d=true then ret (.ret d) else bnd (Aw i d) λ_=>ret .next
theorem OY{i:Nat}{pos':Pos}(hN:X.N.Nodup)(hi:X.N[i]?=some x)(hx:Loc X.env.scope x)(he:PE X e (RX X.K E f))(hs:swapsWith e (some (.Name x pos')) pos.line X.env=pure false:=by rfl)(hf:X.fn x=true\/X.env.scope.names.lookup x=some .local:=by walk_at"h") :
 PS X (.Assign [.Name x pos'] e pos) (RSX X.K E (CV i f)):=A7 (N1 hN hi hx he hs hf) λD σ H z9=>by
 clear 5 z9 Oo c t fi o t' eq k;clear 5(Af eq)d t1 e1 eq;refine⟨Oo,c,t,fi,d,t1,e1,λv H1 c1 f1 s1 rv=>?_⟩
 by_cases hx:A2 d=true
 .rw[jY hx] at eq⊢
  cases eq
  have:=k σ H1 c1 f1 s1 v rv;rw[jY hx] at this;exact this
 .rw[jZ hx] at eq⊢
  cases eq
  exact k _ H1 c1 (f1.set rv) s1
def fX(f:M D):M Out:=bnd f λd=>if A2 d=true then ret (.ret d) else ret .next
def f9(f:M D)(g:D->M Unit):M Out:=bnd f λd=>if A2 d=true then ret (.ret d) else bnd (g d) λ_=>ret .next
theorem TX{f:M Out}(h:PS X st (RSX X.K E f)):PSs X [st] (RSX X.K E f):=LK h
end
end
structure XGet(K:gi)(C:gm):Prop where
 ga:findIn K (.ref C) "__getattribute__" = some (some (.builtin "BaseException.__getattribute__"))
 gt:findIn K (.ref C) "__getattr__" = some none
 mb:mroIn K C (.type "BaseException")=some true
 mo:mroIn K C (.type "object")=some true
 hd:hasDictIn K C=true
section
variable{prog:gq}{w:gu}{A:Around}{E:gk->gn->Prop}{s:gn}{K:gi}{x C:gm}{ox:Obj}{od:Option Obj}{name:Str}{tk:Tok}{Q:gk->gn->Prop}{R:Result->gn->Prop}
theorem Q2{fill expr:Bool}(X:K.In s.heap)(I:InstAt s.heap x ox C od)(g:XGet K C)
 (h:codeAny (model prog w) A (.call (.builtin "BaseException.__getattribute__") ⟨[.ref x,.str name tk],[]⟩) (λr s'=>match r with | .ok (.ret v)=>wpAny (model prog w) A (handedOut v) Q E s'|_=>False) s) :
 wpAny (model prog w) A (getAttrBy (.ref x) (.str name tk) fill expr) Q E s:=by
 have L0:=I.type (M:=model prog w);have L1:=looks_findIn (M:=model prog w) X g.ga;have L2:=looks_findIn (M:=model prog w) X g.gt;have ne:(onTheHeap (Value.ref C)&&Value.builtin "BaseException.__getattribute__" == Value.builtin "object.__getattribute__")=false:=by
  rw[show(Value.builtin "BaseException.__getattribute__" == Value.builtin "object.__getattribute__")=false from by decide +kernel];rfl
 unfold getAttrBy;refine um1 (un8 (L0.here (un8 (L1.here ?_))));show wpAny _ _ (if (onTheHeap (Value.ref C)&&Value.builtin "BaseException.__getattribute__" == Value.builtin "object.__getattribute__")=true then _ else _) _ _ _;rw[jZ (by rw[ne];decide)];unfold getAttrByItsOwn hookBefore;rw[jY (show onTheHeap (Value.ref C)=true from rfl)];refine un8 (L2.here (un8 (wpAny_attempt (um1 ?_))));unfold callGetattribute;rw[jZ (show ¬((expr&&onTheHeap (Value.builtin "BaseException.__getattribute__"))=true) from by cases expr<;>decide)];unfold boundAndCalled;refine un8 (wpAny_of_eq (PySem.F.excAttr_ValueError.ga.bind _) (jQ (jH h λr s' z=>?_)))
 cases r with
 |error e=>exact z.elim
 |ok f=>cases f<;>first|exact z|exact z.elim
theorem T1(X:K.In s.heap)(I:InstAt s.heap x ox C od)(g:XGet K C)
 (h:wpAny (model prog w) A.in1 («object.__getattribute__» ⟨[.ref x,.str name tk],[]⟩) (λfin s'=>match fin with | .done f=>R (.ok f) s' | .again c'=>c'.quiet=true/\codeAny (model prog w) A c' R s') (λe s'=>R (.error e) s') s) :
 codeAny (model prog w) A (.call (.builtin "BaseException.__getattribute__") ⟨[.ref x,.str name tk],[]⟩) R s:=by
 have ob:Looks (model prog w) s.heap (isInstance (.ref x) (.type "BaseException")) true:=I.type.andThen (looks_mroIn X g.mb);refine jh PySem.F.excAttr_ValueError.ga.plain PySem.F.entry_bexc_ga (@check_slot (model prog w) _ _ s "BaseException.__getattribute__" "BaseException" "__getattribute__" (.ref x) [.str name tk] [] _ (by decide +kernel) (by decide +kernel) ob (PySem.F.args_bexc_ga (.ref x) (.str name tk)) h)
theorem T2{v:gk}(X:K.In s.heap)(I:InstAt s.heap x ox C od)(g:XGet K C)(hf:findObj K C od name=some (.value v))(h:R (.ok (.ret v)) s) :
 codeAny (model prog w) A (.call (.builtin "BaseException.__getattribute__") ⟨[.ref x,.str name tk],[]⟩) R s:=by
 refine T1 X I g ?_;have L0:=I.type (M:=model prog w);have L1:=looks_find (M:=model prog w) X I hf;refine un8 (un9 (un8 (un9 (un8 (L0.here (un8 (L1.here ?_)))))));exact un9 h
end
section
variable{qx:Bool}
abbrev Bv:List Str:=["Short", "Broken", "NoTalk"]
structure XM(K:gi)(mg:Str->Option gk)(P:gm)(ca:Str->gm):Prop where
 pm:mg "ParleyError" = some (.ref P)
 pc:XCl K P VE
 ns:∀n∈Bv,nsIn K mainGlobals n=some (some (.ref (ca n)))
 ms:∀n∈Bv,mg n=some (.ref (ca n))
 cl:∀n∈Bv,XCl K (ca n) (.ref P::VE)
 inj:∀n∈Bv,∀m∈Bv,ca n=ca m->n=m
 np:∀n∈Bv,ca n≠P
 kp:∀n∈Bv,keepIn K (.ref (ca n))=true
 gt:∀n∈Bv,XGet K (ca n)
 gc:∀n∈Bv,findIn K (.ref (ca n)) "__class__" = some (some (.builtin "object.__class__"))
 na:∀n∈Bv,findIn K (.ref (ca n)) "at" = some none
 nd:∀n∈Bv,findIn K (.ref (ca n)) "side" = some none
noncomputable def Gj(n m:Str):Bool:=m == "ParleyError" || m == "ValueError" || n==m
theorem Ii{a b:gm}{r:List gk}:(Value.ref a::r).contains (.ref b)=(a==b||r.contains (.ref b)):=by
 rw[List.contains_cons]
 congr 1
 by_cases h:a=b
 .subst h;simp
 .rw[ji.mpr h,ji.mpr (λz:Value.ref b=Value.ref a=>h (Value.ref.inj z).symm)]
theorem Yn{b:gm}:VE.contains (.ref b)=false:=rfl
section
variable{K:gi}{mg:Str->Option gk}{P:gm}{ca:Str->gm}
theorem XM.subE(x:XM K mg P ca){n m:Str}(hn:n∈Bv)(hm:m∈Bv):(Value.ref (ca n)::.ref P::VE).contains (.ref (ca m))=Gj n m:=by
 rw[Ii,Ii,Yn,ji.mpr (Ne.symm (x.np m hm)),ul1,ul1];have h1:(m==("ParleyError":Str))=false/\(m==("ValueError":Str))=false:=by
  simp only[Bv,uk9,uh6,jV] at hm;rcases hm with rfl|rfl|rfl<;>exact⟨by decide,by decide⟩
 unfold Gj;rw[h1.1,h1.2,ul5,ul5]
 by_cases h:n=m
 .subst h;rw[ui1,ui1]
 .rw[ji.mpr h,ji.mpr λz=>h (x.inj n hn m hm z)]
theorem XM.of(x:XM K mg P ca){n:Str}{C:gm}(hn:n∈Bv)(h:nsIn K mainGlobals n=some (some (.ref C))):C=ca n:=by
 rw[x.ns n hn] at h;injection h with h;injection h with h;injection h with h
 exact h.symm
end
theorem Yf{q1 q2:Bool}{x C C':gm}{dx dx':Option gm}(h:XIs q1 x C dx=XIs q2 x C' dx')(e:∃h,XIs q1 x C dx h):C=C'/\dx=dx':=by
 clear 5 e hh o vs e1 e2 e3 e4;have q:XIs q2 x C' dx' hh:=by rw[<-h];exact⟨o,vs,e1,e2,e3,e4⟩
 clear 5 q o' vs' q1 q2 q3 q4;rw[e1] at q1;cases q1
 rw[e2] at q2;cases q2
 exact⟨rfl,e3.symm.trans q3⟩
section
variable{X:Cx}{e:Expr}{es:List Expr}{pos p pos2:Pos}{E:L2.St->XK}{P:gm}{ca:Str->gm}
def XN1(prog:gq)(w:gu)(K:gi)(mg:Str->Option gk)(base:Heap)(C P:gm):Prop:=
 ∃(f:gm) (fd:gy) (ps:List Str),XMk K C P f/\XAt K C P "at"/\Binds K fd ps []/\FnOk prog w K mg base CX0 1 f fd ps (spI K P "at")
def IG(n:Str)(f:M (List D)):M Out:=bnd f λds=>match ds with
 |[d]=>ret (.ret (.exc n [d]))
 |_=>fail
theorem Rg{f:M (List D)}(x:XM X.K X.mg P ca)(xn:XN1 X.prog X.w X.K X.mg X.base (ca "NoTalk") P)(hr:L2.Room 2 X.A)(hc:X.calm=true)(hx:HZ qx X E)(hg:Gl X "NoTalk")(ha:PA X [e] (RA X.K f))
 (h1:AV e=false:=by rfl):PS X (.Raise (some (.Call (.Name "NoTalk" p) [e] [] pos)) none pos2) (RSX X.K E (IG "NoTalk" f)):=by
 clear 5 xn fa fd ps M A B F;have hn:("NoTalk":Str)∈Bv:=by decide
 refine A7 (N0 hc M.cl hx (ZN M A F hr B hg (x.ms _ hn) ha (by decide) (AX h1))) λD σ H z9=>?_;clear 5 z9 Oo c t fi o t' eq k;clear 5(Af eq)ds t1 e1 eq;refine⟨Oo,c,t,fi,ds,t1,e1,λvs H1 c1 f1 s1 rvs=>?_⟩
 match ds,rvs,eq with
 |[],_,eq=>cases eq
 |_::_::_,_,eq=>cases eq
 |[d],.cons (v:=v0) rv .nil,eq=>
   cases eq
   refine⟨_,rfl,λy dx hy hdx ne=>?_⟩;have f2:=f1.laid (o:=.xd [("at",v0)]) hdx;have hy2:upd H1 dx (.xd [("at",v0)]) y=none:=by rw[Aq (Ne.symm ne)];exact hy
   have f3:=f2.laid (o:=.ext (XIs qx y (ca "NoTalk") (some dx))) hy2;have s3:=s1.trans ((f1.stp_laid (o:=.xd [("at",v0)]) hdx).trans (f2.stp_laid (o:=.ext (XIs qx y (ca "NoTalk") (some dx))) hy2));refine k σ _ c1 f3 s3 (.ref y) (.exc (x.ns _ hn) AC (f2.s.free hy2) ?_ (.cons (rv.mono ((f1.stp_laid hdx).ext.trans (f2.stp_laid hy2).ext)) .nil)) y (some dx) rfl;exact⟨by rw[Aq ne,AC];rfl,f1.s.free hdx⟩
def XN0(K:gi)(C:gm):Prop:=∃cd,clsIn K C=some cd/\nsIn K cd.ns "__init__" = some none
def IF(n:Str)(f:M (List D)):M Out:=bnd f λds=>if ds.length<=1000 then ret (.ret (.exc n [])) else fail
theorem Rf{n:Str}{f:M (List D)}(x:XM X.K X.mg P ca)(hn:n∈Bv)(hf:JI n=[])(xn:XN0 X.K (ca n))(hc:X.calm=true)(hx:HZ qx X E)(hg:Gl X n)(ha:PA X (e::es) (RA X.K f))
 (hdb:(n==("__debug__":Str))=false:=by decide) (h1:AV e=false:=by rfl) (h2:A1 es=true:=by rfl):PS X (.Raise (some (.Call (.Name n p) (e::es) [] pos)) none pos2) (RSX X.K E (IF n f)):=by
 clear 5 xn cd hcd hni;refine A7 (N0 hc (x.cl n hn) hx (W7 (x.cl n hn) (x.kp n hn) hcd hni hg (x.ms _ hn) ha hdb (AX h1) (AW h2).1)) λD σ H z9=>?_;clear 5 z9 Oo c t fi o t' eq k;clear 5(Af eq)ds t1 e1 eq;refine⟨Oo,c,t,fi,ds,t1,e1,λvs H1 c1 f1 s1 rvs=>?_⟩
 split at eq
 .next hl=>
  cases eq
  refine⟨by rw[rvs.length];exact hl,λy hy=>?_⟩;have f3:=f1.laid (o:=.ext (XIs qx y (ca n) none)) hy;exact k σ _ c1 f3 (s1.trans (f1.stp_laid hy)) (.ref y) (.exc (x.ns _ hn) AC (f1.s.free hy) (vs:=[]) rfl .nil) y none rfl
 .cases eq
end
section
variable{X:Cx}{pos p:Pos}{P:gm}{ca:Str->gm}{μ:Cf->Hp->D->(V->Hp->Prop)->Prop}
inductive RH(K:gi)(ca:Str->gm)(μ:Cf->Hp->D->(V->Hp->Prop)->Prop)(h:D->M Out)(x C:gm)(dx:Option gm)(E:Ends)(σ:L2.St)(H:Hp):Prop where
 | mk (Oo:gm->Prop) (c:Cf) (t:T) (n:Str) (ds:List D) (fi:FInv K Oo c t σ H) (hn:n∈Bv) (hC:C=ca n) (rp:Rep K c H (.ref x) (.exc n ds)) (o:Out) (t':T) (e:h (.exc n ds) t=some (o,t')) (k:∀σ' H' c',FInv K Oo c' t' σ' H'->Stp Oo c H c' H'->
   match (generalizing:=false) o with
   |.next=>E.nx σ' H'
   |.brk=>E.bk σ' H'
   |.cont=>E.ct σ' H'
   |.ret r=>μ c' H' r E.rt):RH K ca μ h x C dx E σ H
noncomputable def unE(i:Nat)(t:T):T:={t with env:=t.env.set i none}
theorem FInv.unset{K:gi}{Oo:gm->Prop}{c:Cf}{t:T}{σ:L2.St}{H:Hp}(f:FInv K Oo c t σ H)(i:Nat):FInv K Oo c (unE i t) (σ.set i none) H:=by
 have neq:∀{j:Nat}{x:Sl},(t.env.set i none)[j]?=some (some x)->j≠i/\t.env[j]?=some (some x):=λ{j x} q=>by
  by_cases h:j=i
  .subst h;rw[ug1] at q
   split at q
   .split at q
    .injection q with q;cases q
    .cases q
   .next h1=>exact absurd rfl h1
  .rw[ud3 (Ne.symm h)] at q;exact⟨h,q⟩
 refine⟨f.s,by simp[unE,f.len],f.sub,λj e q=>?_,λj ds q=>?_,λj k ds es a q1 q2 q3 q4=>?_⟩
 .clear 5(neq q)h q;clear 5(f.val j e q)u h1 h2;exact⟨u,by rw[ud3 (Ne.symm h)];exact h1,h2⟩
 .clear 5(neq q)h q;clear 5(f.own j ds q)a vs h1 h2;exact⟨a,vs,by rw[ud3 (Ne.symm h)];exact h1,h2⟩
 .clear 5(neq q1)h q1;clear 5(neq q2)h' q2;rw[ud3 (Ne.symm h)] at q3;rw[ud3 (Ne.symm h')] at q4;exact f.inj j k ds es a q1 q2 q3 q4
def hAs(n':Str)(i:Nat)(s:M Out)(r:D->M Out):D->M Out:=λe t=>match e with
 | .exc n ds=>if Gj n n'=true then (match s { t with env:=t.env.set i (some (.val (.exc n ds))) } with
   |some (o,t2)=>some (o,unE i t2)
   |none=>none) else r (.exc n ds) t
 |_=>none
def hNo(n':Str)(s:M Out)(r:D->M Out):D->M Out:=λe t=>match e with
 |.exc n ds=>if Gj n n'=true then s t else r (.exc n ds) t
 |_=>none
noncomputable def PZ:D->M Out:=λ_ _=>none
theorem YT:PH qx X [] (RH X.K ca μ PZ):=by
 rintro _ _ _ _ _ _ _ _ _ _ _ ⟨_,_,_,_,_,_,_,_,_,_,_,e,_⟩
 cases e
theorem Vk{n' v:Str}{C':gm}{bm':List gk}{i:Nat}{b₀:Stmt}{suite:List Stmt}{rest:List ExceptHandler}{s:M Out}{r:D->M Out}(x:XM X.K X.mg P ca)(hg:Gl X n')(hm:X.mg n'=some (.ref C'))(c':XCl X.K C' bm')(hs:∀n∈Bv,(Value.ref (ca n)::.ref P::VE).contains (.ref C')=Gj n n')
 (hN:X.N.Nodup) (hi:X.N[i]?=some v) (hl:X.env.scope.names.lookup v=some .local) (hb:∀x,PSs (X.mark x) (b₀::suite) (RSg X.K μ s)) (hr:PH qx X rest (RH X.K ca μ r)) (hdb:(n'==("__debug__":Str))=false:=by decide) :
 PH qx X (.ExceptHandler (some (.Name n' p)) (some v) (b₀::suite) pos::rest) (RH X.K ca μ (hAs n' i s r)):=by
 intro gj s0 σ H y C dx T D I o q;refine bL hg hm c' hN hi hl hb hr hdb gj s0 σ H y C dx T D I o ?_;clear 5 q Oo c t n ds fi hn rfl rv o1 t' eq k;refine⟨_,x.cl n hn,?_⟩;rw[hs n hn];unfold hAs at eq;dsimp only at eq
 by_cases hb':Gj n n'=true
 .rw[jY hb'] at eq⊢
  cases e1:s {t with env:=t.env.set i (some (.val (.exc n ds)))} with
  |none=>rw[e1] at eq;cases eq
  |some z=>
    clear 5 z o2 t2;rw[e1] at eq
    cases eq
    refine⟨Oo,c,_,fi.set rv,o1,t2,e1,λσ' H' c2 f2 s2=>?_⟩;have:=k _ H' c2 (f2.unset i) s2
    cases o1<;>exact this
 .rw[jZ hb'] at eq⊢;exact⟨Oo,c,t,n,ds,fi,hn,rfl,rv,o1,t',eq,k⟩
theorem bj{n':Str}{C':gm}{bm':List gk}{b₀:Stmt}{suite:List Stmt}{rest:List ExceptHandler}{s:M Out}{r:D->M Out}(x:XM X.K X.mg P ca)(hg:Gl X n')(hm:X.mg n'=some (.ref C'))(c':XCl X.K C' bm')(hs:∀n∈Bv,(Value.ref (ca n)::.ref P::VE).contains (.ref C')=Gj n n')
 (hb:∀x,PSs (X.mark x) (b₀::suite) (RSg X.K μ s)) (hr:PH qx X rest (RH X.K ca μ r)) (hdb:(n'==("__debug__":Str))=false:=by decide) :
 PH qx X (.ExceptHandler (some (.Name n' p)) none (b₀::suite) pos::rest) (RH X.K ca μ (hNo n' s r)):=by
 intro gj s0 σ H y C dx T D I o q;refine bM hg hm c' hb hr hdb gj s0 σ H y C dx T D I o ?_;clear 5 q Oo c t n ds fi hn rfl rv o1 t' eq k;refine⟨_,x.cl n hn,?_⟩;rw[hs n hn];unfold hNo at eq;dsimp only at eq
 by_cases hb':Gj n n'=true
 .rw [jY hb'] at eq ⊢;exact ⟨Oo,c,t,fi,o1,t',eq,λσ' H' c2 f2 s2=>by
   have:=k _ H' c2 f2 s2
   cases o1<;>exact this⟩
 .rw[jZ hb'] at eq⊢;exact⟨Oo,c,t,n,ds,fi,hn,rfl,rv,o1,t',eq,k⟩
noncomputable def Fc(b:M Out)(h:D->M Out):M Out:=λt=>match b t with
 |some (.ret (.exc n ds),t1)=>if n∈Bv then h (.exc n ds) t1 else none
 |z=>z
theorem Y1{body:List Stmt}{h₀:ExceptHandler}{hs:List ExceptHandler}{b:M Out}{h:D->M Out}(x:XM X.K X.mg P ca)(hμ:∀c H r rt,A2 r=false->(∀v,Rep X.K c H v r->rt v H)=μ c H r rt)(h1:X.stack=X.env::X.outer)(h2:X.env.frame=some X.env.locals)
 (hb:∀(pn:List (gm×Obj)) (E:L2.St->XK),Ek (CX1 qx X.prog X.w) {X with pn:=pn,xe:=XE qx {X with pn:=pn} E} E->PSs {X with pn:=pn,xe:=XE qx {X with pn:=pn} E} body (RSX X.K E b)) (hh:PH qx X (h₀::hs) (RH X.K ca μ h)):PS X (.Try body (h₀::hs) [] [] pos) (RSg X.K μ (Fc b h)):=
 A7 (ZR h1 h2 (λpn E=>hb pn E (XE.pass (X:={X with pn:=pn}))) hh) λD σ H z9=>by
  clear 5 z9 Oo c t fi o t' eq k;unfold Fc at eq
  cases e1:b t with
  |none=>rw[e1] at eq;cases eq
  |some z=>
    clear 5 z o1 t1;rw[e1] at eq;refine⟨Oo,c,t,fi,o1,t1,e1,λσ1 H1 c1 f1 s1=>?_⟩
    cases o1 with
    |next=>cases eq;exact k σ1 H1 c1 f1 s1
    |brk=>cases eq;exact k σ1 H1 c1 f1 s1
    |cont=>cases eq;exact k σ1 H1 c1 f1 s1
    |ret r=>
      intro v rv
      cases hx:A2 r with
      |false=>
        rw[jZ (by decide)];have eq':some (Out.ret r,t1)=some (o,t'):=by cases r<;>first|exact eq|cases hx
        cases eq'
        have q:=k σ1 H1 c1 f1 s1;have q:μ c1 H1 r D.rt:=q;rw[<-hμ _ _ _ _ hx] at q;exact q v rv
      |true=>
        rw[jY rfl];intro y dx hv y' C hy' hC hex
        cases rv with
        |@exc q0 x0 C0 dx0 n vs ds g hx0 hA fl rs=>
          cases hv
          cases hy'
          dsimp only at eq
          split at eq
          .next hn=>
           rw[hx0] at hC;injection hC with hC;injection hC with hC
           clear 5(Yf hC.symm hex)e2 e3;have:=x.of hn g;exact⟨Oo,c1,t1,n,ds,f1,hn,e2.trans this,.exc g hx0 hA fl rs,o,t',eq,λσ' H' c' f' s'=>k σ' H' c' f' (s1.trans s')⟩
          .cases eq
        |_=>cases hx
end
end
section
variable{qx:Bool}
def ge(n:Str):D->M D
 |.exc m _=>if m∈Bv then ret (.bl (Gj m n)) else fail
 |.non=>ret (.bl false)
 |.bl _=>ret (.bl false)
 |.int _=>ret (.bl false)
 |.str _=>ret (.bl false)
 |.lst _=>ret (.bl false)
 |.tup _=>ret (.bl false)
 |.dic=>ret (.bl false)
 |_=>fail
section
variable{X:Cx}{P:gm}{ca:Str->gm}{a:Expr}{f:M D}{p pos q:Pos}
def Ib(nm:Str):D->M D
 | .exc n ds=>if n∈Bv then (match ((JI n).zip ds).lookup nm with
   |some d=>ret d
   |none=>fail) else fail
 |_=>fail
theorem Jw{K:gi}{c:Cf}{H:Hp}{nm:Str}{d:D}:∀{ns:List Str}{vs:List V}{ds:List D},Reps K c H vs ds->(ns.zip ds).lookup nm=some d->∃v,(ns.zip vs).lookup nm=some v/\Rep K c H v d
 |[],_,_,_,e=>by cases e
 |_::_,_,_,.nil,e=>by cases e
 |n::ns,_,_,.cons (v:=v0) (d:=d0) r rs,e=>by
   by_cases h:nm=n
   .subst h;simp only[List.zip_cons_cons,List.lookup,ui1,ug2] at e⊢;subst e;exact⟨v0,rfl,r⟩
   .have hb:(nm==n)=false:=ji.mpr h;simp only[List.zip_cons_cons,List.lookup,hb] at e⊢;exact Jw rs e
theorem YH{nm:Str}(x:XM X.K X.mg P ca)(hno:∀n∈Bv,findIn X.K (.ref (ca n)) nm=some none)(ha:PE X a (RE X.K f))(hb:attributeBase a nm X.env (eval a X.env)=eval a X.env):PE X (.Attribute a nm pos) (RE X.K (bnd f (Ib nm))):=by
 intro gj s σ H Q I h;clear 5 h Oo c0 t fi r t' eq k;clear 5(Af eq)d t1 e1 eq;refine OH hb (thn (ha gj s σ H (λv H1=>∃c1,FInv X.K Oo c1 t1 σ H1/\Stp Oo c0 H c1 H1/\Rep X.K c1 H1 v d) I ⟨Oo,c0,t,fi,d,t1,e1,λv H1 c1 f1 s1 rv=>⟨c1,f1,s1,rv⟩⟩) λu s1 z9=>?_);clear 5 z9 v H1 I1 rx c1 f1 st1 rv
 cases rv with
 |@exc q0 x0 C0 dx0 m vs ds g hx0 hA fl rs=>
   cases (show u=Value.ref x0 from rx)
   unfold Ib at eq;dsimp only at eq
   split at eq
   .next hm=>
    have hc:=x.of hm g;subst hc
    cases el:((JI m).zip ds).lookup nm with
    |none=>rw[el] at eq;cases eq
    |some d'=>
      rw[el] at eq
      cases eq
      clear 5(Jw rs el)v' l1 r1
      cases dx0 with
      |none=>
        have fl:vs=[]:=fl;subst fl;simp at l1
      |some dd=>
        have hdd:H1 dd=some (.xd ((JI m).zip vs)):=fl.1;obtain⟨o,vs0,q1,q2,q3,q4,_⟩:=(I1.hok x0 _ hx0).1;have nc:notCls o=true:=by unfold notCls;rw[q4]
        obtain⟨mA,nA,rA⟩:=(show ObjOk X.prog X.w H1 s1.heap dd (.xd ((JI m).zip vs)) from I1.hok dd _ hdd);clear 5(Mj nA)od ho hl;clear 5(RelO.some_of (v:=v') (o:=mA nm) (by rw[<-l1];exact rA nm))u' hu ru;have IA:InstAt s1.heap x0 o (ca m) (some od):=⟨q1,q2,nc,by rw[q3];exact ho⟩;unfold getAttr;refine un8 (wpAny_mkText ?_);refine Q2 (s:={s1 with toks:=s1.toks+1}) I1.kIn IA (x.gt m hm) (T2 I1.kIn IA (x.gt m hm) (findObj_own (x.gt m hm).hd (hno m hm) rfl (by rw[hl,hu])) ?_);exact handed_on (Mh ru) ⟨v',H1,I1.tok _,ru,k v' H1 c1 f1 st1 r1⟩
   .cases eq
 |_=>cases eq
end
end
section
variable{qx:Bool}
def QG(K:gi)(P c:gm):Bool:=MK K c (.ref P::VE)&&keepIn K (.ref c)&&findIn K (.ref c) "__getattribute__" == some (some (.builtin "BaseException.__getattribute__"))&&findIn K (.ref c) "__getattr__" == some none&&mroIn K c (.type "BaseException")==some true
 && mroIn K c (.type "object")==some true&&hasDictIn K c&&findIn K (.ref c) "__class__" == some (some (.builtin "object.__class__"))&&findIn K (.ref c) "at" == some none&&findIn K (.ref c) "side" == some none
structure XOne(K:gi)(P c:gm):Prop where
 cl:XCl K c (.ref P::VE)
 kp:keepIn K (.ref c)=true
 gt:XGet K c
 gc:findIn K (.ref c) "__class__" = some (some (.builtin "object.__class__"))
 na:findIn K (.ref c) "at" = some none
 nd:findIn K (.ref c) "side" = some none
variable{K:gi}{P:gm}
theorem L4{c:gm}(h:QG K P c=true):XOne K P c:=by
 unfold QG at h;simp only[uh1,jP] at h;obtain⟨⟨⟨⟨⟨⟨⟨⟨⟨h1,h2⟩,h3⟩,h4⟩,h5⟩,h6⟩,h7⟩,h8⟩,h9⟩,h10⟩:=h;exact⟨.of_in h1,h2,⟨h3,h4,h5,h6,h7⟩,h8,h9,h10⟩
noncomputable def Lr(c1 c2 c3:gm):Str->gm:=λn=>if n = "Short" then c1 else if n = "Broken" then c2 else c3
theorem CP{Q:Str->Prop}(h1:Q "Short")(h2:Q "Broken")(h3:Q "NoTalk"):∀n∈Bv,Q n:=by
 intro n hn;simp only[Bv,uk9,uh6,jV] at hn;rcases hn with rfl|rfl|rfl<;>assumption
def QF(K:gi)(P:gm)(cs:List gm):Bool:=MK K P VE&&cs.all (QG K P)
theorem c7{h:Heap}{mg:Str->Option gk}{c1 c2 c3:gm}(X:K.In h)(G:h.Ns mainGlobals mg)(p:nsIn K mainGlobals "ParleyError" = some (some (.ref P)))(a1:nsIn K mainGlobals "Short" = some (some (.ref c1)))(a2:nsIn K mainGlobals "Broken" = some (some (.ref c2)))(a3:nsIn K mainGlobals "NoTalk" = some (some (.ref c3)))(q:QF K P [c1,c2,c3]=true)(nd:[P,c1,c2,c3].Nodup):XM K mg P (Lr c1 c2 c3):=by
 unfold QF at q;simp only[ul3,List.all_nil,ul6,uh1] at q;clear 5 q q0 q1 q2 q3;have o1:=L4 q1;have o2:=L4 q2;have o3:=L4 q3;have inj:∀n∈Bv,∀m∈Bv,Lr c1 c2 c3 n=Lr c1 c2 c3 m->n=m:=by
  simp only[ui7,uk9,uh6,jV,not_or,List.nodup_nil,and_true] at nd;obtain⟨⟨n1,n2,n3⟩,⟨m12,m13⟩,m23,_⟩:=nd;have h1:Lr c1 c2 c3 "Short" = c1:=rfl;have h2:Lr c1 c2 c3 "Broken" = c2:=rfl;have h3:Lr c1 c2 c3 "NoTalk" = c3:=rfl;refine CP ?_ ?_ ?_<;>refine CP ?_ ?_ ?_<;>intro e<;>first|rfl|(exfalso;rw[h1] at e)|(exfalso;rw[h2] at e)|(exfalso;rw[h3] at e)
  all_goals (first|rw[h1] at e|rw[h2] at e|rw[h3] at e)
  all_goals (first|contradiction|(have e:=e.symm;contradiction))
 refine⟨mg_of X G p,.of_in q0,CP a1 a2 a3,CP (mg_of X G a1) (mg_of X G a2) (mg_of X G a3),CP o1.cl o2.cl o3.cl,inj,?_,
  CP o1.kp o2.kp o3.kp,CP o1.gt o2.gt o3.gt,CP o1.gc o2.gc o3.gc,CP o1.na o2.na o3.na,CP o1.nd o2.nd o3.nd⟩
 simp only[ui7,uk9,uh6,jV,not_or] at nd;obtain⟨⟨n1,n2,n3⟩,_⟩:=nd;exact CP (Ne.symm n1) (Ne.symm n2) (Ne.symm n3)
noncomputable def Ch(s:Stmt)(k:Nat):Stmt:=match s with
 |.ClassDef _ _ _ body _ _ _ _ _ _ _=>body.getD k (.Pass ⟨0,0,0,0⟩)
 |_=>.Pass ⟨0,0,0,0⟩
noncomputable def Ny(K:gi)(C f:gm):Bool:=match clsIn K C with
 |some cd=>nsIn K cd.ns "__init__" == some (some (.ref f))
 |none=>false
def XF1(K:gi)(C P:gm)(qual:Str)(st:Stmt):Prop:=∃(f:gm) (fd:gy),XMk K C P f/\XAt K C P "at"/\Binds K fd ["self", "at"] []/\Fun K "__init__" qual st f fd
variable{C:gm}
theorem aQ{f:gm}{qual:Str}{st:Stmt}{od an:Option gm}{sl:Array (Option gk)}{oc kV dc pm cd ct:gk}(o:XOne K P C)(i:Ny K C f=true)(hf:isFn K (.ref f)=true)(hs:findIn K (.ref C) "__setattr__" = some (some (.builtin "object.__setattr__")))
 (l:K.lookup f=some ⟨oc,od,.func (PySem.W.fnOf "__init__" qual (En st) (BS st) (AA st) .none kV dc pm an cd ct),sl⟩) (c:codeIn K cd qual=true) (k:keepIn K (.ref f)=true)
 (hb:∀(kV doc pm:gk) (an:Option gm) (cdv ct:gk) (us:List gk),us.length=2->bindArgs (PySem.W.fnOf "__init__" qual (En st) (BS st) (AA st) .none kV doc pm an cdv ct) ⟨us,[]⟩=pure ((["self", "at"]:List Str).zip us)):XF1 K C P qual st:=by
 refine⟨f,_,⟨o.cl,?_,hf,o.kp⟩,⟨o.cl,hs,o.na⟩,(GP (st:=st) l c k).binds (ps:=["self", "at"]) hb,GP (st:=st) l c k⟩;unfold Ny at i
 split at i
 .next cd' e=>exact⟨cd',e,jP.mp i⟩
 .cases i
theorem T9{prog:gq}{w:gu}{mg:Str->Option gk}{base:Heap}{qual:Str}{st:Stmt}{p1 p2 p3 p4:Pos}(hbd:BS st=[.Assign [.Attribute (.Name "self" p1) "at" p2] (.Name "at" p3) p4])(S:FnScope ["self", "at"] ["self", "at"] (AA st))
 (s1:(AA st).names.lookup ("self":Str)=some NameKind.local) (s2:(AA st).names.lookup ("at":Str)=some NameKind.local) (x:XF1 K C P qual st):XN1 prog w K mg base C P:=by
 clear 5 x f fd M A B F;refine⟨f,fd,_,M,A,B,F.ok (k:=0) S (λvs H Q E h=>?_) λcdv A' outer s H vs Q E hr h=>?_⟩
 .obtain⟨y,C',tp,v,rfl,_⟩:=h;rfl
 .rw[hbd];refine⟨_,LK (bQ (P:=P) (Ge (i:=0) rfl (.inl s1) (by decide) (by decide)) (Ge (i:=1) rfl (.inl s2) (by decide) (by decide)) rfl),?_⟩;clear 5 h y C' tp v rfl hy ha k;exact⟨v,rfl,.ref y,rfl,y,C',tp,rfl,hy,ha,λdx h1 h2=>k dx h1 h2⟩
noncomputable def NQ(K:gi)(C:gm):Bool:=match clsIn K C with
 |some cd=>nsIn K cd.ns "__init__" == some none
 |none=>false
theorem aR(h:NQ K C=true):XN0 K C:=by
 unfold NQ at h
 split at h
 .next cd e=>exact⟨cd,e,jP.mp h⟩
 .cases h
end
inductive Kd where
 |pl|fr|ex|er
abbrev okK(k:Kd)(P:gq)(w:gu)(K:gi)(mg:Str->Option gk)(base:Heap)(n:Nat)(fa:gm)(fd:gy)(ps:List Str)(f:Fn):Prop:=match k with
 |.pl=>FnOk P w K mg base CX0 n fa fd ps (spF K f)
 |.fr=>FnOk P w K mg base CX0 n fa fd ps (spFF K f)
 |.ex=>FnOk P w K mg base (CX1 true P w) n fa fd ps (spX K f)
 |.er=>FnOk P w K mg base (CX1 false P w) n fa fd ps (spX K f)
section
variable{X:Cx}{e a b:Expr}{pos:Pos}{f g:M D}
theorem OW{E:XK}(h:PE X e (RE X.K f)):PS X (.Return (some e) pos) (RSg X.K (μX X.K E) (Al (nxD f))):=
 A7 (IE h) λD σ H z9=>by
  clear 5 z9 Oo c t fi o t' eq k;clear 5(Af eq)d t1 e1 eq
  cases eq
  clear 5(NV e1)e2 e3;exact⟨Oo,c,t,fi,d,_,e2,λv H1 c1 f1 s1 rv=>Rn e3 (k σ H1 c1 f1 s1 v rv)⟩
end
theorem Zl{K:gi}:∀(c:Cf) (H:Hp) (r:D) (rt:V->Hp->Prop),A2 r=false->(∀v,Rep K c H v r->rt v H)=μR K c H r rt:=λ_ _ _ _ _=>rfl
section
variable{qx:Bool}
section
variable{X:Cx}{P:gm}{ca:Str->gm}{a:Expr}{es:List Expr}{f:M D}{p pos q:Pos}{i:Nat}{ns:List Str}
end
end
section
variable{qx:Bool}
section
variable{prog:gq}{w:gu}{A:Around}{s:gn}{K:gi}{x C P dx:gm}{ox:Obj}{od:Option Obj}{R:Result->gn->Prop}{name:Str}{v:gk}{tk:Tok}{cd:ClassData}
end
section
variable{X:Cx}{k:Nat}{f C P:gm}{fd:gy}{gj:List (gm×Obj)}{σ:St}{H:Hp}{s:gn}{Q:gk->gn->Prop}{us:List gk}{vs:List V}{a b:Str}{ps:List Str}{v v2:V}{u u2:gk}
end
section
variable{X:Cx}{k:Nat}{f C P:gm}{fd:gy}{a b:Str}{ps:List Str}{n:Str}{p pos:Pos}{e e':Expr}
end
end
section
variable{qx:Bool}
section
variable{X:Cx}{e e':Expr}{pos p pos2:Pos}{E:L2.St->XK}{P:gm}{ca:Str->gm}
def fS(n:Str)(f:M (List D)):M Out:=bnd f λds=>match ds with
 |[d,d']=>ret (.ret (.exc n [d,d']))
 |_=>fail
end
end
section
variable{X:Cx}{a b:Expr}{pos:Pos}
end
section
variable{prog:gq}{w:gu}{A:Around}{E:gk->gn->Prop}{env:Env}{K:gi}{C:gm}{bm:List gk}{s:gn}
end
section
variable{X:Cx}{gj:List (gm×Obj)}{σ:St}{H:Hp}{s s':gn}{qx:Bool}{x C:gm}{dx T:Option gm}{fl:gk}
end
section
variable{X:Cx}{n v:Str}{C' C2:gm}{bm' bm2:List gk}{p pos p2:Pos}{e cN:Expr}{rest:List ExceptHandler}{t:St->Hp->(gm->Option gm->Hp->Prop)->Prop}{tr:gm->gm->Option gm->TS}{i:Nat}{E:St->XK}
end
structure FnOkH(P:gq)(w:gu)(K:gi)(mg:Str->Option gk)(base:Heap)(CX:CXT)(k:Nat)(f:gm)(fd:gy)(ps:List Str)(sp:Sp):Prop where
 len:∀vs H Q E,sp vs H Q E->vs.length=ps.length
 run:∀(z:gm) (A:Around) (outer:List Env) (s:gn) (H:Hp) (args:Args) (us:List gk) (vs:List V) (Q:VK) (E:XK),Room k A->Env0 P w K mg base A outer s H->BindsTo s fd args (ps.zip us)->Vals vs us->sp vs H Q E->
  codeAny (model P w) (A.mark (some (.ref z))) (.call (.ref f) args) (CR CX outer P w H s Q E) s
section
variable{qx:Bool}{X:Cx}{k:Nat}{f C P:gm}{fd:gy}{gj:List (gm×Obj)}{σ:St}{H:Hp}{s:gn}{Q:gk->gn->Prop}{us:List gk}{vs:List V}{a b:Str}{ps:List Str}{v v2:V}{u u2:gk}{n:Str}{p pos:Pos}{e e':Expr}
end
section
variable{X:Cx}{pos p p2 p3 p4:Pos}{P:gm}{ca:Str->gm}{E:XK}{e e' cN:Expr}
end
section
variable{prog:gq}{w:gu}{A:Around}{E:gk->gn->Prop}{s:gn}
variable{I:gm}{fp wr:List gm}{G:Array GenState->Array GenState->Prop}{n:Nat}{P:Nat->gk->Prop}{St:Nat->gn->Prop}
def fN(prog:gq)(w:gu)(h:Heap)(no:List gm)(k:Key)(x v:gk):Prop:=∃(p:gm) (o:Obj) (kv:gk) (q:Nat),v=.ref p/\p∉no/\h.get? p=some o/\o.cls=.type "tuple"/\o.data=.seq #[kv,x] q/\(BT prog w).is k kv=true
end
section
variable{X:Cx}
end
section
variable{X:Cx}{pos:Pos}{e:Expr}
end
def ZY(neg:Bool):R2:=λx y H Q=>∃a kvs k,x=.str k/\y=.ref a/\H a=some (.dK kvs)/\Q (.bl (if neg then !(D6 kvs (Sum.inr k:Key)).isSome else(D6 kvs (Sum.inr k:Key)).isSome)) H
section
variable{X:Cx}
theorem Zv(hu:X.A.units+64<cLine):OpR X (compareOp .In) (ZY false):=by
 intro gj s σ H x y v u Q I rx ry h;clear 5 h a kvs k rfl rfl e q
 cases ry
 exact dF (by lia) I (DGet.k (k:=(Sum.inr k:Key)) e) rx λs' I'=>⟨.bl _,H,I',rfl,q⟩
theorem PB:CA X (.type "dict") (λxs H Q=>∃(p:gm) (kvs:List (Key×V)),xs=[.ref p]/\H p=some (.dK kvs)/\∀l,H l=none->Q (.ref l) (upd H l (.dK kvs))):=by
 intro gj s σ H xs us0 Q I r h;clear 5 h p kvs rfl e q;clear 5(FN r)u rfl rx
 cases rx
 clear 5(MG I.hok e)hz hp vs rel dd;refine kt_call_dict hp dd (by rw[<-rel.length];exact hz) λh' hD sb=>?_;have nm:(s.heap.objs.size==sysModules)=false:=by
  have:=I.big;rw[ji];exact um5 this
 have hk:∀b o,s.heap.get? b=some o->h'.get? b=some o:=λb o eb=>by
  rw[sb.2 b (um3 (um2 eb))];exact ub8 _ eb
 exact⟨.ref s.heap.objs.size,_,I.laid (t':=s.toks) hk (un4 _) (Nl hz nm rel hD),rfl,q _ (I.hok.fresh (un4 _))⟩
end
def inS(neg:Bool):D->D->M D
 |.str k,.obj n=>λt=>match t.S[n]? with
   |some (.dct kvs)=>some (.bl (if neg then !(Bg kvs (.inr k)).isSome else(Bg kvs (.inr k)).isSome),t)
   |_=>none
 |_,_=>fail
def IU:List D->M D
 |[.obj n]=>λt=>match t.S[n]? with
   |some (.dct kvs)=>some (.obj t.S.length,{t with S:=t.S++[.dct kvs]})
   |_=>none
 |_=>fail
section
variable{K:gi}
theorem Xu{neg:Bool}:Bb K (ZY neg) (inS neg):=λ{Oo c t σ H x y dx dy r t' Q} f rx ry eq k=>by
 unfold inS at eq
 split at eq
 .next z n=>
  cases rx
  cases ry with
  |@obj a kk hk=>
    split at eq
    .next kvs es=>
     cases eq
     clear 5(f.s.obs _ a _ hk es)us g1 g2;refine⟨a,us,z,rfl,rfl,g1,?_⟩;rw[g2.has];exact k _ H c f .refl (.bl _)
    .cases eq
 .cases eq
end
section
variable{X:Cx}{pos:Pos}{e:Expr}
theorem Tz{f:M (List D)}{p:Pos}(hg:Gl X "dict")(hm:X.mg "dict" = none)(ha:PA X [e] (RA X.K f))(h1:AV e=false:=by rfl) :
 PE X (.Call (.Name "dict" p) [e] [] pos) (RE X.K (fB f IU)):=
 AE (IC PB hg hm (by decide +kernel) ha (by decide) (by decide) (AX h1) rfl) λσ H Q z9=>by
  clear 5 z9 Oo c t fi r t' eq k;clear 5(Af eq)as t1 e1 eq;unfold IU at eq
  split at eq
  .next n=>
   split at eq
   .next kvs es=>
    cases eq
    refine⟨Oo,c,t,fi,_,_,e1,λvs H1 c1 f1 s1 rv=>?_⟩;clear 5(EL rv)v rfl rw1
    cases rw1 with
    |@obj a kk hk=>
    clear 5(f1.s.obs _ a _ hk es)us g1 g2;refine⟨a,us,rfl,g1,λl hnl=>?_⟩;obtain⟨c2,f2,s2,eo⟩:=f1.newObj (o:=.dct kvs) (u:=.dK us) hnl λc' H' ex hu=>⟨_,hu,g2.mono ex⟩;exact k _ _ c2 f2 (s1.trans s2) (.obj eo)
   .cases eq
  .cases eq
end
section
variable{X:Cx}
end
def CM(K:gi):Prop:=∀n∈Lv,∀C,nsIn K mainGlobals n=some (some (.ref C))->Cls K C/\∀f∈atN,NoAttr K C f
noncomputable def Gf(f:Str)(v:D):List (Str×D)->List (Str×D)
 |[]=>[(f,v)]
 |(g,x)::r=>if g=f then(g,v)::r else(g,x)::Gf f v r
section
variable{K:gi}{c:Cf}{H:Hp}
theorem FldR.len:∀{us:List (Str×V)}{fs:List (Str×D)},FldR K c H us fs->us.length=fs.length
 |_,_,.nil=>rfl
 |_,_,.cons _ t=>by rw[ug7,ug7,FldR.len t]
theorem FldR.look{f:Str}{d:D}:∀{us:List (Str×V)}{fs:List (Str×D)},FldR K c H us fs->fs.lookup f=some d->∃v,us.lookup f=some v/\Rep K c H v d
 |_,_,.nil,e=>by cases e
 |(g,x)::us,(g',y)::fs,.cons ⟨h1,h2⟩ t,e=>by
   have h1:g=g':=h1;subst h1
   by_cases q:(f==g)=true
   .simp only[List.lookup,q] at e⊢
    cases e
    exact⟨_,rfl,h2⟩
   .have q:(f==g)=false:=by simpa using q
    simp only[List.lookup,q] at e⊢;exact FldR.look t e
theorem FldR.none{f:Str}:∀{us:List (Str×V)}{fs:List (Str×D)},FldR K c H us fs->(∀p∈fs,p.1≠f)->us.lookup f=none
 |_,_,.nil,_=>rfl
 |(g,x)::us,(g',y)::fs,.cons ⟨h1,h2⟩ t,e=>by
   have h1:g=g':=h1;subst h1;have q:(f==g)=false:=by
    have:=e (g,y) (.head _);simpa using λz:f=g=>this z.symm
   simp only[List.lookup,q];exact FldR.none t λp hp=>e p (.tail _ hp)
theorem FldR.put{f:Str}{v:V}{d:D}(r:Rep K c H v d):∀{us:List (Str×V)}{fs:List (Str×D)},FldR K c H us fs->FldR K c H (Dd f v us) (Gf f d fs)
 |_,_,.nil=>.cons ⟨rfl,r⟩ .nil
 |(g,x)::us,(g',y)::fs,.cons ⟨h1,h2⟩ t=>by
   have h1:g=g':=h1;subst h1;show FldR K c H (if g=f then(g,v)::us else(g,x)::Dd f v us) (if g=f then(g,d)::fs else(g,y)::Gf f d fs)
   by_cases q:g=f
   .rw[jY q,jY q];exact .cons ⟨rfl,r⟩ t
   .rw[jZ q,jZ q];exact .cons ⟨rfl,h2⟩ (FldR.put r t)
theorem FldR.mono{c':Cf}{H':Hp}(e:Ext c H c' H'){us:List (Str×V)}{fs:List (Str×D)}(h:FldR K c H us fs):FldR K c' H' us fs:=Paired.mapP h λ_ _ z=>⟨z.1,z.2.mono e⟩
theorem O7{f:Str}{v:D}(hf:f∈atN):∀{fs:List (Str×D)},(∀p∈fs,p.1∈atN)->∀p∈Gf f v fs,p.1∈atN
 |[],_=>λp hp=>by rw[show Gf f v []=[(f,v)] from rfl,uf0] at hp;subst hp;exact hf
 |(g,x)::r,h=>λp hp=>by
   rw[show Gf f v ((g,x)::r)=(if g=f then(g,v)::r else(g,x)::Gf f v r) from rfl] at hp
   split at hp
   .rcases uk9.mp hp with e|e
    .subst e;exact h (g,x) (.head _)
    .exact h p (.tail _ e)
   .rcases uk9.mp hp with e|e
    .subst e;exact h (g,x) (.head _)
    .exact O7 hf (λp hp=>h p (.tail _ hp)) p e
end
noncomputable def F0{α:Type}(d:D)(h:Nat->Str->List (Str×D)->M α):M α:=λt=>match d with
 |.obj k=>match t.S[k]? with
   |some (.ins n fs)=>h k n fs t
   |_=>none
 |_=>none
theorem Ip{α:Type}{d:D}{h:Nat->Str->List (Str×D)->M α}{t:T}{z:α×T}(e:F0 d h t=some z):∃k n fs,d=.obj k/\t.S[k]?=some (.ins n fs)/\h k n fs t=some z:=by
 cases d with
 |obj k=>
   rw[show F0 (.obj k) h t=(match t.S[k]? with|some (.ins n fs)=>h k n fs t|_=>none) from rfl] at e
   cases es:t.S[k]? with
   |none=>rw[es] at e;cases e
   |some o=>
     rw[es] at e
     cases o with
     |ins n fs=>exact⟨k,n,fs,rfl,es,e⟩
     |_=>cases e
 |_=>cases e
def EX(f:Str)(a:M D):M D:=bnd a λd=>F0 d λ_ _ fs t=>(fs.lookup f).map λv=>(v,t)
def EN(f:Str)(gv ga:M D):M Out:=bnd gv λv=>bnd ga λd=>F0 d λk n fs t=>if fs.length<1000 then some (.next,{t with S:=t.S.set k (.ins n (Gf f v fs))}) else none
def MH(n:Str)(g:Fn)(f:M (List D)):M D:=bnd f λds t=>match g (.obj t.S.length::ds) (t.S++[.ins n []]) with
 |some (.non,S')=>some (.obj t.S.length,{t with S:=S'})
 |_=>none
def CB(n:Str)(g:Fn)(o:M D)(f:M (List D)):M D:=bnd o λd=>F0 d λ_ n' _=>if n'=n then bnd f λds t=>match g (d::ds) t.S with
 |some (r,S')=>some (r,{t with S:=S'})
 |none=>none else fail
theorem Jh{K:gi}{c:Cf}{H:Hp}{v:V}{k:Nat}(h:Rep K c H v (.obj k)):∃a,v=.ref a/\c.ι[k]?=some a:=by
 cases h with
 |obj e=>exact⟨_,rfl,e⟩
section
variable{X:Cx}{CX:CXT}{k:Nat}{f C:gm}{fd:gy}{ps:List Str}{sp:Sp}{E:St->XK}{x m:Str}{p pos apos:Pos}{e o:Expr}{es:List Expr}{ta:TE}{t:TA}
theorem Xp{gj:List (gm×Obj)}{σ:St}{H:Hp}{s:gn}{Q:VK}{us:List gk}{vs:List V}(F:FnOk X.prog X.w X.K X.mg X.base CX k f fd ps sp)(hr:Room k X.A)(hb:Binds X.K fd ps [])(hx:Ek CX X E)
 (I:Inv X gj σ H s) (r:Vals vs us) (h:sp vs H Q (E σ)):wpAny (model X.prog X.w) X.A (call (.ref f) us) (EP X gj σ Q) X.xe s:=by
 have hl:(us++[]).length=ps.length:=by rw[ui6,<-r.length];exact F.len _ _ _ _ h
 refine jQ (jH (F.run X.A X.stack s H ⟨us,[]⟩ us vs Q (E σ) hr I.env0 (by have:=hb s us I.kIn hl;rwa [ui6] at this) r h) λr s' hq=>?_)
 cases r with
 |error e=>exact hx gj σ H s e s' I hq
 |ok fl=>
   cases fl with
   |ret u=>exact I.after hq
   |next=>exact False.elim hq
   |brk=>exact False.elim hq
   |cont=>exact False.elim hq
abbrev Hf(X:Cx)(o:Expr)(m:Str)(es:List Expr)(apos pos:Pos)(pl:Sem Bool):Prop:=eval (.Call (.Attribute o m apos) es [] pos) X.env=(do
 let ov <-eval o X.env
 standAt apos.atName
 let (f,first) <-holding [ov] (getMethod ov m pl)
 callWith pos f first (backTo pos (starEach es X.env)) (backToKw pos (keywordEach [] X.env)))
structure ByCls(K:gi)(C:gm)(m:Str)(f:gm):Prop where
 ga:specialIn K (.ref C) "__getattribute__" = some (some (.builtin "type.__getattribute__"))
 rd:readsIn K C (.type "type")=true
 at_:(match findCls K (.ref C) (.type "type") m with|some (.val (.ref g))=>g==f|_=>false)=true
 kp:keepIn K (.ref f)=true
theorem ByCls.found{K:gi}{C f:gm}{m:Str}(b:ByCls K C m f):findCls K (.ref C) (.type "type") m=some (.val (.ref f)):=by
 have q:=b.at_
 split at q
 .next e=>rw[e];rw[jP.mp q]
 .cases q
theorem Ut{pl:Sem Bool}(F:FnOk X.prog X.w X.K X.mg X.base CX k f fd ps sp)(hr:Room k X.A)(hg:Gl X x)(hm:X.mg x=some (.ref C))(bc:ByCls X.K C m f)(hb:Binds X.K fd ps [])(hx:Ek CX X E)(ha:PA X (e::es) t)
 (hdb:(x==("__debug__":Str))=false) (hst:starEach (e::es) X.env=(false,eval e X.env)::starEach es X.env) (hpl:(backTo pos (starEach es X.env)).any (·.1)=false) (ht:Hf X (.Name x p) m (e::es) apos pos pl) :
 PE X (.Call (.Attribute (.Name x p) m apos) (e::es) [] pos) (SI sp E t):=by
 intro gj s σ H Q I h;refine uc6 (pl:=pl) (DS I hg hm ?_ hdb) ht;refine method_cls I.kIn bc.ga (cls_value I.kIn bc.rd bc.found rfl ?_);have I0:=I.tok (s.toks+1);refine ue7 (first:=[]) (h₀:=X.base) I.ok.mod.kin bc.kp (thn (ha pos gj _ σ H _ I0 h) λus s2 z9=>?_) hst hpl;clear 5 z9 vs H2 I2 r q2;refine⟨I2.kIn,?_⟩;exact Xp (us:=us) (vs:=vs) F hr hb hx I2 r q2
end
section
variable{n:Str}{h:Fn}{pl:Sem Bool}
section
variable{X:Cx}{e o a value:Expr}{es:List Expr}{pos pos' apos p:Pos}{f:Str}{g gv ga:M D}{fl:M (List D)}{C:gm}
theorem YI(cm:CM X.K)(hf:f∈atN)(he:PE X e (RE X.K g))(hb:attributeBase e f X.env (eval e X.env)=eval e X.env):PE X (.Attribute e f pos) (RE X.K (EX f g)):=
 AE (ZC he hb) λσ H Q z9=>by
  clear 5 z9 Oo c t fi r t' eq kk;clear 5(Af eq)d t1 e1 eq;clear 5(Ip eq)k n fs rfl es eq;clear 5(uc0.mp eq)y e2 e3
  cases e3
  refine⟨Oo,c,t,fi,.obj k,_,e1,λv H1 c1 f1 s1 rv=>?_⟩;clear 5(Jh rv)b rfl hk;obtain⟨⟨hn,hat⟩,C,dx,us,g1,g2,g3⟩:=f1.s.obs k b _ hk es;clear 5(g3.look e2)w l1 l2;exact⟨b,C,dx,us,w,rfl,g2,(cm n hn C g1).1,(cm n hn C g1).2 f hf,l1,kk w H1 c1 f1 s1 l2⟩
theorem YY{μ:Cf->Hp->D->(V->Hp->Prop)->Prop}(cm:CM X.K)(hf:f∈atN)(ha:PE X o (RE X.K ga))(hv:PE X value (RE X.K gv))(hs:swapsWith value (some (.Attribute o f pos')) pos.line X.env=pure false:=by rfl) :
 PS X (.Assign [.Attribute o f pos'] value pos) (RSg X.K μ (EN f gv ga)):=
 A7 (ZO ha hv hs) λD σ H z9=>by
  clear 5 z9 Oo c t fi r t' eq kk;clear 5(Af eq)d t1 e1 eq;clear 5(Af eq)d2 t2 e2 eq;clear 5(Ip eq)k n fs rfl es eq
  split at eq
  .next hl=>
   cases eq
   refine⟨Oo,c,t,fi,d,t1,e1,λv H1 c1 f1 s1 rv=>⟨Oo,c1,t1,f1,.obj k,t2,e2,λx H2 c2 f2 s2 rx=>?_⟩⟩;clear 5(Jh rx)b rfl hk;obtain⟨⟨hn,hat⟩,C,dx,us,g1,g2,g3⟩:=f2.s.obs k b _ hk es;refine⟨b,C,dx,us,rfl,g2,(cm n hn C g1).1,(cm n hn C g1).2 f hf,by rw[g3.len];exact hl,?_⟩;obtain⟨f3,s3⟩:=f2.wrObj (o:=.ins n (Gf f d fs)) (u:=.ins C dx (Dd f v us)) hk λc' H' ext hu=>⟨⟨hn,O7 hf hat⟩,C,dx,_,g1,hu,(FldR.put (rv.mono s2.ext) g3).mono ext⟩;exact kk σ _ c2 f3 ((s1.trans s2).trans s3)
  .cases eq
theorem RL{ds:List D}{t:T}{r:D}{t':T}(e:(match h (.obj t.S.length::ds) (t.S++[.ins n []]) with|some (.non,S')=>some (.obj t.S.length,{t with S:=S'})|_=>none:Option (D×T))=some (r,t')) :
 ∃S',h (.obj t.S.length::ds) (t.S++[.ins n []])=some (.non,S')/\r=.obj t.S.length/\t' = {t with S:=S'}:=by
 split at e
 .next S' q=>cases e;exact⟨S',q,rfl,rfl⟩
 .cases e
theorem V9{k:Nat}{fa:gm}{fd:gy}{ps:List Str}(hn:n∈Lv)(hC:nsIn X.K mainGlobals n=some (some (.ref C)))(M:Mk X.K C fa)(F:FnOk X.prog X.w X.K X.mg X.base CX0 k fa fd ps (spF X.K h))(hr:Room (k+1) X.A)(hg:Gl X n)(hm:X.mg n=some (.ref C))(hb:Binds X.K fd ps [])
 (ha:PA X (e::es) (RA X.K fl)) (hdb:(n==("__debug__":Str))=false:=by decide) (h1:AV e=false:=by rfl) (h2:A1 es=true:=by rfl):PE X (.Call (.Name n p) (e::es) [] pos) (RE X.K (MH n h fl)):=
 AE (W2 M F hr hg hm hb .nil HH ha hdb (AX h1) (AW h2).1) λσ H Q z9=>by
  clear 5 z9 Oo c t fi r t' eq kk;clear 5(Af eq)ds t1 e1 eq;clear 5(RL eq)S' e2 rfl rfl;refine⟨Oo,c,t,fi,ds,t1,e1,λvs H1 c1 f1 s1 rvs x dx hx hdx ne=>?_⟩;rw[ui6];have f2:=f1.laid (p:=dx) (o:=.own x) hdx;have s2:=f1.stp_laid (p:=dx) (o:=.own x) hdx;have hx2:upd H1 dx (.own x) x=none:=by rw[Aq (Ne.symm ne)];exact hx
  obtain⟨c3,f3,s3,e3⟩:=f2.newObj (o:=.ins n []) (u:=.ins C dx []) hx2 λc' H' ext hu=>⟨⟨hn,λp hp=>by cases hp⟩,C,dx,[],hC,hu,.nil⟩;refine⟨c3,.obj t1.S.length::ds,_,f3.s,.cons (.obj e3) ((rvs.mono s2.ext).mono s3.ext),.non,S',e2,λv H' c' si st ho rv=>?_⟩;clear 5(f3.after si st ho)f4 s4
  cases rv
  exact⟨rfl,kk _ H' c' f4 ((s1.trans s2).trans (s3.trans s4)) (.obj (st.ext.io _ _ e3))⟩
structure MAt(K:gi)(n m:Str)(C fa:gm):Prop where
 cl:n∈Lv
 at_:nsIn K mainGlobals n=some (some (.ref C))
 me:Meth K C m fa
 na:m∉atN
theorem Ml{d:D}{t:T}{r:D}{t':T}(e:F0 d (λ_ n' _=>if n'=n then bnd fl λds t=>match h (d::ds) t.S with|some (r,S')=>some (r,{t with S:=S'})|none=>none else fail) t=some (r,t')) :
 ∃k fs ds t1 S',d=.obj k/\t.S[k]?=some (.ins n fs)/\fl t=some (ds,t1)/\h (d::ds) t1.S=some (r,S')/\t' = {t1 with S:=S'}:=by
 clear 5(Ip e)k n' fs rfl es q
 by_cases hn:n'=n
 .subst hn;rw[jY rfl] at q;clear 5(Af q)ds t1 e1 q;clear 5(Fl q)S' e2 rfl;exact⟨k,fs,ds,t1,S',rfl,es,e1,e2,rfl⟩
 .rw[jZ hn] at q;cases q
section
variable{k:Nat}{fa:gm}{fd:gy}{ps:List Str}{h:Fn}{n m:Str}{qx:Bool}{E:L2.St->XK}
theorem LA(cm:CM X.K)(ma:MAt X.K n m C fa)(F:FnOk X.prog X.w X.K X.mg X.base CX0 k fa fd ps (spF X.K h))(hr:Room k X.A)(hb:Binds X.K fd ps [])(he:PE X o (RE X.K g))(ha:PA X (e::es) (RA X.K fl))
 (h1:AV e=false:=by rfl) (h2:A1 es=true:=by rfl) (ht:Hf X o m (e::es) apos pos pl:=by rfl):PE X (.Call (.Attribute o m apos) (e::es) [] pos) (RE X.K (CB n h g fl)):=
 AE (W3 (pl:=pl) he (cm n ma.cl C ma.at_).1 ma.me F hr hb .nil HH ha (AX h1) (AW h2).1 ht) λσ H Q z9=>by
  clear 5 z9 Oo c t fi r t' eq kk;clear 5(Af eq)d t1 e1 eq;clear 5(Ml eq)j fs ds t2 S' rfl es e2 e3 rfl;refine⟨Oo,c,t,fi,.obj j,t1,e1,λv H1 c1 f1 s1 rv=>?_⟩;clear 5(Jh rv)b rfl hk;obtain⟨⟨_,hat⟩,C',dx,us,g1,g2,g3⟩:=f1.s.obs j b _ hk es;rw[ma.at_] at g1
  cases g1
  refine⟨b,dx,us,rfl,g2,g3.none λp hp z=>ma.na (z ▸ hat p hp),Oo,c1,t1,f1,ds,t2,e2,λvs H2 c2 f2 s2 rvs=>?_⟩;show spF X.K h (V.ref b::(vs++[])) H2 Q E0;rw[ui6];refine⟨c2,.obj j::ds,t2.S,f2.s,.cons (.obj (s2.ext.io _ _ hk)) rvs,r,S',e3,λv H' c' si st ho rv=>?_⟩;clear 5(f2.after si st ho)f3 s3;exact kk v H' c' f3 ((s1.trans s2).trans s3) rv
theorem Nr(cm:CM X.K)(ma:MAt X.K n m C fa)(F:FnOk X.prog X.w X.K X.mg X.base CX0 k fa fd ps (spF X.K h))(hr:Room k X.A)(hb:Binds X.K fd ps [])(he:PE X o (RE X.K g))(ht:Hf X o m [] apos pos pl:=by rfl) :
 PE X (.Call (.Attribute o m apos) [] [] pos) (RE X.K (CB n h g (ret []))):=
 AE (Uy (pl:=pl) he (cm n ma.cl C ma.at_).1 ma.me F hr hb .nil HH ht) λσ H Q z9=>by
  clear 5 z9 Oo c t fi r t' eq kk;clear 5(Af eq)d t1 e1 eq;clear 5(Ml eq)j fs ds t2 S' rfl es e2 e3 rfl
  cases e2
  refine⟨Oo,c,t,fi,.obj j,t1,e1,λv H1 c1 f1 s1 rv=>?_⟩;clear 5(Jh rv)b rfl hk;obtain⟨⟨_,hat⟩,C',dx,us,g1,g2,g3⟩:=f1.s.obs j b _ hk es;rw[ma.at_] at g1
  cases g1
  refine⟨b,dx,us,rfl,g2,g3.none λp hp z=>ma.na (z ▸ hat p hp),?_⟩;refine⟨c1,[.obj j],t1.S,f1.s,.cons (.obj hk) .nil,r,S',e3,λv H' c' si st ho rv=>?_⟩;clear 5(f1.after si st ho)f3 s3;exact kk v H' c' f3 (s1.trans s3) rv
theorem Tx{x:Str}(F:FnOk X.prog X.w X.K X.mg X.base CX0 k fa fd ps (spF X.K h))(hr:Room k X.A)(hg:Gl X x)(hm:X.mg x=some (.ref C))(bc:ByCls X.K C m fa)(hb:Binds X.K fd ps [])(ha:PA X (e::es) (RA X.K fl))
 (hdb:(x==("__debug__":Str))=false:=by decide) (h1:AV e=false:=by rfl) (h2:A1 es=true:=by rfl) (ht:Hf X (.Name x p) m (e::es) apos pos pl:=by rfl):PE X (.Call (.Attribute (.Name x p) m apos) (e::es) [] pos) (RE X.K (Ag h fl)):=
 AE (Ut (pl:=pl) (E:=λ_=>E0) F hr hg hm bc hb (λgj σ H s e s'=>HH gj σ H s e s') ha hdb (AX h1) (AW h2).1 ht) λσ H Q z9=>by
  clear 5 z9 Oo c t fi r t' eq kk;clear 5(Af eq)ds t1 e1 eq;clear 5(Fl eq)S' e2 rfl;refine⟨Oo,c,t,fi,ds,t1,e1,λvs H1 c1 f1 s1 rvs=>?_⟩;refine⟨c1,ds,t1.S,f1.s,rvs,r,S',e2,λv H' c' si st ho rv=>?_⟩;clear 5(f1.after si st ho)f2 s2;exact kk v H' c' f2 (s1.trans s2) rv
end
end
variable{K:gi}
theorem Zr{k:Kd}{P:gq}{w:gu}{mg:Str->Option gk}{base:Heap}{n:Nat}{fa:gm}{fd:gy}{ps:List Str}{f:Fn}(h:okK k P w K mg base n fa fd ps f):okK k P w K mg base (n+1) fa fd ps f:=by
 cases k<;>exact FnOk.mono h (un6 _)
def PC(K:gi)(C:gm):Bool:=plainGet K C Str.empty&&hasDictIn K C&&plainOver K C&&findIn K (.ref C) "__setattr__" == some (some (.builtin "object.__setattr__"))&&atN.all λf=>findIn K (.ref C) f==some none
variable{C:gm}
theorem VS(h:PC K C=true):Cls K C/\∀f∈atN,NoAttr K C f:=by
 unfold PC at h;simp only[uh1,jP,uh5] at h;obtain⟨⟨⟨⟨a,b⟩,c⟩,d⟩,e⟩:=h;exact⟨⟨a,b,c,d⟩,λf hf=>e f hf⟩
theorem aX(h:∀n∈Lv,nsIn K mainGlobals n=some none\/∃C,nsIn K mainGlobals n=some (some (.ref C))/\PC K C=true):CM K:=λn hn C e=>by
 rcases h n hn with q|⟨C',q,b⟩
 .rw[e] at q;cases q
 .rw[e] at q;cases q;exact VS b
noncomputable def P7(K:gi)(C:gm):Bool:=makesIn K C&&keepIn K (.ref C)
theorem bE{f:gm}(h:P7 K C=true)(i:findIn K (.ref C) "__init__" = some (some (.ref f)))(hf:isFn K (.ref f)=true):Mk K C f:=by
 unfold P7 at h;simp only[uh1] at h;exact⟨h.1,i,hf,h.2⟩
noncomputable def byB(K:gi)(C:gm)(m:Str):Bool:=specialIn K (.ref C) "__getattribute__" == some (some (.builtin "type.__getattribute__"))&&readsIn K C (.type "type")&&match findCls K (.ref C) (.type "type") m,findIn K (.ref C) m with|some (.val (.ref g)),some (some (.ref f))=>g==f|_,_=>false
theorem aV{f:gm}{m:Str}(h:byB K C m=true)(i:findIn K (.ref C) m=some (some (.ref f)))(k:keepIn K (.ref f)=true):ByCls K C m f:=by
 unfold byB at h;simp only[uh1,jP] at h;obtain⟨⟨a,b⟩,c⟩:=h;refine⟨a,b,?_,k⟩;rw[i] at c
 split at c
 .next g f' e1 e2=>
  cases e2
  rw[e1];exact c
 .cases c
end
section
variable{K:gi}
end
abbrev Gd:=Option (Nat×List D)
def Gon(g:Gd)(S:List Ob):Prop:=∀k xs,g=some (k,xs)->S[k]?=some (.lst xs)
structure ItOk3(K:gi)(J:It)(g:Gd)(c:Cf)(H:Hp)(ds:List D):Prop where
 go:∀c' H' S' (i:Nat),Ext c H c' H'->SInv K c' S' H'->Gon g S'->i<ds.length->J.go i H'
 yld:∀c' H' S' (i:Nat) x H'' d,Ext c H c' H'->SInv K c' S' H'->Gon g S'->ds[i]?=some d->J.yld i H' x H''->∃p vs es,x=.ref p/\H' p=none/\H''=upd H' p (.tup vs)/\d=.tup es/\Reps K c' H' vs es
 stop:∀c' H' S',Ext c H c' H'->SInv K c' S' H'->Gon g S'->J.stop ds.length H'
inductive RI3(K:gi)(f:M (Gd×List D))(σ:L2.St)(H:Hp)(R:It->Hp->Prop):Prop where
 |mk (Oo:gm->Prop) (c:Cf) (t:T) (fi:FInv K Oo c t σ H) (p:Gd×List D) (t':T) (e:f t=some (p,t')) (k:∀J H' c',FInv K Oo c' t' σ H'->Stp Oo c H c' H'->ItOk3 K J p.1 c' H' p.2->R J H'):RI3 K f σ H R
section
variable{X:Cx}{e a b tg iter elt:Expr}{ifs:List Expr}{pos:Pos}{scope:Scope}{N':List Str}{n:Nat}{fr:List Nat}{st:D->M Unit}{tst:M Bool}{el:M D}
end
structure ItOkG(K:gi)(J:It)(g:Gd)(c:Cf)(H:Hp)(ds:List D):Prop where
 go:∀c' H' S' (i:Nat),Ext c H c' H'->SInv K c' S' H'->Gon g S'->i<ds.length->J.go i H'
 yld:∀c' H' S' (i:Nat) x H'' d,Ext c H c' H'->SInv K c' S' H'->Gon g S'->ds[i]?=some d->J.yld i H' x H''->H''=H'/\Rep K c' H' x d
 stop:∀c' H' S',Ext c H c' H'->SInv K c' S' H'->Gon g S'->J.stop ds.length H'
section
variable{X:Cx}{e a b tg iter elt:Expr}{ifs:List Expr}{pos:Pos}{scope:Scope}{N':List Str}{n:Nat}{fr:List Nat}{st:D->M Unit}{tst:M Bool}{el:M D}
end
def gb:List D->M D
 |[d,.tup [.ty m1,.ty m2]]=>λt=>match d with
   |.obj k=>match t.S[k]? with
     |some (.lst _)=>match F3 "list" m1,F3 "list" m2 with
       |some b1,some b2=>some (.bl (b1||b2),t)
       |_,_=>none
     |_=>none
   |d=>match tyD d with
     |some n=>match F3 n m1,F3 n m2 with
       |some b1,some b2=>some (.bl (b1||b2),t)
       |_,_=>none
     |none=>none
 |_=>fail
section
variable{X:Cx}{k:Nat}{f l I S:gm}{fd:gy}{ps:List Str}{sp:Sp}{gj:List (gm×Obj)}{σ:St}{H:Hp}{s:gn}{Q:VK}{oS oI oS' oI':Obj}{h':Heap}{t':Nat}
end
section
variable{K:gi}{g:Fn}
end
section
variable{X:Cx}{e:Expr}{pos:Pos}
end
section
variable{X:Cx}{e elt tg iter:Expr}{pos:Pos}{scope:Scope}{N':List Str}{ifs:List Expr}{n:Nat}{fr:List Nat}{f:M (List D)}{st:D->M Unit}{tst:M Bool}{el:M D}
end
section
variable{X:Cx}{e:Expr}
end
section
variable{X:Cx}{e el eu ek:Expr}{p2 pos:Pos}{te:TE}{tl tu tk:TO}
end
section
variable{X:Cx}{elt tg iter:Expr}{pos:Pos}{scope:Scope}{N':List Str}{ifs:List Expr}{n:Nat}{fr:List Nat}{st:D->M Unit}{tst:M Bool}{el:M D}
end
abbrev EnO(h:Heap)(e it:gm)(i:Int)(x:gk)(a:gm)(q:Bool):Prop:=h.get? e=some {cls:=.type "enumerate",dict:=none,data:=.fields #[rawInt a,.bool q,.ref it,rawInt i,.none,x],slots:=#[]}
section
variable{prog:gq}{w:gu}{A:Around}{E:gk->gn->Prop}{s:gn}
end
inductive EnS(h:Heap)(e it:gm)(i:Nat):Prop where
 |new (old:gk) (z:i=0) (h1:IsEnum h e it i old)
 |out (old:gk) (a0:gm) (q:Bool) (h1:EnO h e it i old a0 q)
section
variable{A:Around}{s:gn}
end
end L2
namespace PySem
open Sem (wp)
section
variable{prog:gq}{w:gu}{A:Around}{E:gk->gn->Prop}{s:gn}
theorem F.lri_no_len:typeLookup (.type "list_reverseiterator") "__len__" = pure none:=by rw[typeLookup_type,builtinLookup_eq_fast];kernel_rfl
theorem F.lri_hint:typeLookup (.type "list_reverseiterator") "__length_hint__" = pure (some (.builtin "list_reverseiterator.__length_hint__")):=by rw[typeLookup_type,builtinLookup_eq_fast];kernel_rfl
theorem F.lri_self:isSubtype (.type "list_reverseiterator") (.type "list_reverseiterator")=pure true:=by rw[isSubtype_type];kernel_rfl
theorem J7{R:Result->gn->Prop}(hh:A.handled=none){I l:gm}{items:Array gk}(S:gm)(res:gk)(c₀:Nat)(hI:s.heap.IsRevIter I l ((items.size:Int)-1))(hl:s.heap.IsList l items)(hne:l≠I)(hSI:S≠I)(hSl:S≠l)(hS:s.heap.get? S=some {cls:=.type "list",data:=.seq #[] c₀ })
 (hR:∀h' tk acc' c',(∀b o,b≠S->b≠I->s.heap.get? b=some o->h'.get? b=some o)->h'.get? S=some { cls:=.type "list",dict:=none,data:=.seq acc' c',slots:=#[] }->
   ItemsOf (λi v=>items[items.size-1-i]?=some v) acc' items.size->R (.ok (.ret res)) {s with heap:=h',toks:=tk}) (hn:items.size<=sizeLine:=by size_fits) :
 wpAny (model prog w) A.in1 (Builtin.List.listExtendWith (.ref S) (.ref I) res)
  (λfin s'=>match fin with | .done f=>R (.ok f) s' | .again c'=>c'.quiet=true/\codeAny (model prog w) A c' R s') (λe s'=>R (.error e) s') s:=by
 have hSf:S∉[I,l]:=λhm=>by simp only[uk9,uh6,jV] at hm;exact hm.elim hSI hSl
 unfold Builtin.List.listExtendWith;refine un8 (jI hI.typeIs ?_);have h1:Builtin.List.listSameRef (.ref S) (.ref I)=false:=by simp[Builtin.List.listSameRef,hSI]
 have h2:(Value.type "list_reverseiterator" == Value.type "list")=false:=by decide
 have h3:(Value.type "list_reverseiterator" == Value.type "tuple")=false:=by decide
 simp only[h1,h2,h3,ul1,ue9,jU];refine un8 (wpAny_pyIter_revIter hI ?_);refine un8 (um1 ?_);unfold Builtin.List.listLengthHint;refine un8 (jv hI.typeIs F.lri_no_len ?_)
 wp_delta
 refine un8 (jv hI.typeIs F.lri_hint ?_)
 wp_delta
 refine un8 (wpAny_isInstance hI.typeIs (b:=true) F.lri_self ?_);simp only[jD,ue9,jU];rw[jY (by decide +kernel),jZ (by decide)];refine un9 ?_;have fin:∀h2:Heap,(∃c1,h2.get? S=some {cls:=.type "list",data:=.seq #[] c1})->(∀b o,b≠S->s.heap.get? b=some o->h2.get? b=some o)->wpAny (model prog w) A.in1 (again (.builtin "list.extend.loop" ⟨[.ref S,.ref I,res],[]⟩)) (λfin s'=>match fin with | .done f=>R (.ok f) s' | .again c'=>c'.quiet=true/\codeAny (model prog w) A c' R s') (λe s'=>R (.error e) s') {s with heap:=h2}:=λh2 z9 oth=>by
  clear 5 z9 c1 hS2;refine un9 ⟨plainId_quiet F.plain_extend_loop _,codeAny_extend_loopS (s:={s with heap:=h2}) (Walks.listRev (A:=A.in1) hh I l hne items).toS hn _ hSf _ items.size 0 _ _ rfl (un5 _) ⟨un5 _,?_,hl.at λo e=>oth l o (Ne.symm hSl) e⟩ hS2 (ItemsOf.nil _) λs' acc' c' hm hS' hacc=>?_⟩
  .rw[show(items.size:Int)-1-((0:Nat):Int)=(items.size:Int)-1 by lia];exact hI.at λo e=>oth I o (Ne.symm hSI) e
  rw[Moved.eq_with hm];refine hR s'.heap s'.toks acc' c' (λb ob hb hb2 e=>hm.heap b ob (λhmem=>?_) (oth b ob hb e)) hS' hacc;simp only[uk9,uh6,jV] at hmem;exact hmem.elim hb hb2
 split
 .refine un8 (jO ?_);refine un8 ?_;show wpAny _ A.in1 (updateSeq S (·.push .none) >>= λ_=>updateSeq S (·.pop)) _ _ _;refine un8 (jw hS rfl ?_);have hS₂:=uc9 (Obj.mapSeq (·.push Value.none)) hS rfl;refine jw (hz:=by seq_fits) hS₂ rfl ?_;have hS₃:=uc9 (Obj.mapSeq (·.pop)) hS₂ rfl;exact fin _ ⟨_,hS₃⟩ λb o hb e=>(ub9 _ _ (Ne.symm hb)).trans ((ub9 _ _ (Ne.symm hb)).trans e)
 .exact fin s.heap ⟨_,hS⟩ λb o _ e=>e
theorem HX{R:Result->gn->Prop}(hh:A.handled=none){I l:gm}{items:Array gk}(S:gm)(hI:s.heap.IsRevIter I l ((items.size:Int)-1))(hl:s.heap.IsList l items)(hne:l≠I)(hSI:S≠I)(hSl:S≠l)(hS:s.heap.get? S=some {cls:=.type "list",data:=.seq #[]})
 (hR:∀h' tk acc' c',(∀b o,b≠S->b≠I->s.heap.get? b=some o->h'.get? b=some o)->h'.get? S=some { cls:=.type "list",dict:=none,data:=.seq acc' c',slots:=#[] }->
   ItemsOf (λi v=>items[items.size-1-i]?=some v) acc' items.size->R (.ok (.ret .none)) {s with heap:=h',toks:=tk}) (hn:items.size<=sizeLine:=by size_fits) :
 wpAny (model prog w) A.in1 (Builtin.«list.__init__» ⟨[.ref S,.ref I],[]⟩)
  (λfin s'=>match fin with | .done f=>R (.ok f) s' | .again c'=>c'.quiet=true/\codeAny (model prog w) A c' R s') (λe s'=>R (.error e) s') s:=by
 show wpAny _ _ (do let old <-Builtin.List.listItems (.ref S);Builtin.List.listUpdate (.ref S) (λ_=>#[]);letGo old.toList.reverse;Builtin.List.listExtendWith (.ref S) (.ref I) .none) _ _ s;refine un8 ?_;unfold Builtin.List.listItems;refine un8 (wpAny_seqItems hS rfl (un9 ?_));show wpAny _ _ (updateSeq S (λ_=>#[]) >>= λ_=>letGo (#[]:Array gk).toList.reverse >>= λ_=>Builtin.List.listExtendWith (.ref S) (.ref I) .none) _ _ s;refine un8 (jw hS rfl ?_);have hS₂:=uc9 (Obj.mapSeq (λ_=>(#[]:Array gk))) hS rfl;have oth:∀b o,b≠S->s.heap.get? b=some o->(s.heap.update S (Obj.mapSeq (λ_=>(#[]:Array gk)))).get? b=some o:=
  λb o hb e=>(ub9 _ _ (Ne.symm hb)).trans e
 refine un8 (wpAny_letGo ?_);refine J7 (hn:=hn) hh S .none _ (hI.at λo e=>oth I o (Ne.symm hSI) e) (hl.at λo e=>oth l o (Ne.symm hSl) e) hne hSI hSl hS₂ λh' tk acc' c' hk hS' hacc=>?_;exact hR h' tk acc' c' (λb o hb hb2 e=>hk b o hb hb2 (oth b o hb e)) hS' hacc
theorem Ls{Q:gk->gn->Prop}(hh:A.handled=none){I l:gm}{items:Array gk}(hI:s.heap.IsRevIter I l ((items.size:Int)-1))(hl:s.heap.IsList l items)(hne:l≠I)
 (hQ:∀h' tk acc' c',(∀b o,b≠I->s.heap.get? b=some o->h'.get? b=some o)->
   h'.get? s.heap.objs.size=some {cls:=.type "list",dict:=none,data:=.seq acc' c',slots:=#[]}->ItemsOf (λi v=>items[items.size-1-i]?=some v) acc' items.size->Q (.ref s.heap.objs.size) {s with heap:=h',toks:=tk}) (hn:items.size<=sizeLine:=by size_fits) :
 wpAny (model prog w) A (call (.type "list") [.ref I]) Q E s:=by
 refine callType_codes (Q₁:=λobj s₁=>obj=.ref s.heap.objs.size/\s₁ = {s with heap:=s.heap.push {cls:=.type "list",data:=.seq #[]} }) F.called_list (F.typeCall_list_1 _) F.entry_list_init
  (code_list_new _ ⟨rfl,rfl⟩) λobj s₁ h₁=>?_
 clear 5 h₁ rfl rfl;have hS:(s.heap.push {cls:=.type "list",data:=.seq #[]}).get? s.heap.objs.size=some {cls:=.type "list",data:=.seq #[]}:=ud7 _ rfl;have lI:I<s.heap.objs.size:=by obtain⟨o,ho,_⟩:=hI;exact um2 ho
 have ll:l<s.heap.objs.size:=by obtain⟨o,ho,_⟩:=hl;exact um2 ho
 refine⟨⟨_,hS,rfl⟩,F.args_list_init_2 _ _,HX (A:=A.in1) (hn:=hn) hh _ (hI.at λo e=>ub8 _ e) (hl.at λo e=>ub8 _ e) hne (um5 lI) (um5 ll) hS λh' tk acc' c' hk hS' hacc=>?_⟩;exact⟨rfl,hQ h' tk acc' c' (λb o hb e=>hk b o (um3 (um2 e)) hb (ub8 _ e)) hS' hacc⟩
end
end PySem
namespace L2
open PySem PySem.Spec PyProof.Rows
section
variable{X:Cx}{e:Expr}{ta:TA}{p p2 pos2 pos:Pos}
theorem U1{ys:List V}{its:List gk}{acc:Array gk}(r:Vals ys its)(h:ItemsOf (λi v=>its.toArray[its.toArray.size-1-i]?=some v) acc its.toArray.size):Vals ys.reverse acc.toList:=by
 have e:acc.toList=its.reverse:=by
  refine List.ext_getElem? λj=>?_
  by_cases hj:j<its.length
  .have hj2:j<acc.size:=by rw[h.1];simpa using hj
   have h2:=h.2 j acc[j] (ij hj2);rw[Array.getElem?_toList,ij hj2,List.getElem?_reverse hj];simpa using h2.symm
  .rw[ud0 (by rw[ud6,h.1];simpa using hj),ud0 (by rw[List.length_reverse];lia)]
 rw[e];exact r.rev
theorem Qf(hc:X.calm=true)(hgl:Gl X "list")(hml:X.mg "list" = none)(hgr:Gl X "reversed")(hmr:X.mg "reversed" = none)(ha:PA X [e] ta)(he:starEach [e] X.env=[(false,eval e X.env)]) :
 PE X (.Call (.Name "list" p) [.Call (.Name "reversed" p2) [e] [] pos2] [] pos) (λσ H Q=>ta σ H λxs H1=>∃a ys,xs=[.ref a]/\SqL X.K H1 a ys/\∀l,H1 l=none->Q (.ref l) (upd H1 l (.lst ys.reverse))):=by
 intro gj s σ H Q I h;refine jm (Fq I hgl hml (show bootBuiltins "list" = some (.type "list") by decide +kernel) ?_);refine callWith_type1 ?_ rfl rfl;show wpAny _ _ (spliced ((false,eval (.Call (.Name "reversed" p2) [e] [] pos2) X.env)::backTo pos (starEach [] X.env))) _ _ s;refine Calls.spliced_cons ?_;refine jm (Fq I hgr hmr (show bootBuiltins "reversed" = some (.type "reversed") by decide +kernel) ?_);refine callWith_type1 (thn (ha pos2 gj s σ H _ I h) λus s1 z9=>?_) he rfl;clear 5 z9 vs H1 I1 r1 q1;clear 5 q1 a ys ev hq q;subst ev;clear 5(FN r1)u rfl ru
 cases ru
 clear 5(I1.list hq)its rv pl hz;have hil:=pl.isList;have la:a<s1.heap.objs.size:=by obtain⟨o,ho,_⟩:=hil;exact um2 ho
 refine call_reversed_list hil ?_;refine Calls.spliced_nil ?_;have hsz:(s1.heap.push (revObj a ((its.toArray.size:Int)-1))).objs.size=s1.heap.objs.size+1:=uk4 ..;refine Ls (I.ok.hd hc) (items:=its.toArray) ⟨_,ud7 _ rfl,rfl,rfl⟩ (hil.at λo e=>ub8 _ e) (um3 la) (λh' tk acc' c' kk hS hacc=>?_) (by rw[uf4,<-rv.length];exact hz);rw[hsz] at hS⊢;refine⟨.ref (s1.heap.objs.size+1),_,I1.laid (t':=tk) (λb o e=>kk b o (um3 (um2 e)) (ub8 _ e)) (un6 _) (show ObjOk X.prog X.w _ h' _ (.lst ys.reverse) from⟨?_,acc'.toList,c',U1 rv hacc,?_⟩),rfl,q _ (I1.hok.fresh (un6 _))⟩
 .rw[List.length_reverse];exact hz
 .simpa using hS
def Vs:V->List V->Hp->VK->Prop:=λx xs H Q=>∃z y,x=.str z/\xs=[.str y]/\Q (.int (Txt.find z y)) H
theorem WH:MtR X "str.find" Vs:=by
 intro gj s σ H x xs v us Q I rx rs h;clear 5 h z y rfl rfl q;clear 5 rx t rfl;clear 5(FN rs)u rfl t' rfl;exact SC.find ⟨.int _,H,I.tok _,⟨_,rfl⟩,q⟩
end
section
variable{X:Cx}{K:gi}{e:Expr}{p p2 pos2 pos:Pos}
def LM:List D->M (List D)
 |[.lst ds]=>ret ds.reverse
 |_=>fail
theorem UP:Ke K (λxs H Q=>∃a ys,xs=[.ref a]/\SqL K H a ys/\∀l,H l=none->Q (.ref l) (upd H l (.lst ys.reverse))) LM:=λ{Oo c t σ H xs ds r t' Q} f rx eq k=>by
 unfold LM at eq
 split at eq
 .next ds=>
  clear 5(EL rx)v rfl rv
  cases eq
  cases rv with
  |@lst a vs ds h1 h2 h3=>exact⟨a,vs,rfl,SqL.of h1,λq hq=>k q _ H c f .refl h3.rev hq⟩
 .cases eq
theorem PK{f:M (List D)}(hc:X.calm=true)(hgl:Gl X "list")(hml:X.mg "list" = none)(hgr:Gl X "reversed")(hmr:X.mg "reversed" = none)(ha:PA X [e] (RA X.K f))(h1:AV e=false:=by rfl) :
 PE X (.Call (.Name "list" p) [.Call (.Name "reversed" p2) [e] [] pos2] [] pos) (RF X.K (fBF f LM)):=
 AE (Qf hc hgl hml hgr hmr ha (AX h1)) λ_ _ _ q=>RF.callB UP q
def findM(f:M D)(g:M (List D)):M D:=bnd f λo=>bnd g λas=>match o,as with
 |.str z,[.str y]=>ret (.int (Txt.find z y))
 |_,_=>fail
theorem RE.findM{f:M D}{g:M (List D)}{σ:L2.St}{H:Hp}{Q:VK}(q:RE K (L2.findM f g) σ H Q):tBM K "str" Vs (RE K f) (RA K g) σ H Q:=by
 clear 5 q Oo c t fi r t' eq k;clear 5(Af eq)d t1 e1 eq;clear 5(Af eq)as t2 e2 eq;refine⟨Oo,c,t,fi,d,t1,e1,λv H1 c1 f1 s1 rv=>?_⟩
 split at eq
 .next z y=>
  cases rv
  refine⟨rfl,Oo,c1,t1,f1,_,t2,e2,λus H2 c2 f2 s2 rus=>?_⟩;clear 5(EL rus)w rfl rw'
  cases eq
  cases rw'
  exact⟨_,_,rfl,rfl,k _ _ c2 f2 (s1.trans s2) (.int _)⟩
 .cases eq
theorem V8{o e:Expr}{es:List Expr}{f:M D}{g:M (List D)}{apos cpos:Pos}(ho:PE X o (RE X.K f))(ha:PA X (e::es) (RA X.K g))
 (hbase:attributeBase o "find" X.env (eval o X.env)=eval o X.env:=by rfl)
 (hfew:((backTo cpos (starEach (e::es) X.env)).all (λx=>!x.1)&&(backToKw cpos (keywordEach [] X.env)).all (λx=>x.1.isSome)&&decide ((e::es).length+([]:List Keyword).length+(if ([]:List Keyword).isEmpty then 0 else 1)<30))=true:=by rfl)
 (hline:(apos.endLine==cpos.line)=true:=by rfl) (hs:starEach (e::es) X.env=(false,eval e X.env)::starEach es X.env:=by rfl) (hplain:(backTo cpos (starEach es X.env)).any (·.1)=false:=by rfl) :
 PE X (.Call (.Attribute o "find" apos) (e::es) [] cpos) (RE X.K (findM f g)):=
 AE (MI PySem.F.plainAttrs_str PySem.F.slot_str_find PySem.F.type_str_find WH ho ha hbase hfew hline hs hplain) λ_ _ _ q=>RE.findM q
end
open PySem.SeqAt
section
variable{X:Cx}{a b:Expr}{pos:Pos}{f:M Bool}{u v:M D}
theorem T0{E:L2.St->XK}{d:Expr}(hc:PT X d (RT X.K f))(ha:PE X a (RX X.K E u))(hb:PE X b (RX X.K E v)):PE X (.IfExp d a b pos) (RX X.K E (fIf f u v)):=
 AE (NZ hc ha hb) λσ H Q z9=>by
  clear 5 z9 Oo c t fi r t' eq k;clear 5(Af eq)kb t1 e1 eq;refine⟨Oo,c,t,fi,kb,t1,e1,λH1 c1 f1 s1=>?_⟩
  cases kb with
  |false=>rw[jZ ue5] at eq⊢;exact⟨Oo,c1,t1,f1,r,t',eq,λy H2 c2 f2 s2 ry=>k y H2 c2 f2 (s1.trans s2) ry⟩
  |true=>rw[jY rfl] at eq⊢;exact⟨Oo,c1,t1,f1,r,t',eq,λy H2 c2 f2 s2 ry=>k y H2 c2 f2 (s1.trans s2) ry⟩
end
section
variable{X:Cx}{a b:Expr}{pos:Pos}
def NY(i j:Nat)(f:M (List D)):M Out:=bnd f λds t=>match ds with
 |[d,e]=>some (.next,{t with env:=(t.env.set i (some (.val d))).set j (some (.val e))})
 |_=>none
theorem Y0{μ:Cf->Hp->D->(V->Hp->Prop)->Prop}{i j:Nat}{x y:Str}{f:M (List D)}{px py pt:Pos}{kt k2 pt2}(hc:X.calm=true)(hN:X.N.Nodup)(hi:X.N[i]?=some x)(hj:X.N[j]?=some y)(hij:i≠j)
 (hx:X.env.scope.names.lookup x=some .local) (hy:X.env.scope.names.lookup y=some .local) (ha:PA X [a,b] (RA X.K f))
 (hw:swappedStores [.Tuple [.Name x px,.Name y py] kt pt] (.Tuple [a,b] k2 pt2) X.env=pure (some [x,y]))
 (hs:swapsWithSole [.Tuple [.Name x px,.Name y py] kt pt] (.Tuple [a,b] k2 pt2) pos.line X.env=pure false:=by rfl) :
 PS X (.Assign [.Tuple [.Name x px,.Name y py] kt pt] (.Tuple [a,b] k2 pt2) pos) (RSg X.K μ (NY i j f)):=
 A7 (ZQ hc hN hi hj hij hx hy ha hw hs) λE σ H z9=>by
  clear 5 z9 Oo c t fi o t' eq k;clear 5(Af eq)ds t1 e1 eq
  match ds,e1,eq with
  |[d,e],e1,eq=>
    cases eq
    refine⟨Oo,c,t,fi,[d,e],t1,e1,λvs H1 c1 f1 s1 rv=>?_⟩
    cases rv with
    |cons r1 r2=>
      cases r2 with
      |cons r2 r3=>
        cases r3
        exact⟨_,_,rfl,k _ H1 c1 ((f1.set r1).set r2) s1⟩
end
abbrev vw(d:L2.D):Option L2.Sl:=some (.val d)
abbrev gh(i:Int):L2.M L2.D:=L2.fC (.int i)
end L2
namespace LW
open PySem L2
def GG:M Out:=
 (Al (FH (fB (Ab (Aa 0) (Ab (fC (.ty "int")) Ad)) C7) (IV (fB (Ab (Aa 0) (Ab (fC (.ty "bool")) Ad)) C7))))
def DI(M7:Fn):M Out:=
 (Al (FH (Ag M7 (Ab (Aa 0) Ad)) (DE (Aa 1) (Aa 0) (Aa 2) leA leA)))
def NH(Ln M5 M4 M6 Dt:Fn):M Out:=
 (Ae (Ap 2 (Ac (Aa 0) (gh 0) ixD))
 (Ae (ifS (Am (Ac (Aa 2) (fC (.str "nothing")) (eqS id)))
   (Al (Ac (Aa 1) (fC .non) isC))
   As)
 (Ae (ifS (Am (Ac (Aa 2) (fC (.str "number")) (eqS id)))
   (Al (Ag Dt (Ab (Aa 1) (Ab (Ac (Aa 0) (gh 1) ixD) (Ab (Ac (Aa 0) (gh 2) ixD) Ad)))))
   As)
 (Ae (ifS (Am (Ac (Aa 2) (fC (.str "text")) (eqS id)))
   (Al (Ag M6 (Ab (Aa 0) (Ab (Aa 1) Ad))))
   As)
 (Ae (ifS (Am (Ac (Aa 2) (fC (.str "list")) (eqS id)))
   (Al (Ag M4 (Ab (Aa 0) (Ab (Aa 1) Ad))))
   As)
 (Ae (ifS (Am (Ac (Aa 2) (fC (.str "pair")) (eqS id)))
   (Al (Ag M5 (Ab (Aa 0) (Ab (Aa 1) Ad))))
   As)
 (Al (Ag Ln (Ab (Aa 0) (Ab (Aa 1) Ad))))))))))
def GF(Ho:Fn):M Out:=
 (Ae (ifS (fOr (C1 (Am (fB (Ab (Aa 1) (Ab (fC (.ty "str")) Ad)) C7))) (Am (Ac (fB (Ab (Aa 1) Ad) AO) (Ac (Aa 0) (gh 1) ixD) gtA)))
   (Al (fC (.bl false)))
   As)
 (Ae (Bn (CZ (Aa 1)) (Aw 2)
   (ifS (C1 (Am (Ag Ho (Ab (fB (Ab (Aa 2) Ad) JP) Ad))))
   (Al (fC (.bl false)))
   As))
 (Al (fC (.bl true)))))
def Iu:M Out:=
 (Al (FH (DE (gh 32) (Aa 0) (gh 126) leA leA) (Ac (Aa 0) (gh 37) (eqS λb=>!b))))
def GC(Em:Fn):M Out:=
 (Ae (ifS (fOr (C1 (Am (fB (Ab (Aa 1) (Ab (fC (.ty "list")) Ad)) C7))) (Am (Ac (fB (Ab (Aa 1) Ad) AO) (Ac (Aa 0) (gh 2) ixD) gtA)))
   (Al (fC (.bl false)))
   As)
 (Ae (Bn (CZ (Aa 1)) (Aw 2)
   (ifS (C1 (Am (Ag Em (Ab (Ac (Aa 0) (gh 1) ixD) (Ab (Aa 2) Ad)))))
   (Al (fC (.bl false)))
   As))
 (Al (fC (.bl true)))))
def GD(Em:Fn):M Out:=
 (Ae (ifS (fOr (C1 (Am (fB (Ab (Aa 1) (Ab (fC (.ty "tuple")) Ad)) C7))) (Am (Ac (fB (Ab (Aa 1) Ad) AO) (gh 2) (eqS λb=>!b))))
   (Al (fC (.bl false)))
   As)
 (Al (FH (Ag Em (Ab (Ac (Aa 0) (gh 1) ixD) (Ab (Ac (Aa 1) (gh 0) ixD) Ad))) (Ag Em (Ab (Ac (Aa 0) (gh 2) ixD) (Ab (Ac (Aa 1) (gh 1) ixD) Ad))))))
def Fz(Em Dt:Fn):M Out:=
 (Ae (ifS (fOr (C1 (Am (fB (Ab (Aa 1) (Ab (fC (.ty "tuple")) Ad)) C7))) (Am (Ac (fB (Ab (Aa 1) Ad) AO) (gh 3) (eqS λb=>!b))))
   (Al (fC (.bl false)))
   As)
 (Ae (ifS (fOr (C1 (Am (fB (Ab (Ac (Aa 1) (gh 0) ixD) (Ab (fC (.ty "str")) Ad)) C7))) (Am (Ac (Ac (Aa 1) (gh 0) ixD) (fC (.str "of")) (eqS λb=>!b))))
   (Al (fC (.bl false)))
   As)
 (Ae (ifS (C1 (Am (Ag Dt (Ab (Ac (Aa 1) (gh 1) ixD) (Ab (gh 0) (Ab (Ac (fB (Ab (Ac (Aa 0) (gh 1) ixD) Ad) AO) (gh 1) Ca) Ad))))))
   (Al (fC (.bl false)))
   As)
 (Al (Ag Em (Ab (Ac (Ac (Aa 0) (gh 1) ixD) (Ac (Aa 1) (gh 1) ixD) ixD) (Ab (Ac (Aa 1) (gh 2) ixD) Ad)))))))
def Ga:M Out:=
 (Al (Ac (Ac (Ac (Ac (Aa 0) (Ac (Aa 1) (gh 0) ixD) ixD) (gh 1) ixD) (Ac (Aa 1) (gh 1) ixD) ixD) (gh 2) ixD))
def DJ(Em ET:Fn):M Out:=
 (Ae (ifS (fOr (C1 (Am (fB (Ab (Aa 1) (Ab (fC (.ty "tuple")) Ad)) C7))) (Am (Ac (fB (Ab (Aa 1) Ad) AO) (gh 3) (eqS λb=>!b))))
   (Al (fC .non))
   As)
 (Ae (ifS (fOr (C1 (Am (fB (Ab (Ac (Aa 1) (gh 0) ixD) (Ab (fC (.ty "str")) Ad)) C7))) (Am (Ac (Ac (Aa 1) (gh 0) ixD) (Ac (Aa 0) (gh 0) ixD) (eqS λb=>!b))))
   (Al (fC .non))
   As)
 (Ae (Ap 2 (Ag ET (Ab (Aa 0) (Ab (Ac (Aa 1) (gh 1) ixD) Ad))))
 (Ae (ifS (fOr (Am (Ac (Aa 2) (fC .non) isC)) (C1 (Am (Ag Em (Ab (Ac (Ac (Ac (Aa 0) (gh 1) ixD) (Aa 2) ixD) (gh 1) ixD) (Ab (Ac (Aa 1) (gh 2) ixD) Ad))))))
   (Al (fC .non))
   As)
 (Al (Aa 2))))))
def Cz(CL:Fn):M Out:=
 (Ae (ifS (C1 (Am (fB (Ab (Aa 1) (Ab (fC (.ty "str")) Ad)) C7)))
   (Al (fC .non))
   As)
 (Ae (Ap 2 (Ag CL (Ab (Aa 0) Ad)))
 (Ae (Bn (BV (Ab (fB (Ab (Aa 2) Ad) AO) Ad)) (Aw 3)
   (ifS (Am (Ac (Ac (Ac (Aa 2) (Aa 3) ixD) (gh 0) ixD) (Aa 1) (eqS id)))
   (Al (Aa 3))
   As))
 (Al (fC .non)))))
def HC(B2:Fn):M Out:=
 (Al (fIf (Am (Ag B2 (Ab (Aa 0) Ad))) (AQ Ad) (Ac (Aa 0) (gh 1) ixD)))
def JL:M Out:=
 (Al (Ac (Ac (Aa 0) (gh 0) ixD) (fC (.str "end")) (eqS id)))
def HB(Ex:Fn):M Out:=
 (Ae (ifS (Am (Ac (Aa 1) (gh 0) ltA))
   (Al (gh 0))
   As)
 (Al (Ac (Ac (Ag Ex (Ab (Aa 0) (Ab (Aa 1) Ad))) (Aa 1) ixD) (gh 0) ixD)))
def E3(CQ D0:Fn):M Out:=
 (Ae (CU 2 (AG (Ab (Ag D0 (Ab (Aa 0) Ad)) Ad)))
 (Ae (Bn (BV (Ab (Aa 1) Ad)) (Aw 3)
   (ownM 2 CI (Ab (Ag CQ (Ab (Aa 0) (Ab (GN 2 (Aa 3)) Ad))) Ad)))
 (Al (Aa 2))))
def Ed(B2:Fn):M Out:=
 (Al (Ar (BA 1 [] (CZ (Aa 0)) (Aw 0) Eh (fIf (Am (Ag B2 (Ab (Aa 0) Ad))) (gh 1) (gh 0)))))
def C9(CL BF:Fn):M Out:=
 (Al (Ar (BA 1 [1] (CZ (Aa 0)) (Aw 0) Eh (Ag BF (Ab (Ag CL (Ab (Aa 0) Ad)) (Ab (Aa 1) Ad))))))
def E2:M Out:=
 (Al (fB (Ab (Ar (BA 1 [1] (CZ (Aa 0)) (Aw 0) Eh (Ac (Aa 1) (Ac (Aa 0) (gh 2) ixD) ixD))) Ad) LX))
def JM(BF Jn CL Ex Os:Fn):M Out:=
 (Ae (ifS (C1 (Am (DE (gh 0) (Aa 2) (Ag Os (Ab (Aa 0) (Ab (Aa 1) Ad))) leA ltA)))
   fail
   As)
 (Ae (Ap 3 (Ag Ex (Ab (Aa 0) (Ab (Aa 1) Ad))))
 (Ae (CU 4 (AG Ad))
 (Ae (Ap 5 (gh 0))
 (Ae (Ap 6 (Aa 2))
 (Ae (Bn (KB (Ab (Ac (Aa 1) (gh 1) Ca) (Ab (fUn (gh 1) HD) (Ab (fUn (gh 1) HD) Ad)))) (Aw 7)
   (Ae (Ap 8 (Ag CL (Ab (Ac (Aa 0) (Aa 5) ixD) Ad)))
 (Ae (Ap 9 (Ag Jn (Ab (Aa 8) (Ab (Ac (Aa 3) (Aa 7) ixD) (Ab (Aa 6) Ad)))))
 (Ae (Ap 6 (Ac (Aa 6) (Ag BF (Ab (fSl (Aa 8) fNo (Ct (Aa 9)) Cr) (Ab (Ac (Aa 3) (Aa 7) ixD) Ad))) Ca))
 (Ae (ownM 4 CI (Ab (Ac (Ac (Aa 8) (Aa 9) ixD) (gh 0) ixD) Ad))
 (Ap 5 (Ac (Ac (Aa 8) (Aa 9) ixD) (gh 2) ixD)))))))
 (Gg 4)))))))
def Eg(BF:Fn):M Out:=
 (Ae (Ap 3 (gh 0))
 (Ae (IL (Am (Ac (Aa 2) (Ag BF (Ab (fSl (Aa 0) fNo (Ct (Ac (Aa 3) (gh 1) Ay)) Cr) (Ab (Aa 1) Ad))) geA))
   (Ap 3 (Ac (Aa 3) (gh 1) Ay)))
 (Al (Aa 3))))
def GH(CQ BF CL D0 Lq:Fn):M Out:=
 (Ae (Ap 2 (Ag Lq (Ab (Aa 0) (Ab (Aa 1) Ad))))
 (Ae (Ap 3 (Ag D0 (Ab (Aa 0) Ad)))
 (Ae (Ap 4 (gh 0))
 (Ae (Bn (KB (Ab (Ac (fB (Ab (Aa 2) Ad) AO) (gh 1) Ca) (Ab (fUn (gh 1) HD) (Ab (fUn (gh 1) HD) Ad)))) (Aw 5)
   (Ae (Ap 6 (Ag CL (Ab (Ac (Aa 0) (Ac (Ac (Aa 2) (Aa 5) ixD) (gh 0) ixD) ixD) Ad)))
 (Ae (Ap 4 (Ac (Aa 4) (Ag BF (Ab (fSl (Aa 6) fNo (Ct (Ac (Ac (Aa 2) (Aa 5) ixD) (gh 1) ixD)) Cr) (Ab (Aa 3) Ad))) Ay))
 (Ap 3 (Ag CQ (Ab (Aa 0) (Ab (Aa 3) Ad)))))))
 (Al (Aa 4))))))
def FB(B2 Dl ET:Fn):M Out:=
 (Ae (Ap 2 (gh 0))
 (Ae (CU 3 (AG Ad))
 (Ae (Bn (CZ (Aa 1)) (Aw 4)
   (Ae (Ap 5 (Ag ET (Ab (Ac (Aa 0) (Aa 2) ixD) (Ab (Aa 4) Ad))))
 (Ae (ifS (Am (Ac (Aa 5) (fC .non) isC))
   fail
   As)
 (Ae (Ap 6 (AQ (Ab (Aa 2) (Ab (Aa 5) Ad))))
 (Ae (ownM 3 CI (Ab (Aa 6) Ad))
 (Ap 2 (Ag Dl (Ab (Aa 0) (Ab (Aa 6) Ad)))))))))
 (Ae (ifS (C1 (Am (Ag B2 (Ab (Ac (Aa 0) (Aa 2) ixD) Ad))))
   fail
   As)
 (Al (Aa 3))))))
def EH(BR EU Kq:Fn):M Out:=
 (Ae (Ap 2 (Ac (Aa 0) (gh 0) ixD))
 (Ae (ifS (Am (Ac (Aa 2) (fC (.str "nothing")) (eqS id)))
   (HJ (AG Ad))
   As)
 (Ae (ifS (Am (Ac (Aa 2) (fC (.str "number")) (eqS id)))
   (HJ (DC Kq (Ab (Ac (Aa 1) (Ac (Aa 0) (gh 1) ixD) Ca) (Ab (Ag EU (Ab (Ac (Ac (Aa 0) (gh 2) ixD) (Ac (Aa 0) (gh 1) ixD) Ca) Ad)) Ad))))
   As)
 (Ae (ifS (Am (Ac (Aa 2) (fC (.str "text")) (eqS id)))
   (HJ (bnd (Ar (AG (Ab (fB (Ab (Aa 1) Ad) AO) Ad))) λx=>bnd (Ar (BA 1 [] (CZ (Aa 1)) (Aw 0) Eh (fB (Ab (Aa 0) Ad) JP))) λy=>Ig x y))
   As)
 (Ae (ifS (Am (Ac (Aa 2) (fC (.str "list")) (eqS id)))
   (Ae (CU 3 (AG (Ab (fB (Ab (Aa 1) Ad) AO) Ad)))
 (Ae (Bn (CZ (Aa 1)) (Aw 4)
   (ownM 3 EW (Ab (Ar (DC BR (Ab (Ac (Aa 0) (gh 1) ixD) (Ab (Aa 4) Ad)))) Ad)))
 (Gg 3)))
   As)
 (Ae (ifS (Am (Ac (Aa 2) (fC (.str "pair")) (eqS id)))
   (HJ (bnd (Ar (DC BR (Ab (Ac (Aa 0) (gh 1) ixD) (Ab (Ac (Aa 1) (gh 0) ixD) Ad)))) λx=>bnd (Ar (DC BR (Ab (Ac (Aa 0) (gh 2) ixD) (Ab (Ac (Aa 1) (gh 1) ixD) Ad)))) λy=>Ig x y))
   As)
 (HJ (bnd (Ar (AG (Ab (Ac (Aa 1) (gh 1) ixD) Ad))) λx=>bnd (Ar (DC BR (Ab (Ac (Ac (Aa 0) (gh 1) ixD) (Ac (Aa 1) (gh 1) ixD) ixD) (Ab (Ac (Aa 1) (gh 2) ixD) Ad)))) λy=>Ig x y))))))))
def FC:M Out:=
 (Al (Ac (Ac (fUn (Aa 0) Kk) (gh 7) Ay) (gh 8) Ba))
def E6(Hq:Fn):M Out:=
 (HJ (BA 1 [0,1] (Go (Ab (gh 1) (Ab (Ac (Aa 1) (gh 1) Ay) Ad))) (Aw 0) Eh (Ac (Ag Hq (Ab (Aa 1) (Ab (Ac (Aa 2) (Aa 0) Ca) Ad))) (gh 256) A3)))
def Iv:M Out:=
 (Al (Ac (Aa 0) (Ac (gh 8) (Aa 1) Cu) Od))
def Dx(Lo Na M9 Nb Lp:Fn):M Out:=
 (Ae (Ap 3 (Ac (Aa 0) (gh 0) ixD))
 (Ae (ifS (Am (Ac (Aa 3) (fC (.str "nothing")) (eqS id)))
   (Al (nxD (AQ (Ab (fC .non) (Ab (Aa 2) Ad)))))
   As)
 (Ae (ifS (Am (Ac (Aa 3) (fC (.str "number")) (eqS id)))
   (Al (Ag Lp (Ab (Aa 0) (Ab (Aa 1) (Ab (Aa 2) Ad)))))
   As)
 (Ae (ifS (Am (Ac (Aa 3) (fC (.str "text")) (eqS id)))
   (Al (Ag Nb (Ab (Aa 0) (Ab (Aa 1) (Ab (Aa 2) Ad)))))
   As)
 (Ae (ifS (Am (Ac (Aa 3) (fC (.str "list")) (eqS id)))
   (Al (Ag M9 (Ab (Aa 0) (Ab (Aa 1) (Ab (Aa 2) Ad)))))
   As)
 (Ae (ifS (Am (Ac (Aa 3) (fC (.str "pair")) (eqS id)))
   (Al (Ag Na (Ab (Aa 0) (Ab (Aa 1) (Ab (Aa 2) Ad)))))
   As)
 (Al (Ag Lo (Ab (Aa 0) (Ab (Aa 1) (Ab (Aa 2) Ad)))))))))))
def F5:M Out:=
 (Ae (ifS (Am (Ac (Aa 1) (fB (Ab (Aa 0) Ad) AO) geA))
   (IF "Short" (Ab (fC (.str "the bytes end within a value")) Ad))
   As)
 (Al (nxD (Ac (Aa 0) (Aa 1) ixD))))
def DW(Py Dk:Fn):M Out:=
 (Ae (CV 3 (Ag Dk (Ab (Ac (Aa 0) (gh 1) ixD) (Ab (Aa 1) (Ab (Aa 2) Ad)))))
 (Ae (Ap 4 (Ac (Aa 2) (gh 1) Ay))
 (Ae (Ap 5 (fC (.str "")))
 (Ae (Bn (BV (Ab (Aa 3) Ad)) (Aw 6)
   (CV 5 (Ff (Aa 5) (Ag Py (Ab (Aa 1) (Ab (Ac (Aa 4) (Aa 6) Ay) Ad))) Ay)))
 (Al (nxD (AQ (Ab (Aa 5) (Ab (Ac (Aa 4) (Aa 3) Ay) Ad)))))))))
def DU(BL Dk:Fn):M Out:=
 (Ae (CV 3 (Ag Dk (Ab (Ac (Aa 0) (gh 2) ixD) (Ab (Aa 1) (Ab (Aa 2) Ad)))))
 (Ae (Ap 4 (Ac (Aa 2) (gh 1) Ay))
 (Ae (CU 5 (AG Ad))
 (Ae (Bn (BV (Ab (Aa 3) Ad)) (Aw 6)
   (Ae (CV 7 (Ag BL (Ab (Ac (Aa 0) (gh 1) ixD) (Ab (Aa 1) (Ab (Aa 4) Ad)))))
 (Ae (ownM 5 CI (Ab (Ac (Aa 7) (gh 0) ixD) Ad))
 (Ap 4 (Ac (Aa 7) (gh 1) ixD)))))
 (Al (nxD (AQ (Ab (Aa 5) (Ab (Aa 4) Ad)))))))))
def DV(BL:Fn):M Out:=
 (Ae (CV 3 (Ag BL (Ab (Ac (Aa 0) (gh 1) ixD) (Ab (Aa 1) (Ab (Aa 2) Ad)))))
 (Ae (CV 4 (Ag BL (Ab (Ac (Aa 0) (gh 2) ixD) (Ab (Aa 1) (Ab (Ac (Aa 3) (gh 1) ixD) Ad)))))
 (Al (nxD (AQ (Ab (AQ (Ab (Ac (Aa 3) (gh 0) ixD) (Ab (Ac (Aa 4) (gh 0) ixD) Ad))) (Ab (Ac (Aa 4) (gh 1) ixD) Ad)))))))
def Db(BL Dk:Fn):M Out:=
 (Ae (CV 3 (Ag Dk (Ab (Ac (fB (Ab (Ac (Aa 0) (gh 1) ixD) Ad) AO) (gh 1) Ca) (Ab (Aa 1) (Ab (Aa 2) Ad)))))
 (Ae (CV 4 (Ag BL (Ab (Ac (Ac (Aa 0) (gh 1) ixD) (Aa 3) ixD) (Ab (Aa 1) (Ab (Ac (Aa 2) (gh 1) Ay) Ad)))))
 (Al (nxD (AQ (Ab (AQ (Ab (fC (.str "of")) (Ab (Aa 3) (Ab (Ac (Aa 4) (gh 0) ixD) Ad)))) (Ab (Ac (Aa 4) (gh 1) ixD) Ad)))))))
def EI(BR:Fn):M Out:=
 (Al (Ac (Ar (AG (Ab (Aa 1) Ad))) (Ar (DC BR (Ab (Ac (Ac (Ac (Aa 0) (gh 1) ixD) (Aa 1) ixD) (gh 1) ixD) (Ab (Aa 2) Ad)))) Ay))
def Dm(Dl MA:Fn):M Out:=
 (Ae (Ap 2 (gh 0))
 (Ae (CU 3 (AG Ad))
 (Ae (Bn (BV (Ab (fB (Ab (Aa 1) Ad) AO) Ad)) (Aw 4)
   (Ae (Ap 5 (Ag MA (Ab (Ac (Aa 0) (Aa 2) ixD) (Ab (Ac (Aa 1) (Aa 4) ixD) Ad))))
 (Ae (ifS (Am (Ac (Aa 5) (fC .non) isC))
   (IG "NoTalk" (Ab (Aa 4) Ad))
   As)
 (Ae (Ap 6 (AQ (Ab (Aa 2) (Ab (Aa 5) Ad))))
 (Ae (ownM 3 CI (Ab (Aa 6) Ad))
 (Ap 2 (Ag Dl (Ab (Aa 0) (Ab (Aa 6) Ad)))))))))
 (Al (nxD (Aa 3))))))
def Dn(JC Gy:Fn):M Out:=
 (Ae (Ap 2 (FI [("left",(Hu (AG Ad))),("right",(Hu (AG Ad)))]))
 (Ae (CV 3 (Ag Gy (Ab (Aa 0) (Ab (Aa 1) Ad))))
 (Ae (Bn (BV (Ab (fB (Ab (Aa 3) Ad) AO) Ad)) (Aw 4)
   (Ae (Ap 5 (Ac (Aa 0) (Ac (Ac (Aa 3) (Aa 4) ixD) (gh 0) ixD) ixD))
 (Gn (objM EW (Ac (Aa 2) (Ac (Aa 5) (gh 0) ixD) A6) (Ab (Ag JC (Ab (Aa 5) (Ab (Ac (Ac (Aa 3) (Aa 4) ixD) (gh 1) ixD) (Ab (Ac (Ac (Aa 1) (Aa 4) ixD) (gh 2) ixD) Ad)))) Ad)))))
 (Al (nxD (AQ (Ab (Ac (Aa 2) (fC (.str "left")) A6) (Ab (Ac (Aa 2) (fC (.str "right")) A6) Ad))))))))
def B9(Dl Gy:Fn):M Out:=
 (Ae (CV 2 (Ag Gy (Ab (Aa 0) (Ab (Aa 1) Ad))))
 (Ae (ifS (Am (Ac (fB (Ab (Aa 2) Ad) AO) (gh 0) (eqS id)))
   (Al (nxD (gh 0)))
   As)
 (Al (nxD (Ag Dl (Ab (Aa 0) (Ab (Ac (Aa 2) (fUn (gh 1) HD) ixD) Ad)))))))
def E5(B2:Fn):M Out:=
 (Al (Ar (BA 1 [] (CZ (Aa 0)) (Aw 0) Eh (fIf (Am (Ag B2 (Ab (Aa 0) Ad))) (Aa 0) (AQ (Ab (Ac (Aa 0) (gh 0) ixD) (Ab (Ar (fBF (Ab (Ac (Aa 0) (gh 1) ixD) Ad) Bo)) Ad)))))))
def EC(Ko:Fn):M Out:=
 (Ae (EN "grammar" (Ag Ko (Ab (Aa 1) Ad)) (Aa 0))
 (Ae (EN "standing" (gh 0) (Aa 0))
 (Ae (EN "wires" (Fm []) (Aa 0))
 (Ae (EN "places" (Fm []) (Aa 0))
 (Bn (CZ (Aa 2)) (Aw 3)
   (Ae (CJ (Hu (AG Ad)) (Gu (EX "wires" (Aa 0)) (Aa 3)))
 (CJ (gh 0) (Gu (EX "places" (Aa 0)) (Aa 3)))))))))
def DT:M Out:=
 (Al (EX "standing" (Aa 0)))
def B3:M Out:=
 (Al (Ac (fB (Ab (Ac (EX "wires" (Aa 0)) (Aa 1) A6) Ad) AO) (Ac (EX "places" (Aa 0)) (Aa 1) A6) Ca))
def ED(Ic:Fn):M Out:=
 (Gn (Ag Ic (Ab (Aa 0) (Ab (Aa 1) (Ab (AQ (Ab (fC (.str "left")) (Ab (fC (.str "right")) Ad))) Ad)))))
def Fw(Ll:Fn):M Out:=
 (Al (CB "Reader" Ll (Aa 0) (Ab (Aa 1) (Ab (Aa 2) Ad))))
def Dv(EQ:Fn):M Out:=
 (Al (AQ (Ab (CB "Reader" EQ (Aa 0) (Ab (fC (.str "left")) Ad)) (Ab (CB "Reader" EQ (Aa 0) (Ab (fC (.str "right")) Ad)) Ad))))
def FA(BG B2:Fn):M Out:=
 (Al (KA B2 (Ff (Aa 0) (Ag BG (Ab (Aa 0) (Ab (Aa 1) Ad))) ixD)))
def F6(B2 BG:Fn):M Out:=
 (Ae (Fc (CV 2 (Ff (Aa 0) (Ag BG (Ab (Aa 0) (Ab (Aa 1) Ad))) ixD)) (hAs "NoTalk" 3 (Al (AQ (Ab (fC (.str "broke")) (Ab (bnd (Aa 3) (Ib "at")) (Ab (Ac (Ac (Aa 1) (bnd (Aa 3) (Ib "at")) ixD) (gh 0) ixD) Ad))))) PZ))
 (Al (fIf (Am (Ag B2 (Ab (Aa 2) Ad))) (AQ (Ab (fC (.str "over")) Ad)) (AQ (Ab (fC (.str "turn")) (Ab (Ac (Aa 2) (gh 0) ixD) Ad))))))
def Dw:M Out:=
 (Ae (ifS (Am (Ac (Aa 1) (fB (Ab (Aa 0) Ad) AO) ltA))
   (Al (Ac (Aa 0) (Aa 1) ixD))
   As)
 (Al (Ac (Ac (Ac (Ac (gh 23) (Aa 1) Cu) (Aa 1) Cu) (Ac (gh 13) (Aa 1) Cu) Ay) (gh 5) Ay)))
def Fy:M Out:=
 (Ae (Ap 2 (Ac (Ac (Ac (Ac (Ac (Aa 0) (gh 48271) Cu) (Ac (Ac (gh 7919) (Aa 1) Cu) (Aa 1) Cu) Ay) (Ac (gh 104729) (Aa 1) Cu) Ay) (gh 11) Ay) (gh 2147483647) A3))
 (Ae (Ap 2 (Ac (Ac (Aa 2) (Aa 2) Cu) (gh 2147483629) A3))
 (Al (Ac (Ac (Ac (Aa 2) (Aa 2) Cu) (Ac (Aa 2) (gh 1000003) Cu) Ay) (Aa 0) Ay))))
def Cl(D8:Fn):M Out:=
 (Ae (Ap 2 (Ac (Aa 0) (gh 7) A3))
 (Ae (Ap 0 (Ac (Aa 0) (gh 7) Ba))
 (Ae (ifS (fOr (Am (Ac (Aa 2) (gh 2) ltA)) (Am (Ac (Aa 1) (gh 0) (eqS id))))
   (Ae (Ap 3 (Ac (Ac (Aa 0) (gh 9) A3) (gh 4) Ca))
 (Al (Ar (AG (Ab (AQ (Ab (fC (.str "number")) (Ab (Aa 3) (Ab (Ac (Aa 3) (Ac (Ar (AG (Ab (gh 0) (Ab (gh 1) (Ab (gh 255) (Ab (gh 256) (Ab (gh 300) (Ab (gh 70000) Ad)))))))) (Ac (Ac (Aa 0) (gh 9) Ba) (gh 6) A3) ixD) Ay) Ad)))) (Ab (Ac (Aa 0) (gh 54) Ba) Ad))))))
   As)
 (Ae (ifS (Am (Ac (Aa 2) (gh 2) (eqS id)))
   (Al (Ar (AG (Ab (AQ (Ab (fC (.str "nothing")) Ad)) (Ab (Aa 0) Ad)))))
   As)
 (Ae (ifS (Am (Ac (Aa 2) (gh 3) (eqS id)))
   (Al (Ar (AG (Ab (AQ (Ab (fC (.str "text")) (Ab (Ac (Aa 0) (gh 4) A3) Ad))) (Ab (Ac (Aa 0) (gh 4) Ba) Ad)))))
   As)
 (Ae (CJ (Ag D8 (Ab (Aa 0) (Ab (Ac (Aa 1) (gh 1) Ca) Ad))) (unS 2 (AI (Aw 4) (AI (Aw 0) Cm))))
 (Ae (ifS (Am (Ac (Aa 2) (gh 4) (eqS id)))
   (Al (Ar (AG (Ab (AQ (Ab (fC (.str "list")) (Ab (Aa 4) (Ab (Ac (Aa 0) (gh 4) A3) Ad)))) (Ab (Ac (Aa 0) (gh 4) Ba) Ad)))))
   As)
 (Ae (CJ (Ag D8 (Ab (Aa 0) (Ab (Ac (Aa 1) (gh 1) Ca) Ad))) (unS 2 (AI (Aw 5) (AI (Aw 0) Cm))))
 (Ae (ifS (Am (Ac (Aa 2) (gh 5) (eqS id)))
   (Al (Ar (AG (Ab (AQ (Ab (fC (.str "pair")) (Ab (Aa 4) (Ab (Aa 5) Ad)))) (Ab (Aa 0) Ad)))))
   As)
 (Al (Ar (AG (Ab (AQ (Ab (fC (.str "choice")) (Ab (AQ (Ab (Aa 4) (Ab (Aa 5) Ad))) Ad))) (Ab (Aa 0) Ad))))))))))))))
def Ef(Cy:Fn):M Out:=
 (Ae (Ap 2 (Ac (Aa 0) (gh 0) ixD))
 (Ae (ifS (Am (Ac (Aa 2) (fC (.str "nothing")) (eqS id)))
   (Al (Ar (AG (Ab (fC .non) (Ab (Aa 1) Ad)))))
   As)
 (Ae (ifS (Am (Ac (Aa 2) (fC (.str "number")) (eqS id)))
   (Ae (Ap 3 (Ac (Ac (Ac (Aa 0) (gh 2) ixD) (Ac (Aa 0) (gh 1) ixD) Ca) (gh 1) Ay))
 (Al (Ar (AG (Ab (Ac (Ac (Aa 0) (gh 1) ixD) (Ac (Aa 1) (Aa 3) A3) Ay) (Ab (Ac (Aa 1) (Aa 3) Ba) Ad))))))
   As)
 (Ae (ifS (Am (Ac (Aa 2) (fC (.str "text")) (eqS id)))
   (Ae (Ap 4 (Ac (Aa 1) (Ac (Ac (Aa 0) (gh 1) ixD) (gh 1) Ay) A3))
 (Ae (Ap 5 (Ac (Ac (fC (.str " az~Q0")) (Ac (Ac (Aa 1) (gh 7) Ba) (gh 6) A3) ixD) (Aa 4) Cu))
 (Al (Ar (AG (Ab (Aa 5) (Ab (Ac (Ac (Aa 1) (gh 7) Ba) (Ac (Ac (Aa 0) (gh 1) ixD) (gh 1) Ay) Ba) Ad)))))))
   As)
 (Ae (ifS (Am (Ac (Aa 2) (fC (.str "list")) (eqS id)))
   (Ae (Ap 4 (Ac (Aa 1) (Ac (Ac (Aa 0) (gh 2) ixD) (gh 1) Ay) A3))
 (Ae (Ap 1 (Ac (Aa 1) (Ac (Ac (Aa 0) (gh 2) ixD) (gh 1) Ay) Ba))
 (Ae (CU 6 (AG Ad))
 (Ae (Bn (BV (Ab (Aa 4) Ad)) (Aw 7)
   (Ae (CJ (Ag Cy (Ab (Ac (Aa 0) (gh 1) ixD) (Ab (Ac (Aa 1) (Aa 7) Ay) Ad))) (unS 2 (AI (Aw 8) (AI (Aw 1) Cm))))
 (ownM 6 CI (Ab (Aa 8) Ad))))
 (Al (Ar (AG (Ab (Aa 6) (Ab (Aa 1) Ad)))))))))
   As)
 (Ae (ifS (Am (Ac (Aa 2) (fC (.str "pair")) (eqS id)))
   (Ae (CJ (Ag Cy (Ab (Ac (Aa 0) (gh 1) ixD) (Ab (Aa 1) Ad))) (unS 2 (AI (Aw 8) (AI (Aw 1) Cm))))
 (Ae (CJ (Ag Cy (Ab (Ac (Aa 0) (gh 2) ixD) (Ab (Aa 1) Ad))) (unS 2 (AI (Aw 9) (AI (Aw 1) Cm))))
 (Al (Ar (AG (Ab (AQ (Ab (Aa 8) (Ab (Aa 9) Ad))) (Ab (Aa 1) Ad)))))))
   As)
 (Ae (Ap 7 (Ac (Aa 1) (fB (Ab (Ac (Aa 0) (gh 1) ixD) Ad) AO) A3))
 (Ae (CJ (Ag Cy (Ab (Ac (Ac (Aa 0) (gh 1) ixD) (Aa 7) ixD) (Ab (Ac (Aa 1) (fB (Ab (Ac (Aa 0) (gh 1) ixD) Ad) AO) Ba) Ad))) (unS 2 (AI (Aw 8) (AI (Aw 1) Cm))))
 (Al (Ar (AG (Ab (AQ (Ab (fC (.str "of")) (Ab (Aa 7) (Ab (Aa 8) Ad)))) (Ab (Aa 1) Ad)))))))))))))
def Da:M Out:=
 (Ae (CU 2 (AG Ad))
 (Ae (IL (Am (Ac (Aa 1) (gh 0) gtA))
   (Ae (ownM 2 CI (Ab (Ac (Aa 0) (gh 256) A3) Ad))
 (Ae (Ap 0 (Ac (Aa 0) (gh 256) Ba))
 (Ap 1 (Ac (Aa 1) (gh 256) Ba)))))
 (Al (Ar (fBF (Ab (Aa 2) Ad) LM)))))
def Ee(Cw Hn:Fn):M Out:=
 (Ae (Ap 2 (Ac (Aa 0) (gh 0) ixD))
 (Ae (ifS (Am (Ac (Aa 2) (fC (.str "nothing")) (eqS id)))
   (Al (Ar (AG Ad)))
   As)
 (Ae (ifS (Am (Ac (Aa 2) (fC (.str "number")) (eqS id)))
   (Al (Ag Hn (Ab (Ac (Aa 1) (Ac (Aa 0) (gh 1) ixD) Ca) (Ab (Ac (Ac (Aa 0) (gh 2) ixD) (Ac (Aa 0) (gh 1) ixD) Ca) Ad))))
   As)
 (Ae (ifS (Am (Ac (Aa 2) (fC (.str "text")) (eqS id)))
   (Ae (Ap 3 (fC (.str " !\"#$&'()*+,-./0123456789:;<=>?@ABCDEFGHIJKLMNOPQRSTUVWXYZ[\\]^_`abcdefghijklmnopqrstuvwxyz{|}~")))
 (Ae (Ap 4 (Ar (BA 1 [] (BV (Ab (fB (Ab (Aa 3) Ad) AO) Ad)) (Aw 0) Eh (Ac (Ac (gh 32) (Aa 0) Ay) (fB (Ab (Ac (Aa 0) (gh 4) gtA) Ad) JK) Ay))))
 (Al (Ac (Ar (AG (Ab (fB (Ab (Aa 1) Ad) AO) Ad))) (Ar (BA 1 [4,3] (CZ (Aa 1)) (Aw 0) Eh (Ac (Aa 1) (findM (Aa 2) (Ab (Aa 0) Ad)) ixD))) Ay))))
   As)
 (Ae (CU 5 (AG Ad))
 (Ae (ifS (Am (Ac (Aa 2) (fC (.str "list")) (eqS id)))
   (Ae (ownM 5 CI (Ab (fB (Ab (Aa 1) Ad) AO) Ad))
 (Ae (Bn (CZ (Aa 1)) (Aw 6)
   (CU 5 (bnd (Aa 5) λx=>bnd (Ag Cw (Ab (Ac (Aa 0) (gh 1) ixD) (Ab (Aa 6) Ad))) λy=>Ig x y)))
 (Al (Aa 5))))
   As)
 (Ae (ifS (Am (Ac (Aa 2) (fC (.str "pair")) (eqS id)))
   (Al (Ac (Ag Cw (Ab (Ac (Aa 0) (gh 1) ixD) (Ab (Ac (Aa 1) (gh 0) ixD) Ad))) (Ag Cw (Ab (Ac (Aa 0) (gh 2) ixD) (Ab (Ac (Aa 1) (gh 1) ixD) Ad))) Ay))
   As)
 (Al (Ac (Ar (AG (Ab (Ac (Aa 1) (gh 1) ixD) Ad))) (Ag Cw (Ab (Ac (Ac (Aa 0) (gh 1) ixD) (Ac (Aa 1) (gh 1) ixD) ixD) (Ab (Ac (Aa 1) (gh 2) ixD) Ad))) Ay)))))))))
def DH(D8 AU Mz:Fn):M Out:=
 (Ae (Ap 3 (Ac (gh 1) (Ac (Ag AU (Ab (Aa 0) (Ab (gh 0) Ad))) (gh 6) A3) Ay))
 (Ae (CU 4 (AG Ad))
 (Ae (Bn (BV (Ab (Aa 3) Ad)) (Aw 5)
   (Ae (Ap 6 (Ag AU (Ab (Aa 0) (Ab (Ac (Aa 1) (Aa 5) Ay) Ad))))
 (Ae (ifS (Am (Ac (Ac (Ac (Ag AU (Ab (Aa 0) (Ab (gh 0) Ad))) (gh 6) Ba) (gh 2) A3) (gh 1) (eqS id)))
   (Ap 6 (Ag Mz (Ab (Aa 6) (Ab (Aa 5) Ad))))
   As)
 (Ae (Ap 7 (Ac (Aa 6) (gh 5) A3))
 (Ae (Ap 6 (Ac (Aa 6) (gh 5) Ba))
 (Ae (ifS (fOr (Il (Am (Ac (Aa 7) (gh 0) (eqS id))) (Am (Ac (Aa 5) (gh 0) gtA))) (Il (Am (Aa 2)) (Am (Ac (Aa 5) (Ac (Aa 3) (gh 1) Ca) (eqS id)))))
   (Ae (ownM 4 CI (Ab (AQ (Ab (fC (.str "end")) Ad)) Ad))
 (ret .cont))
   As)
 (Ae (CU 8 (AG Ad))
 (Ae (Bn (BV (Ab (Ac (gh 1) (Ac (Aa 6) (gh 3) A3) Ay) Ad)) (Aw 9)
   (Ae (Ap 6 (Ac (Aa 6) (gh 3) Ba))
 (Ae (Ap 10 (Ac (Aa 6) (Aa 3) A3))
 (Ae (CJ (Ag D8 (Ab (Ac (Aa 6) (Aa 3) Ba) (Ab (gh 2) Ad))) (unS 2 (AI (Aw 11) (AI (Aw 6) Cm))))
 (ownM 8 CI (Ab (AQ (Ab (Ac (Ac (fC (.str "abc")) (Aa 9) ixD) (Ac (gh 1) (Ac (Aa 5) (gh 3) A3) Ay) Cu) (Ab (Aa 11) (Ab (Aa 10) Ad)))) Ad))))))
 (ownM 4 CI (Ab (AQ (Ab (Ac (Ar (AG (Ab (fC (.str "left")) (Ab (fC (.str "right")) Ad)))) (Ac (Aa 6) (gh 2) A3) ixD) (Ab (Aa 8) Ad))) Ad))))))))))
 (Al (Aa 4)))))
def EG(Cw Cy AU:Fn):M Out:=
 (Ae (CU 2 (AG Ad))
 (Ae (Ap 3 (FI [("left",(Ar (AG Ad))),("right",(Ar (AG Ad)))]))
 (Ae (Ap 4 (gh 0))
 (Ae (Bn (Go (Ab (gh 11) (Ab (fB (Ab (gh 12) (Ab (fB (Ab (fB (Ab (Aa 1) Ad) AO) (Ab (gh 41) Ad)) LF) Ad)) LD) Ad))) (Aw 5)
   (Ae (ifS (Am (Ac (Ac (Ac (Aa 0) (Aa 4) ixD) (gh 0) ixD) (fC (.str "end")) (eqS id)))
   (ret .brk)
   As)
 (Ae (Ap 6 (Ag AU (Ab (Aa 1) (Ab (Aa 5) Ad))))
 (Ae (CJ (Ac (Aa 0) (Aa 4) ixD) (unS 2 (AI (Aw 7) (AI (Aw 8) Cm))))
 (Ae (Ap 9 (Ac (Aa 6) (fB (Ab (Aa 8) Ad) AO) A3))
 (Ae (Ap 10 (Ac (Ag Cy (Ab (Ac (Ac (Aa 8) (Aa 9) ixD) (gh 1) ixD) (Ab (Ac (Aa 6) (gh 3) Ba) Ad))) (gh 0) ixD))
 (Ae (CJ (Ac (Ac (Ac (Aa 3) (Aa 7) A6) (Ar (AG (Ab (Aa 9) Ad))) Ay) (Ag Cw (Ab (Ac (Ac (Aa 8) (Aa 9) ixD) (gh 1) ixD) (Ab (Aa 10) Ad))) Ay) (Gu (Aa 3) (Aa 7)))
 (Ae (ownM 2 CI (Ab (AQ (Ab (Aa 7) (Ab (Ac (Ac (Aa 8) (Aa 9) ixD) (gh 0) ixD) (Ab (Aa 10) Ad)))) Ad))
 (Ap 4 (Ac (Ac (Aa 8) (Aa 9) ixD) (gh 2) ixD))))))))))
 (Al (Ar (AG (Ab (Aa 2) (Ab (Aa 3) (Ab (Aa 4) Ad))))))))))
def EF(BG Gz:Fn):M Out:=
 (Ae (Ap 3 (fC .non))
 (Ae (Fc (CV 3 (fIf (Am (Ac (Aa 0) (gh 0) (eqS id))) (Ag BG (Ab (Aa 1) (Ab (Aa 2) Ad))) (Ag Gz (Ab (Aa 1) (Ab (Aa 2) Ad))))) (hAs "NoTalk" 4 (Ap 3 (Ar (AG (Ab (fC (.str "no")) (Ab (bnd (Aa 4) (Ib "at")) Ad))))) PZ))
 (Al (Aa 3))))
def D1(Fk Ey AU:Fn):M Out:=
 (Ae (Ap 3 (Ac (Ag AU (Ab (Aa 2) (Ab (gh 10) Ad))) (fB (Ab (Aa 1) Ad) AO) A3))
 (Ae (CJ (Ac (Aa 1) (Aa 3) ixD) (unS 3 (AI (Aw 4) (AI (Aw 5) (AI (Aw 6) Cm)))))
 (Ae (Ap 7 (Ac (Ac (Ag AU (Ab (Aa 2) (Ab (gh 10) Ad))) (gh 31) Ba) (gh 3) A3))
 (Ae (Ap 8 (AQ (Ab (Aa 4) (Ab (Aa 5) (Ab (Ar (AG (Ab (Aa 6) (Ab (fC (.str "spoilt value")) Ad)))) Ad)))))
 (Ae (ifS (Am (Ac (Aa 7) (gh 1) (eqS id)))
   (Ap 8 (AQ (Ab (Aa 4) (Ab (Ac (Aa 5) (fC (.str "z")) Ay) (Ab (Aa 6) Ad)))))
   As)
 (Ae (ifS (Am (Ac (Aa 7) (gh 2) (eqS id)))
   (Ap 8 (AQ (Ab (Ac (Ar (AG (Ab (fC (.str "left")) (Ab (fC (.str "right")) Ad)))) (fB (Ab (Ac (Aa 4) (fC (.str "left")) (eqS id)) Ad) JK) ixD) (Ab (Aa 5) (Ab (Aa 6) Ad)))))
   As)
 (Ae (Ap 9 (Ac (Ac (fSl (Aa 1) fNo (Ct (Aa 3)) Cr) (Ar (AG (Ab (Aa 8) Ad))) Ay) (fSl (Aa 1) (Ct (Ac (Aa 3) (gh 1) Ay)) fNo Cr) Ay))
 (Ae (Bn (BV (Ab (gh 2) Ad)) (Aw 10)
   (ifS (Am (Ac (Ag Ey (Ab (Aa 10) (Ab (Ar (fBF (Ab (Aa 0) Ad) Bo)) (Ab (Ar (fBF (Ab (Aa 9) Ad) Bo)) Ad)))) (Ar (AG (Ab (fC (.str "no")) (Ab (Aa 3) Ad)))) (eqS λb=>!b)))
   (Al (fC (.bl false)))
   As))
 (Al (Ac (Ag Fk (Ab (Ar (fBF (Ab (Aa 0) Ad) Bo)) (Ab (Ar (fBF (Ab (Aa 9) Ad) Bo)) Ad))) (AQ (Ab (fC (.str "broke")) (Ab (Aa 3) (Ab (Ac (Aa 8) (gh 0) ixD) Ad)))) (eqS id)))))))))))
def EE(Ew:Fn):M Out:=
 (Ae (CV 3 (Ag Ew (Ab (Aa 1) (Ab (Aa 2) Ad))))
 (Ae (ifS (Am (Ac (Aa 3) (Aa 0) gtA))
   fail
   As)
 (Al (nxD (Aa 3)))))
def Dc(Hq Ew EU:Fn):M Out:=
 (Ae (Ap 3 (Ac (Ac (Aa 0) (gh 2) ixD) (Ac (Aa 0) (gh 1) ixD) Ca))
 (Ae (Ap 4 (Ag EU (Ab (Aa 3) Ad)))
 (Ae (Ap 5 (gh 0))
 (Ae (Bn (BV (Ab (Aa 4) Ad)) (Aw 6)
   (Ae (CV 5 (Ff (Ac (Aa 5) (gh 256) Cu) (Ag Ew (Ab (Aa 1) (Ab (Ac (Aa 2) (Aa 6) Ay) Ad))) Ay))
 (ifS (Am (Ac (Aa 5) (Ag Hq (Ab (Aa 3) (Ab (Ac (Ac (Aa 4) (gh 1) Ca) (Aa 6) Ca) Ad))) gtA))
   fail
   As)))
 (Al (nxD (AQ (Ab (Ac (Ac (Aa 0) (gh 1) ixD) (Aa 5) Ay) (Ab (Ac (Aa 2) (Aa 4) Ay) Ad)))))))))
def F9(Ho Ew:Fn):M Out:=
 (Ae (CV 2 (Ag Ew (Ab (Aa 0) (Ab (Aa 1) Ad))))
 (Ae (ifS (C1 (Am (Ag Ho (Ab (Aa 2) Ad))))
   fail
   As)
 (Al (nxD (Ac (fC (.str " !\"#$ &'()*+,-./0123456789:;<=>?@ABCDEFGHIJKLMNOPQRSTUVWXYZ[\\]^_`abcdefghijklmnopqrstuvwxyz{|}~")) (Ac (Aa 2) (gh 32) Ca) ixD)))))
def D2(BL:Fn):M Out:=
 (Ae (ifS (Am (Ac (Aa 2) (fB (Ab (Aa 1) Ad) AO) geA))
   (Al (fC .non))
   As)
 (Ae (ifS (Am (Ac (Ac (Aa 1) (Aa 2) ixD) (fB (Ab (Ac (Aa 0) (gh 1) ixD) Ad) AO) geA))
   fail
   As)
 (Ae (Ap 3 (Ac (Ac (Aa 0) (gh 1) ixD) (Ac (Aa 1) (Aa 2) ixD) ixD))
 (Ae (Fc (CV 4 (Ag BL (Ab (Ac (Aa 3) (gh 1) ixD) (Ab (Aa 1) (Ab (Ac (Aa 2) (gh 1) Ay) Ad))))) (hNo "Short" (Al (fC .non)) (hAs "Broken" 5 fail PZ)))
 (Al (AQ (Ab (AQ (Ab (Ac (Aa 0) (gh 0) ixD) (Ab (Ac (Aa 3) (gh 0) ixD) (Ab (Ac (Aa 4) (gh 0) ixD) Ad)))) (Ab (Ac (Aa 3) (gh 2) ixD) (Ab (Ac (Aa 4) (gh 1) ixD) Ad)))))))))
def Gb(Hr:Fn):M Out:=
 (Ae (Ap 3 (Ag Hr (Ab (Aa 0) (Ab (gh 0) (Ab (FI [("left",(Aa 1)),("right",(Aa 2))]) (Ab (FI [("left",(gh 0)),("right",(gh 0))]) Ad))))))
 (Al (AQ (Ab (Ac (Aa 3) (gh 0) ixD) (Ab (Ac (Aa 3) (gh 1) ixD) (Ab (AQ (Ab (Ac (Ac (Aa 3) (gh 2) ixD) (fC (.str "left")) A6) (Ab (Ac (Ac (Aa 3) (gh 2) ixD) (fC (.str "right")) A6) Ad))) Ad))))))
def F8(Kr:Fn):M Out:=
 (Ae (CU 4 (AG Ad))
 (Ae (Ap 5 (Aa 1))
 (Ae (Ap 6 (fB (Ab (Aa 3) Ad) IU))
 (Ae (IL (Am (Ac (Ac (Ac (Aa 0) (Aa 5) ixD) (gh 0) ixD) (Aa 2) (inS false)))
   (Ae (Ap 7 (Ac (Ac (Aa 0) (Aa 5) ixD) (gh 0) ixD))
 (Ae (Ap 8 (Ag Kr (Ab (Ac (Aa 0) (Aa 5) ixD) (Ab (Ac (Aa 2) (Aa 7) A6) (Ab (Ac (Aa 6) (Aa 7) A6) Ad)))))
 (Ae (ifS (Am (Ac (Aa 8) (fC .non) isC))
   (ret .brk)
   As)
 (Ae (ownM 4 CI (Ab (Ac (Aa 8) (gh 0) ixD) Ad))
 (Ae (Ap 5 (Ac (Aa 8) (gh 1) ixD))
 (CJ (Ac (Aa 8) (gh 2) ixD) (Gu (Aa 6) (Aa 7)))))))))
 (Al (AQ (Ab (Aa 4) (Ab (Aa 5) (Ab (Aa 6) Ad)))))))))
def Ec(Hr:Fn):M Out:=
 (Ae (Gn (objM EW (Ac (EX "wires" (Aa 0)) (Aa 1) A6) (Ab (Aa 2) Ad)))
 (Ae (Ap 3 (Ag Hr (Ab (EX "grammar" (Aa 0)) (Ab (EX "standing" (Aa 0)) (Ab (EX "wires" (Aa 0)) (Ab (EX "places" (Aa 0)) Ad))))))
 (Ae (EN "standing" (Ac (Aa 3) (gh 1) ixD) (Aa 0))
 (Ae (EN "places" (Ac (Aa 3) (gh 2) ixD) (Aa 0))
 (Al (Ac (Aa 3) (gh 0) ixD))))))
def E4(JB Km ES AU Ie:Fn):M Out:=
 (Ae (Ap 3 (MH "Reader" Ie (Ab (Ar (fBF (Ab (Aa 0) Ad) Bo)) Ad)))
 (Ae (Ap 4 (Ar (AG Ad)))
 (Ae (Ap 5 (FI [("left",(gh 0)),("right",(gh 0))]))
 (Ae (Ap 6 (Ac (Ar (AG (Ab (fC (.str "left")) (Ab (fC (.str "right")) Ad)))) (Ac (Ag AU (Ab (Aa 2) (Ab (gh 1) Ad))) (gh 2) A3) ixD))
 (Ae (Bn (BV (Ab (gh 400) Ad)) (Aw 7)
   (Ae (Ap 8 (Ac (Ar (AG (Ab (fC (.str "left")) (Ab (fC (.str "right")) Ad)))) (Ac (Aa 7) (gh 2) A3) ixD))
 (Ae (ifS (Il (Am (Ac (Ac (Ac (Ag AU (Ab (Aa 2) (Ab (gh 1) Ad))) (gh 2) Ba) (gh 2) A3) (gh 1) (eqS id))) (Am (Ac (Ac (Aa 5) (Aa 6) A6) (fB (Ab (Ac (Aa 1) (Aa 6) A6) Ad) AO) ltA)))
   (Ap 8 (Aa 6))
   As)
 (Ae (Ap 9 (Ac (Ac (Ag AU (Ab (Aa 2) (Ab (Ac (gh 11) (Ac (Aa 7) (gh 50) A3) Ay) Ad))) (Ac (gh 1) (Ac (Aa 7) (gh 7) A3) Ay) Ba) (gh 5) A3))
 (Ae (Ap 4 (Ac (Aa 4) (CB "Reader" ES (Aa 3) (Ab (Aa 8) (Ab (fSl (Ac (Aa 1) (Aa 8) A6) (Ct (Ac (Aa 5) (Aa 8) A6)) (Ct (Ac (Ac (Aa 5) (Aa 8) A6) (Aa 9) Ay)) Cr) Ad))) Ay))
 (CJ (Ac (Ac (Aa 5) (Aa 8) A6) (Aa 9) Ay) (Gu (Aa 5) (Aa 8))))))))
 (Ae (Bn (CZ (Ar (AG (Ab (fC (.str "left")) (Ab (fC (.str "right")) Ad))))) (Aw 8)
   (Ap 4 (Ac (Aa 4) (CB "Reader" ES (Aa 3) (Ab (Aa 8) (Ab (fSl (Ac (Aa 1) (Aa 8) A6) (Ct (Ac (Aa 5) (Aa 8) A6)) fNo Cr) Ad))) Ay)))
 (Ae (Ap 4 (Ac (Aa 4) (CB "Reader" ES (Aa 3) (Ab (fC (.str "left")) (Ab (Ar (AG Ad)) Ad))) Ay))
 (Al (Ar (AG (Ab (Aa 4) (Ab (CB "Reader" Km (Aa 3) (ret [])) (Ab (CB "Reader" JB (Aa 3) (ret [])) Ad)))))))))))))
def F7(Lm QR M8 Ot Fk Ks AU Oq BG Gz M3 Kn:Fn):M Out:=
 (Ae (Ap 1 (Ag Kn (Ab (Aa 0) (Ab (gh 2) (Ab (fC (.bl true)) Ad)))))
 (Ae (CJ (Ag M3 (Ab (Aa 1) (Ab (Aa 0) Ad))) (unS 3 (AI (Aw 2) (AI (Aw 3) (AI (Aw 4) Cm)))))
 (Ae (NY 5 6 (Ab (Ac (Aa 3) (fC (.str "left")) A6) (Ab (Ac (Aa 3) (fC (.str "right")) A6) Ad)))
 (Ae (ifS (Am (Ac (Ag (GJ Gz) (Ab (Ar (fBF (Ab (Aa 1) Ad) Bo)) (Ab (Ar (fBF (Ab (Aa 2) Ad) Bo)) Ad))) (AQ (Ab (Aa 5) (Ab (Aa 6) Ad))) (eqT λb=>!b)))
   (Al (fC (.bl false)))
   As)
 (Ae (ifS (Am (Ac (Ag (GJ BG) (Ab (Ar (fBF (Ab (Aa 1) Ad) Bo)) (Ab (Ar (fBF (Ab (Aa 2) Ad) Bo)) Ad))) (Aa 4) (eqS λb=>!b)))
   (Al (fC (.bl false)))
   As)
 (Ae (ifS (Am (Ac (Ag Ks (Ab (Ar (fBF (Ab (Aa 1) Ad) Bo)) (Ab (Ar (fBF (Ab (Aa 5) Ad) Bo)) (Ab (Ar (fBF (Ab (Aa 6) Ad) Bo)) Ad)))) (AQ (Ab (Aa 2) (Ab (Aa 4) (Ab (AQ (Ab (fB (Ab (Aa 5) Ad) AO) (Ab (fB (Ab (Aa 6) Ad) AO) Ad))) Ad)))) (eqS λb=>!b)))
   (Al (fC (.bl false)))
   As)
 (Ae (ifS (Am (Ac (Ag Oq (Ab (Aa 1) (Ab (Aa 3) (Ab (Aa 0) Ad)))) (Ar (AG (Ab (Aa 2) (Ab (Aa 4) (Ab (AQ (Ab (gh 0) (Ab (gh 0) Ad))) Ad))))) (eqS λb=>!b)))
   (Al (fC (.bl false)))
   As)
 (Ae (Ap 7 (Ac (Ag AU (Ab (Aa 0) (Ab (gh 9) Ad))) (Ac (fB (Ab (Aa 5) Ad) AO) (gh 1) Ay) A3))
 (Ae (Ap 8 (Ac (Ag Ks (Ab (Ar (fBF (Ab (Aa 1) Ad) Bo)) (Ab (fSl (Aa 5) fNo (Ct (Aa 7)) Cr) (Ab (Ar (fBF (Ab (Aa 6) Ad) Bo)) Ad)))) (gh 0) ixD))
 (Ae (ifS (Am (Ac (Aa 8) (fSl (Aa 2) fNo (Ct (fB (Ab (Aa 8) Ad) AO)) Cr) (eqS λb=>!b)))
   (Al (fC (.bl false)))
   As)
 (Ae (Ap 9 (Ac (Ac (Ac (Aa 1) (Aa 4) ixD) (gh 0) ixD) (fC (.str "end")) (eqS id)))
 (Ae (Ap 10 (fIf (Am (Aa 9)) (AQ (Ab (fC (.str "over")) Ad)) (AQ (Ab (fC (.str "turn")) (Ab (Ac (Ac (Aa 1) (Aa 4) ixD) (gh 0) ixD) Ad)))))
 (Ae (ifS (fOr (Am (Ac (Ag (GJ Ot) (Ab (Ar (fBF (Ab (Aa 1) Ad) Bo)) (Ab (Ar (fBF (Ab (Aa 2) Ad) Bo)) Ad))) (Aa 9) (eqS λb=>!b))) (Am (Ac (Ag Fk (Ab (Ar (fBF (Ab (Aa 1) Ad) Bo)) (Ab (Ar (fBF (Ab (Aa 2) Ad) Bo)) Ad))) (Aa 10) (eqS λb=>!b))))
   (Al (fC (.bl false)))
   As)
 (Ae (Ap 11 (Ar (BA 3 [] (CZ (Aa 2)) (unS 3 (AI (Aw 0) (AI (Aw 1) (AI (Aw 2) Cm)))) Eh (Aa 1))))
 (Ae (ifS (Am (Aa 9))
   (Ae (Ap 12 (Ag M8 (Ab (Ar (fBF (Ab (Aa 1) Ad) Bo)) (Ab (Ar (fBF (Ab (Aa 11) Ad) Bo)) Ad))))
 (ifS (Am (Ac (Ar (DC QR (Ab (Ar (fBF (Ab (Aa 1) Ad) Bo)) (Ab (fB (Ab (Aa 11) Ad) AO) (Ab (Aa 12) Ad))))) (Aa 11) (eqS λb=>!b)))
   (Al (fC (.bl false)))
   As))
   As)
 (Al (Ly (Ac (Aa 2) (Ar (AG Ad)) (eqS id)) (Ag Lm (Ab (Aa 1) (Ab (Aa 2) (Ab (Aa 0) Ad)))))))))))))))))))))
end LW
namespace L2
open PySem
def W{α:Type}(m:M α)(t:T)(P:α->T->Prop):Prop:=∃a t',m t=some (a,t')/\P a t'
def Wf(g:Fn)(ds:List D)(S:List Ob)(P:D->List Ob->Prop):Prop:=∃r S',g ds S=some (r,S')/\P r S'
theorem W.mono{α:Type}{m:M α}{t:T}{P Q:α->T->Prop}(h:W m t P)(i:∀a t',P a t'->Q a t'):W m t Q:=by
 clear 5 h a t' e p;exact⟨a,t',e,i a t' p⟩
theorem Wf.mono{g:Fn}{ds:List D}{S:List Ob}{P Q:D->List Ob->Prop}(h:Wf g ds S P)(i:∀r S',P r S'->Q r S'):Wf g ds S Q:=by
 clear 5 h a t' e p;exact⟨a,t',e,i a t' p⟩
section
variable{α β:Type}
theorem Au{m:M α}{t:T}{P:α->T->Prop}{a:α}{t':T}(e:m t=some (a,t')):W m t P↔P a t':=by
 constructor
 .rintro⟨a',t1,e',p⟩;rw[e] at e';cases e';exact p
 .exact λp=>⟨a,t',e,p⟩
theorem Ev{m:M α}{t:T}{P:α->T->Prop}(e:m t=none):W m t P↔False:=by
 constructor
 .rintro⟨a',t1,e',p⟩;rw[e] at e';cases e'
 .exact False.elim
@[simp] theorem W_ret {a:α}{t:T}{P:α->T->Prop}:W (ret a) t P↔P a t:=Au rfl
@[simp] theorem W_fail {t:T}{P:α->T->Prop}:W (fail:M α) t P↔False:=Ev rfl
@[simp] theorem W_bnd {f:M α}{g:α->M β}{t:T}{P:β->T->Prop}:W (bnd f g) t P↔W f t λa t1=>W (g a) t1 P:=by
 constructor
 .rintro⟨b,t',e,p⟩;clear 5(Af e)a t1 e1 e2;exact⟨a,t1,e1,b,t',e2,p⟩
 .rintro⟨a,t1,e1,b,t',e2,p⟩;exact⟨b,t',by unfold bnd;rw[e1];exact e2,p⟩
@[simp] theorem Ve {c:Prop} [Decidable c] {f g:M α}{t:T}{P:α->T->Prop}:W (if c then f else g) t P↔if c then W f t P else W g t P:=by split<;>rfl
@[simp] theorem fU {n:Nat}{a:α}{t:T}{P:α->T->Prop}:W (lim n a) t P↔n<=LIM/\P a t:=by
 unfold lim;constructor
 .rintro⟨a',t',e,p⟩
  split at e
  .cases e;exact⟨by assumption,p⟩
  .cases e
 .rintro⟨h,p⟩;exact⟨a,t,by simp only[h,jW],p⟩
end
section
variable{t:T}{env:List (Option Sl)}{S:List Ob}
@[simp] theorem W_fC {d:D}{P:D->T->Prop}:W (fC d) t P↔P d t:=Au rfl
@[simp] theorem QO {i:Nat}{P:D->T->Prop}:W (Aa i) t P↔match t.env[i]? with
 |some (some (.val d))=>P d t
 |some (some (.own ds))=>P (.lst ds) ⟨t.env.set i (vw (.lst ds)),t.S⟩
 |_=>False:=by
 cases e:t.env[i]? with
 |none=>exact Ev (by unfold Aa;simp[e])
 |some o=>
   cases o with
   |none=>exact Ev (by unfold Aa;simp[e])
   |some sl=>
     cases sl with
     |val d=>exact Au (by unfold Aa;simp[e])
     |own ds=>exact Au (by unfold Aa;simp[e])
@[simp] theorem W_fBin {f g:M D}{h:D->D->M D}{P:D->T->Prop}:W (Ac f g h) t P↔W f t λx t1=>W g t1 λy t2=>W (h x y) t2 P:=by simp[Ac]
@[simp] theorem W_fUn {f:M D}{h:D->M D}{P:D->T->Prop}:W (fUn f h) t P↔W f t λx t1=>W (h x) t1 P:=by simp[fUn]
@[simp] theorem W_toB {b:Bool}{P:Bool->T->Prop}:W (toB (.bl b)) t P↔P b t:=Au rfl
@[simp] theorem W_fTst {f:M D}{P:Bool->T->Prop}:W (Am f) t P↔W f t λx t1=>W (toB x) t1 P:=by simp[Am]
@[simp] theorem W_fChain {f g w:M D}{h h':D->D->M D}{P:D->T->Prop}:W (DE f g w h h') t P↔W f t λx t1=>W g t1 λy t2=>W (h x y) t2 λk t3=>W (toB k) t3 λk t4=>if k=true then W w t4 λz t5=>W (h' y z) t5 P else P (.bl false) t4:=by
 simp[DE]
@[simp] theorem W_fAnd {f g:M Bool}{P:Bool->T->Prop}:W (Il f g) t P↔W f t λk t1=>if k=true then W g t1 P else P false t1:=by simp[Il]
@[simp] theorem W_fOr {f g:M Bool}{P:Bool->T->Prop}:W (fOr f g) t P↔W f t λk t1=>if k=true then P true t1 else W g t1 P:=by simp[fOr]
@[simp] theorem W_fNot {f:M Bool}{P:Bool->T->Prop}:W (C1 f) t P↔W f t λk t1=>P (!k) t1:=by simp[C1]
@[simp] theorem W_fAndV {f g:M D}{P:D->T->Prop}:W (FH f g) t P↔W f t λx t1=>W (toB x) t1 λk t2=>if k=true then W g t2 P else P (.bl false) t2:=by simp[FH]
@[simp] theorem W_fOrV {f g:M D}{P:D->T->Prop}:W (Ly f g) t P↔W f t λx t1=>W (toB x) t1 λk t2=>if k=true then P (.bl true) t2 else W g t2 P:=by simp[Ly]
@[simp] theorem W_fNotV {f:M D}{P:D->T->Prop}:W (IV f) t P↔W f t λx t1=>W (toB x) t1 λk t2=>P (.bl (!k)) t2:=by simp[IV]
@[simp] theorem W_fIf {f:M Bool}{g h:M D}{P:D->T->Prop}:W (fIf f g h) t P↔W f t λk t1=>if k=true then W g t1 P else W h t1 P:=by simp[fIf]
@[simp] theorem W_fNil {P:List D->T->Prop}:W Ad t P↔P [] t:=Au rfl
@[simp] theorem W_fCons {f:M D}{g:M (List D)}{P:List D->T->Prop}:W (Ab f g) t P↔W f t λd t1=>W g t1 λds t2=>P (d::ds) t2:=by simp[Ab]
@[simp] theorem W_fTup {f:M (List D)}{P:D->T->Prop}:W (AQ f) t P↔W f t λds t1=>ds.length<=LIM/\P (.tup ds) t1:=by simp[AQ]
@[simp] theorem W_fLst {f:M (List D)}{P:List D->T->Prop}:W (AG f) t P↔W f t λds t1=>ds.length<=LIM/\P ds t1:=by simp[AG]
@[simp] theorem W_fPure {f:M (List D)}{P:D->T->Prop}:W (Ar f) t P↔W f t λds t1=>P (.lst ds) t1:=by simp[Ar]
@[simp] theorem W_newOb {o:Ob}{P:D->T->Prop}:W (Qa o) t P↔P (.obj t.S.length) ⟨t.env,t.S++[o]⟩:=Au rfl
@[simp] theorem Yo {f:M (List D)}{P:D->T->Prop}:W (Hu f) t P↔W f t λds t1=>W (Qa (.lst ds)) t1 P:=by simp[Hu]
@[simp] theorem W_fCall {g:Fn}{f:M (List D)}{P:D->T->Prop}:W (Ag g f) t P↔W f t λds t1=>Wf g ds t1.S λr S'=>P r ⟨t1.env,S'⟩:=by
 unfold Ag;rw[W_bnd];constructor
 .rintro⟨ds,t1,e1,r,t',e2,p⟩;refine⟨ds,t1,e1,?_⟩;dsimp only at e2
  cases e:g ds t1.S with
  |none=>rw[e] at e2;cases e2
  |some z=>clear 5 z r' S';rw[e] at e2;cases e2;exact⟨r,_,e,p⟩
 .rintro⟨ds,t1,e1,r,S',e2,p⟩;exact⟨ds,t1,e1,r,_,by simp only[e2],p⟩
@[simp] theorem W_fB {f:M (List D)}{h:List D->M D}{P:D->T->Prop}:W (fB f h) t P↔W f t λds t1=>W (h ds) t1 P:=by simp[fB]
@[simp] theorem W_fBF {f:M (List D)}{h:List D->M (List D)}{P:List D->T->Prop}:W (fBF f h) t P↔W f t λds t1=>W (h ds) t1 P:=by simp[fBF]
@[simp] theorem W_seqS {f g:M Out}{P:Out->T->Prop}:W (Ae f g) t P↔W f t λo t1=>match o with
 |.next=>W g t1 P
 |.brk=>P .brk t1
 |.cont=>P .cont t1
 |.ret d=>P (.ret d) t1:=by
 unfold Ae;constructor
 .rintro⟨o,t',e,p⟩;dsimp only at e
  cases e1:f t with
  |none=>rw[e1] at e;cases e
  |some z=>
    clear 5 z o1 t1;rw[e1] at e;refine⟨o1,t1,e1,?_⟩
    cases o1 with
    |next=>exact⟨o,t',e,p⟩
    |brk=>cases e;exact p
    |cont=>cases e;exact p
    |ret d=>cases e;exact p
 .rintro⟨o,t1,e,p⟩
  cases o with
  |next=>clear 5 p o t' e' p;exact⟨o,t',by simp only[e];exact e',p⟩
  |brk=>exact⟨_,_,by simp only[e],p⟩
  |cont=>exact⟨_,_,by simp only[e],p⟩
  |ret d=>exact⟨_,_,by simp only[e],p⟩
@[simp] theorem W_skipS {P:Out->T->Prop}:W As t P↔P .next t:=Au rfl
@[simp] theorem W_retS {f:M D}{P:Out->T->Prop}:W (Al f) t P↔W f t λd t1=>P (.ret d) t1:=by simp[Al]
@[simp] theorem W_dropS {f:M D}{P:Out->T->Prop}:W (Gn f) t P↔W f t λd t1=>P .next t1:=by simp[Gn]
@[simp] theorem W_ifS {f:M Bool}{g h:M Out}{P:Out->T->Prop}:W (ifS f g h) t P↔W f t λk t1=>if k=true then W g t1 P else W h t1 P:=by simp[ifS]
@[simp] theorem W_putV {i:Nat}{d:D}{P:Unit->T->Prop}:W (Aw i d) t P↔P () ⟨t.env.set i (vw d),t.S⟩:=Au rfl
@[simp] theorem W_setS {i:Nat}{f:M D}{P:Out->T->Prop}:W (Ap i f) t P↔W f t λd t1=>P .next ⟨t1.env.set i (vw d),t1.S⟩:=by
 simp only[Ap,W_bnd,W_ret,W_putV]
@[simp] theorem W_ownS {i:Nat}{f:M (List D)}{P:Out->T->Prop}:W (CU i f) t P↔W f t λds t1=>P .next ⟨t1.env.set i (some (.own ds)),t1.S⟩:=by
 unfold CU;rw[W_bnd];have:∀(ds:List D) (t1:T),W (λt:T=>some (Out.next,({t with env:=t.env.set i (some (.own ds))}:T))) t1 P↔P .next ⟨t1.env.set i (some (.own ds)),t1.S⟩:=λds t1=>Au rfl;simp only[this]
@[simp] theorem W_asgS {f:M D}{g:D->M Unit}{P:Out->T->Prop}:W (CJ f g) t P↔W f t λd t1=>W (g d) t1 λ_ t2=>P .next t2:=by simp[CJ]
@[simp] theorem W_putNil {P:Unit->T->Prop}:W (Cm []) t P↔P () t:=Au rfl
@[simp] theorem W_putCons {f:D->M Unit}{g:List D->M Unit}{d:D}{ds:List D}{P:Unit->T->Prop}:W (AI f g (d::ds)) t P↔W (f d) t λ_ t1=>W (g ds) t1 P:=by simp[AI]
@[simp] theorem W_unS_lst {n:Nat}{g:List D->M Unit}{ds:List D}{P:Unit->T->Prop}:W (unS n g (.lst ds)) t P↔ds.length=n/\W (g ds) t P:=by
 unfold unS;simp only[Ve,W_fail];split<;>simp[*]
@[simp] theorem W_unS_tup {n:Nat}{g:List D->M Unit}{ds:List D}{P:Unit->T->Prop}:W (unS n g (.tup ds)) t P↔ds.length=n/\W (g ds) t P:=by
 unfold unS;simp only[Ve,W_fail];split<;>simp[*]
@[simp] theorem W_forS {f:M (List D)}{st:D->M Unit}{b:M Out}{P:Out->T->Prop}:W (Bn f st b) t P↔W f t λds t1=>W (CS st b ds) t1 P:=by simp[Bn]
@[simp] theorem W_forL_nil {st:D->M Unit}{b:M Out}{P:Out->T->Prop}:W (CS st b []) t P↔P .next t:=Au rfl
theorem W_forL_cons{st:D->M Unit}{b:M Out}{d:D}{r:List D}{P:Out->T->Prop}:W (CS st b (d::r)) t P↔W (st d) t λ_ t1=>W b t1 λo t2=>match o with
 |.next=>W (CS st b r) t2 P
 |.cont=>W (CS st b r) t2 P
 |.brk=>P .next t2
 |.ret x=>P (.ret x) t2:=by
 constructor
 .rintro⟨o,t',e,p⟩;unfold CS at e
  cases e1:st d t with
  |none=>rw[e1] at e;cases e
  |some z=>
    clear 5 z u t1;rw[e1] at e
    try dsimp only at e
    refine⟨u,t1,e1,?_⟩
    cases e2:b t1 with
    |none=>rw[e2] at e;cases e
    |some z=>
      clear 5 z o2 t2;rw[e2] at e
      try dsimp only at e
      refine⟨o2,t2,e2,?_⟩
      cases o2 with
      |next=>exact⟨o,t',e,p⟩
      |cont=>exact⟨o,t',e,p⟩
      |brk=>cases e;exact p
      |ret x=>cases e;exact p
 .rintro⟨u,t1,e1,o,t2,e2,p⟩
  cases o with
  |next=>clear 5 p o t' e' p;exact⟨o,t',by unfold CS;simp only[e1,e2];exact e',p⟩
  |cont=>clear 5 p o t' e' p;exact⟨o,t',by unfold CS;simp only[e1,e2];exact e',p⟩
  |brk=>exact⟨_,_,by unfold CS;simp only[e1,e2],p⟩
  |ret x=>exact⟨_,_,by unfold CS;simp only[e1,e2],p⟩
theorem BE{st:D->M Unit}{b:M Out}{P:Out->T->Prop}(I:List D->T->Prop):∀(ds:List D) (t:T),I ds t->
 (∀d r t,I (d :: r) t->d∈ds->W (st d) t λ_ t1=>W b t1 λo t2=>match o with
   |.next=>I r t2
   |.cont=>I r t2
   |.brk=>P .next t2
   |.ret x=>P (.ret x) t2)->(∀t,I [] t->P .next t)->W (CS st b ds) t P
 |[],t,h,_,fin=>W_forL_nil.mpr (fin t h)
 |d::r,t,h,turn,fin=>by
   rw[W_forL_cons];refine(turn d r t h ue4).mono λ_ t1 h1=>h1.mono λo t2 h2=>?_
   cases o with
   |next=>exact BE I r t2 h2 (λd' r' t' h' m=>turn d' r' t' h' (ud2 _ m)) fin
   |cont=>exact BE I r t2 h2 (λd' r' t' h' m=>turn d' r' t' h' (ud2 _ m)) fin
   |brk=>exact h2
   |ret x=>exact h2
@[simp] theorem W_fComp {n:Nat}{fr:List Nat}{f:M (List D)}{st:D->M Unit}{tst:M Bool}{elt:M D}{P:List D->T->Prop}:W (BA n fr f st tst elt) t P↔W f t λds t1=>W (Cs st tst elt ds) ⟨cenv n fr t1.env,t1.S⟩ λxs t'=>xs.length<=LIM/\P xs ⟨t1.env,t'.S⟩:=by
 unfold BA;rw[W_bnd];constructor
 .rintro⟨ds,t1,e1,xs,t',e2,p⟩;refine⟨ds,t1,e1,?_⟩;dsimp only at e2
  cases e:Cs st tst elt ds ⟨cenv n fr t1.env,t1.S⟩ with
  |none=>rw[e] at e2;cases e2
  |some z=>
    clear 5 z ys t3;rw[e] at e2;dsimp only at e2
    split at e2
    .cases e2;exact⟨_,_,e,by assumption,p⟩
    .cases e2
 .rintro⟨ds,t1,e1,xs,t',e2,h,p⟩;exact⟨ds,t1,e1,xs,_,by simp only[e2,h,jW],p⟩
@[simp] theorem W_compL_nil {st:D->M Unit}{tst:M Bool}{elt:M D}{P:List D->T->Prop}:W (Cs st tst elt []) t P↔P [] t:=Au rfl
theorem FV{st:D->M Unit}{tst:M Bool}{elt:M D}{d:D}{r:List D}{P:List D->T->Prop}:W (Cs st tst elt (d::r)) t P↔W (st d) t λ_ t1=>W tst t1 λk t2=>
 if k=true then W elt t2 λx t3=>W (Cs st tst elt r) t3 λxs t4=>P (x::xs) t4 else W (Cs st tst elt r) t2 P:=by
 rw[Cs];simp
theorem MR{st:D->M Unit}{tst:M Bool}{elt:M D}{P:List D->T->Prop}(I:List D->List D->T->Prop):∀(ds:List D) (acc:List D) (t:T),I acc ds t->
 (∀acc d r t,I acc (d::r) t->d∈ds->W (st d) t λ_ t1=>W tst t1 λk t2=>if k=true then W elt t2 λx t3=>I (acc++[x]) r t3 else I acc r t2)->
 (∀acc t,I acc [] t->P acc t)->W (Cs st tst elt ds) t λxs t'=>P (acc++xs) t'
 |[],acc,t,h,_,fin=>W_compL_nil.mpr (by rw[ui6];exact fin acc t h)
 |d::r,acc,t,h,turn,fin=>by
   rw[FV];have turn':∀acc d' r' t',I acc (d'::r') t'->d'∈r->_:=λacc d' r' t' h' m=>turn acc d' r' t' h' (ud2 _ m);refine(turn acc d r t h ue4).mono λ_ t1 h1=>h1.mono λk t2 h2=>?_
   cases k with
   |true=>
     rw[jY rfl] at h2⊢;refine h2.mono λx t3 h3=>(MR I r (acc++[x]) t3 h3 turn' fin).mono λxs t4 h4=>?_;rw[uf8] at h4;exact h4
   |false=>
     rw[jZ ue5] at h2⊢;exact MR I r acc t2 h2 turn' fin
theorem Ak{n m:Nat}{g:M Out}{ds:List D}{P:D->List Ob->Prop}(h:ds.length=n)(w:W g ⟨env0 m ds,S⟩ λo t=>match o with
 |.ret r=>P r t.S
 |.next=>P .non t.S
 |_=>False):Wf (fnOf n m g) ds S P:=by
 clear 5 w o t e p
 cases o with
 |ret r=>exact⟨r,t.S,by unfold fnOf;rw[jY h,e],p⟩
 |next=>exact⟨.non,t.S,by unfold fnOf;rw[jY h,e],p⟩
 |brk=>exact p.elim
 |cont=>exact p.elim
@[simp] theorem W_tTru {P:Bool->T->Prop}:W Eh t P↔P true t:=Au rfl
@[simp] theorem fO {P:D->T->Prop}:W dG t P↔P .dic t:=Au rfl
end
section
variable{t:T}{P:D->T->Prop}
theorem MD{α β:Type}{o:Option β}{g:β->α×T}{Q:α->T->Prop}{m:M α}(e:m t=o.map g):W m t Q↔∃b,o=some b/\Q (g b).1 (g b).2:=by
 constructor
 .rintro⟨a,t',e',p⟩;rw[e] at e';clear 5(uc0.mp e')b h1 h2;exact⟨b,h1,by rw[h2];exact p⟩
 .rintro⟨b,h,p⟩;exact⟨_,_,by rw[e,h];rfl,p⟩
theorem Td{α:Type}{c:Prop}[Decidable c]{z:α×T}{Q:α->T->Prop}{m:M α}(e:m t=if c then some z else none):W m t Q↔c/\Q z.1 z.2:=by
 constructor
 .rintro⟨a,t',e',p⟩;rw[e] at e'
  split at e'
  .cases e';exact⟨by assumption,p⟩
  .cases e'
 .rintro⟨h,p⟩;exact⟨_,_,by rw[e,jY h],p⟩
theorem MS{α β:Type}{o:Option β}(f:β->α){Q:α->T->Prop}{m:M α}(e:m t=o.map λb=>(f b,t)):W m t Q↔∃b,o=some b/\Q (f b) t:=MD (g:=λb=>(f b,t)) e
theorem IS{α:Type}{c:Prop}[Decidable c]{a:α}{Q:α->T->Prop}{m:M α}(e:m t=if c then some (a,t) else none):W m t Q↔c/\Q a t:=Td (z:=(a,t)) e
@[simp] theorem W_ix_tup {ds:List D}{i:Int}:W (ixD (.tup ds) (.int i)) t P↔∃d,atI ds i=some d/\P d t:=MS id rfl
@[simp] theorem W_ix_lst {ds:List D}{i:Int}:W (ixD (.lst ds) (.int i)) t P↔∃d,atI ds i=some d/\P d t:=MS id rfl
@[simp] theorem W_ix_scr {ns:List Int}{i:Int}:W (ixD (.scr ns) (.int i)) t P↔∃n,atI ns i=some n/\P (.int n) t:=MS D.int rfl
@[simp] theorem W_ix_str {x:Str}{i:Int}:W (ixD (.str x) (.int i)) t P↔x.length<=LIM/\∃n,atI x.cps.toList i=some n/\P (.str ⟨#[n]⟩) t:=by
 by_cases h:x.length<=LIM
 .have:ixD (.str x) (.int i) t=(atI x.cps.toList i).map λn=>(.str ⟨#[n]⟩,t):=by simp only[ixD,h,jW]
  rw[MD this];simp[h]
 .rw[Ev (by simp only[ixD,h,jU])];simp[h]
@[simp] theorem W_ix_obj {k:Nat}{i:Int}:W (ixD (.obj k) (.int i)) t P↔∃ds,t.S[k]?=some (.lst ds)/\∃d,atI ds i=some d/\P d t:=by
 cases e:t.S[k]? with
 |none=>rw[Ev (by simp only[ixD,e])];simp
 |some o=>
   cases o with
   |dct _|ins _ _=>rw[Ev (by simp only[ixD,e])];simp
   |lst ds=>
     have:ixD (.obj k) (.int i) t=(atI ds i).map λd=>(d,t):=by simp only[ixD,e]
     rw[MD this];simp
@[simp] theorem Hk {α:Type}{a:α}{r:List α}:atI (a::r) 0=some a:=by simp[atI,ixN]
@[simp] theorem Vf {α:Type}{a b:α}{r:List α}:atI (a::b::r) 1=some b:=by
 have:(1:Int)<((a::b::r).length:Nat):=by simp;lia
 simp only[atI,ixN,this,jW,show(0:Int)<=1 by decide];rfl
@[simp] theorem Vg {α:Type}{a b c:α}{r:List α}:atI (a::b::c::r) 2=some c:=by
 have:(2:Int)<((a::b::c::r).length:Nat):=by simp;lia
 simp only[atI,ixN,this,jW,show(0:Int)<=2 by decide];rfl
@[simp] theorem W_len_lst {ds:List D}:W (AO [.lst ds]) t P↔P (.int ds.length) t:=Au rfl
@[simp] theorem W_len_tup {ds:List D}:W (AO [.tup ds]) t P↔P (.int ds.length) t:=Au rfl
@[simp] theorem W_len_scr {ds:List Int}:W (AO [.scr ds]) t P↔P (.int ds.length) t:=Au rfl
@[simp] theorem W_len_str {x:Str}:W (AO [.str x]) t P↔x.length<=LIM/\P (.int x.length) t:=by simp[AO]
@[simp] theorem W_len_obj {k:Nat}:W (AO [.obj k]) t P↔∃ds,t.S[k]?=some (.lst ds)/\P (.int ds.length) t:=by
 cases e:t.S[k]? with
 |none=>rw[Ev (by simp only[AO,e])];simp
 |some o=>
   cases o with
   |dct _|ins _ _=>rw[Ev (by simp only[AO,e])];simp
   |lst ds=>rw[Au (a:=.int ds.length) (t':=t) (by simp only[AO,e])];simp
@[simp] theorem W_isi {d:D}{m:String}:W (C7 [d,.ty m]) t P↔∃n,tyD d=some n/\∃b,F3 n m=some b/\P (.bl b) t:=by
 cases e:tyD d with
 |none=>rw[Ev (by simp only[C7,e])];simp
 |some n=>
   have:C7 [d,.ty m] t=(F3 n m).map λb=>(.bl b,t):=by simp only[C7,e]
   rw[MD this];simp
noncomputable def Gp:D->Bool
 |.non=>true
 |_=>false
noncomputable def dR(b:Bool):D->Bool
 |.bl c=>c==b
 |_=>false
@[simp] theorem W_is_non {x:D}:W (isC x .non) t P↔P (.bl (Gp x)) t:=Au (by cases x<;>rfl)
@[simp] theorem fM {x:D}{b:Bool}:W (isC x (.bl b)) t P↔P (.bl (dR b x)) t:=Au (by cases x<;>rfl)
@[simp] theorem fL {x y:D}:W (Rt x y) t P↔W (isC x y) t λd t1=>W (toB d) t1 λb t2=>P (.bl (!b)) t2:=by
 unfold Rt;rw[W_bnd];constructor
 .exact λh=>h.mono λd t1 h1=>by
   cases d with
   |bl b=>simpa using h1
   |_=>exact(W_fail.mp h1).elim
 .exact λh=>h.mono λd t1 h1=>by
   cases d with
   |bl b=>simpa using h1
   |_=>obtain⟨_,_,e,_⟩:=h1;cases e
@[simp] theorem W_add_int {i j:Int}:W (Ay (.int i) (.int j)) t P↔P (.int (i+j)) t:=Au rfl
@[simp] theorem W_sub_int {i j:Int}:W (Ca (.int i) (.int j)) t P↔P (.int (i-j)) t:=Au rfl
@[simp] theorem W_lt_int {i j:Int}:W (ltA (.int i) (.int j)) t P↔P (.bl (decide (i<j))) t:=Au rfl
@[simp] theorem W_le_int {i j:Int}:W (leA (.int i) (.int j)) t P↔P (.bl (decide (i<=j))) t:=Au rfl
@[simp] theorem W_gt_int {i j:Int}:W (gtA (.int i) (.int j)) t P↔P (.bl (decide (j<i))) t:=Au rfl
@[simp] theorem W_ge_int {i j:Int}:W (geA (.int i) (.int j)) t P↔P (.bl (decide (j<=i))) t:=Au rfl
@[simp] theorem dj {i j:Str}:W (ltA (.str i) (.str j)) t P↔P (.bl (decide (i.cps.toList<j.cps.toList))) t:=Au rfl
@[simp] theorem df {i j:Str}:W (gtA (.str i) (.str j)) t P↔P (.bl (decide (j.cps.toList<i.cps.toList))) t:=Au rfl
@[simp] theorem W_neg {i:Int}:W (HD (.int i)) t P↔P (.int (-i)) t:=Au rfl
@[simp] theorem W_fdiv {i j:Int}:W (Ba (.int i) (.int j)) t P↔(0<j/\j<1073741824)/\P (.int (i/j)) t:=by
 rw[Td (m:=Ba (.int i) (.int j)) (c:=MF i j=true) (z:=(.int (i/j),t)) rfl];simp[MF]
@[simp] theorem W_mod {i j:Int}:W (A3 (.int i) (.int j)) t P↔0<j/\P (.int (i%j)) t:=by
 rw[Td (m:=A3 (.int i) (.int j)) (c:=decide (0<j)=true) (z:=(.int (i%j),t)) rfl];simp
@[simp] theorem fV {i j:Int}:W (dZ (.int i) (.int j)) t P↔Vp i j=true/\P (.int (i ^ j.toNat)) t:=IS rfl
@[simp] theorem W_mul_int {i j:Int}:W (Cu (.int i) (.int j)) t P↔FK i j=true/\P (.int (i*j)) t:=IS rfl
@[simp] theorem W_mul_str {x:Str}{k:Int}:W (Cu (.str x) (.int k)) t P↔(small k=true/\x.length*k.toNat<=LIM/\k<=LIM/\x.length<=LIM)/\P (.str (Txt.mul x k)) t:=IS rfl
theorem WI{i j:Int}(h1 : -18446744073709551616<i)(h2:i<18446744073709551616):FK i j=true:=by simp[FK,h1,h2]
theorem O1{i j:Int}(h1 : -18446744073709551616<j)(h2:j<18446744073709551616):FK i j=true:=by simp[FK,h1,h2]
theorem Be{k:Int}(h1 : -4611686018427387904<=k)(h2:k<4611686018427387904):small k=true:=by simp[small,h1,h2]
@[simp] theorem W_add_str {x y:Str}:W (Ay (.str x) (.str y)) t P↔x.length+y.length<=LIM/\P (.str (x++y)) t:=by
 have:Ay (.str x) (.str y)=lim (x.length+y.length) (.str (x++y)):=rfl;rw[this];simp
@[simp] theorem W_add_lst {x y:List D}:W (Ay (.lst x) (.lst y)) t P↔x.length+y.length<=LIM/\P (.lst (x++y)) t:=by
 have:Ay (.lst x) (.lst y)=lim (x.length+y.length) (.lst (x++y)):=rfl;rw[this];simp
@[simp] theorem W_cat {x y:List D}{Q:List D->T->Prop}:W (Ig (.lst x) (.lst y)) t Q↔x.length+y.length<=LIM/\Q (x++y) t:=by
 have:Ig (.lst x) (.lst y)=lim (x.length+y.length) (x++y):=rfl;rw[this];simp
@[simp] theorem fT {i:Int}:W (dq [.int i]) t P↔P (.int (if i<0 then -i else i)) t:=Au rfl
@[simp] theorem W_min {i j:Int}:W (LF [.int i,.int j]) t P↔P (.int (if j<i then j else i)) t:=Au rfl
@[simp] theorem W_max {i j:Int}:W (LD [.int i,.int j]) t P↔P (.int (if j > i then j else i)) t:=Au rfl
@[simp] theorem c8 {i:Int}:W (JK [.int i]) t P↔P (.int i) t:=Au rfl
@[simp] theorem W_int_bl {b:Bool}:W (JK [.bl b]) t P↔P (.int (if b then 1 else 0)) t:=Au rfl
@[simp] theorem W_ord {x:Str}:W (JP [.str x]) t P↔x.length=1/\P (.int (x.cps.getD 0 0:Nat)) t:=IS rfl
@[simp] theorem db {ds:List D}:W (eJ [.lst ds]) t P↔P (.tup ds) t:=Au rfl
@[simp] theorem W_lst_lst {ds:List D}{Q:List D->T->Prop}:W (Bo [.lst ds]) t Q↔Q ds t:=Au rfl
@[simp] theorem da {ds:List D}{Q:List D->T->Prop}:W (Bo [.tup ds]) t Q↔Q ds t:=Au rfl
@[simp] theorem W_eq_str {g:Bool->Bool}{x y:Str}:W (eqS g (.str x) (.str y)) t P↔P (.bl (g (x==y))) t:=Au rfl
@[simp] theorem W_eq_int {g:Bool->Bool}{x y:Int}:W (eqS g (.int x) (.int y)) t P↔P (.bl (g (x==y))) t:=Au rfl
@[simp] theorem W_eq_bl {g:Bool->Bool}{x y:Bool}:W (eqS g (.bl x) (.bl y)) t P↔P (.bl (g (x==y))) t:=Au rfl
@[simp] theorem W_eq_nil {g:Bool->Bool}{x:List D}:W (eqS g (.lst x) (.lst [])) t P↔P (.bl (g x.isEmpty)) t:=by
 refine Au ?_
 cases x<;>rfl
theorem Iy{a b:String}:Str.ofString a=Str.ofString b↔a=b:=by
 constructor
 .intro h;rw[Str.ofString_eq_toList,Str.ofString_eq_toList] at h;injection h with h
  have h:=jT Array.toList h;simp only at h;have hinj:∀xs ys:List Char,xs.map Char.toNat=ys.map Char.toNat->xs=ys:=by
   intro xs
   induction xs with
   |nil=>intro ys h;cases ys with|nil=>rfl|cons _ _=>simp at h
   |cons x xs ih=>
     intro ys h
     cases ys with
     |nil=>simp at h
     |cons y ys=>
       simp only[ul0,List.cons.injEq] at h;rw[ih ys h.2,Char.toNat_inj.mp h.1]
  exact String.toList_inj.mp (hinj _ _ (by simpa using h))
 .exact λh=>by rw[h]
@[simp] theorem Zq {a b:String}:(Str.ofString a==Str.ofString b)=(a==b):=by
 rw[Bool.eq_iff_iff,jP,jP,Iy]
@[simp] theorem W_sl_lst {ds:List D}{lo hi:Option Int}:W (Cr (.lst ds) lo hi) t P↔P (.lst (Bu ds lo hi)) t:=Au rfl
@[simp] theorem dk {ds:List Int}{lo hi:Option Int}:W (Cr (.scr ds) lo hi) t P↔P (.lst ((Bu ds lo hi).map .int)) t:=Au rfl
@[simp] theorem dm {x:Str}{lo hi:Option Int}:W (Cr (.str x) lo hi) t P↔x.length<=LIM/\P (.str (Txt.slice x lo hi)) t:=by
 have:Cr (.str x) lo hi=lim x.length (.str (Txt.slice x lo hi)):=rfl;rw[this];simp
@[simp] theorem W_sl_tup {ds:List D}{lo hi:Option Int}:W (Cr (.tup ds) lo hi) t P↔P (.tup (Bu ds lo hi)) t:=Au rfl
@[simp] theorem W_fSl {f:M D}{l u:M (Option Int)}{h:D->Option Int->Option Int->M D}:W (fSl f l u h) t P↔W f t λx t1=>W l t1 λlo t2=>W u t2 λhi t3=>W (h x lo hi) t3 P:=by simp[fSl]
@[simp] theorem W_fNo {Q:Option Int->T->Prop}:W fNo t Q↔Q none t:=Au rfl
@[simp] theorem W_asI {i:Int}{Q:Option Int->T->Prop}:W (asI (.int i)) t Q↔Q (some i) t:=Au rfl
@[simp] theorem W_fPart {f:M D}{Q:Option Int->T->Prop}:W (Ct f) t Q↔W f t λx t1=>W (asI x) t1 Q:=by simp[Ct]
@[simp] theorem W_fItA {f:M D}{Q:List D->T->Prop}:W (CZ f) t Q↔W f t λx t1=>W (DG x) t1 Q:=by simp[CZ]
@[simp] theorem W_it_lst {ds:List D}{Q:List D->T->Prop}:W (DG (.lst ds)) t Q↔Q ds t:=Au rfl
@[simp] theorem W_it_tup {ds:List D}{Q:List D->T->Prop}:W (DG (.tup ds)) t Q↔Q ds t:=Au rfl
@[simp] theorem dg {ds:List Int}{Q:List D->T->Prop}:W (DG (.scr ds)) t Q↔Q (ds.map .int) t:=Au rfl
@[simp] theorem W_it_str {x:Str}{Q:List D->T->Prop}:W (DG (.str x)) t Q↔Q (x.cps.toList.map λc=>.str ⟨#[c]⟩) t:=Au rfl
@[simp] theorem W_fRng1 {f:M (List D)}{Q:List D->T->Prop}:W (BV f) t Q↔W f t λx t1=>W (LN x) t1 Q:=by simp[BV]
@[simp] theorem W_fRng2 {f:M (List D)}{Q:List D->T->Prop}:W (Go f) t Q↔W f t λx t1=>W (LO x) t1 Q:=by simp[Go]
@[simp] theorem W_rng1 {j:Int}{Q:List D->T->Prop}:W (LN [.int j]) t Q↔small j=true/\Q (rngL 0 j.toNat) t:=IS rfl
@[simp] theorem W_rng2 {i j:Int}{Q:List D->T->Prop}:W (LO [.int i,.int j]) t Q↔(small i&&small j)=true/\Q (rngL i (j-i).toNat) t:=IS rfl
@[simp] theorem W_ownM {i:Nat}{h:List D->List D->Option (List D)}{g:M (List D)}{Q:Out->T->Prop}:W (ownM i h g) t Q↔(∃xs,t.env[i]?=some (some (.own xs)))/\W g t λds t1=>∃xs,t1.env[i]?=some (some (.own xs))/\∃ys,h xs ds=some ys/\Q .next ⟨t1.env.set i (some (.own ys)),t1.S⟩:=by
 constructor
 .rintro⟨o,t',e,p⟩;unfold ownM at e
  split at e
  .next xs e0=>
   refine⟨⟨xs,e0⟩,?_⟩;clear 5(Af e)ds t1 e1 e;refine⟨ds,t1,e1,?_⟩
   split at e
   .next ys e2=>
    clear 5(uc0.mp e)zs e3 e4
    cases e4
    exact⟨ys,e2,zs,e3,p⟩
   .cases e
  .cases e
 .rintro⟨⟨xs,e0⟩,ds,t1,e1,ys,e2,zs,e3,p⟩;exact⟨_,_,by unfold ownM bnd;simp only[e0,e1,e2,e3,uj3],p⟩
@[simp] theorem app1_one {xs:List D}{d:D}{ys:List D}:CI xs [d]=some ys↔xs.length<LIM/\xs++[d]=ys:=by
 unfold CI;split<;>simp[*]
@[simp] theorem fW {f g:M D}{d:D}{Q:Unit->T->Prop}:W (stD f g d) t Q↔W f t λo t1=>W g t1 λi t2=>W (ai o i d) t2 Q:=by simp[stD]
end
section
variable{t:T}{P:D->T->Prop}{Q:List D->T->Prop}{R:Out->T->Prop}{B:Bool->T->Prop}{U:Unit->T->Prop}
def E1(k:Bool)(A B:Prop):Prop:=if k=true then A else B
theorem HA{k:Bool}{A B:Prop}(h:k=true)(a:A):E1 k A B:=by unfold E1;rw[jY h];exact a
theorem Ea{k:Bool}{A B:Prop}(h:k=false)(b:B):E1 k A B:=by unfold E1;rw[jZ (by rw[h];exact ue5)];exact b
theorem BB{k:Bool}{A B:Prop}(a:k=true->A)(b:k=false->B):E1 k A B:=by cases h:k with
 |true=>exact HA rfl (a h)
 |false=>exact Ea rfl (b h)
def D5(g:M Out)(R:Out->T->Prop)(o:Out)(t1:T):Prop:=match o with
 |.next=>W g t1 R
 |o=>R o t1
variable{t1:T}
theorem Ep{g:M Out}(h:W g t1 R):D5 g R .next t1:=h
theorem UR{g:M Out}{d:D}(h:R (.ret d) t1):D5 g R (.ret d) t1:=h
theorem fy{f g:M Out}(h:W f t (D5 g R)):W (Ae f g) t R:=W_seqS.mpr (h.mono λo t1 h1=>by cases o<;>exact h1)
theorem cV(h:R .next t):W As t R:=W_skipS.mpr h
variable{f:M D}
theorem fw(h:W f t λd t1=>R (.ret d) t1):W (Al f) t R:=W_retS.mpr h
theorem cE(h:W f t λd t1=>R .next t1):W (Gn f) t R:=W_dropS.mpr h
theorem wIf{f:M Bool}{g h:M Out}(w:W f t λk t1=>E1 k (W g t1 R) (W h t1 R)):W (ifS f g h) t R:=W_ifS.mpr w
theorem fz{i:Nat}(h:W f t λd t1=>R .next ⟨t1.env.set i (vw d),t1.S⟩):W (Ap i f) t R:=W_setS.mpr h
theorem fu{i:Nat}{f:M (List D)}(h:W f t λd t1=>R .next ⟨t1.env.set i (some (.own d)),t1.S⟩):W (CU i f) t R:=W_ownS.mpr h
theorem eN{g:D->M Unit}(h:W f t λd t1=>W (g d) t1 λ_ t2=>R .next t2):W (CJ f g) t R:=W_asgS.mpr h
theorem eS{f:M (List D)}{st:D->M Unit}{b:M Out}(h:W f t λds t1=>W (CS st b ds) t1 R):W (Bn f st b) t R:=W_forS.mpr h
theorem wC{d:D}(h:P d t):W (fC d) t P:=W_fC.mpr h
theorem FF{i:Nat}{d:D}(e:t.env[i]?=some (vw d))(h:P d t):W (Aa i) t P:=by rw[QO,e];exact h
variable{ds:List D}
theorem cY{i:Nat}(e:t.env[i]?=some (some (.own ds)))(h:P (.lst ds) ⟨t.env.set i (vw (.lst ds)),t.S⟩):W (Aa i) t P:=by rw[QO,e];exact h
variable{g:M D}
theorem LZ{h:D->D->M D}(w:W f t λx t1=>W g t1 λy t2=>W (h x y) t2 P):W (Ac f g h) t P:=W_fBin.mpr w
theorem wUn{h:D->M D}(w:W f t λx t1=>W (h x) t1 P):W (fUn f h) t P:=W_fUn.mpr w
theorem CO{α β:Type}{f:M α}{g:α->M β}{K:β->T->Prop}(w:W f t λx t1=>W (g x) t1 K):W (bnd f g) t K:=W_bnd.mpr w
theorem QB{b:Bool}(h:B b t):W (toB (.bl b)) t B:=W_toB.mpr h
theorem QC(h:W f t λx t1=>W (toB x) t1 B):W (Am f) t B:=W_fTst.mpr h
theorem aB{w:M D}{h h':D->D->M D}(q:W f t λx t1=>W g t1 λy t2=>W (h x y) t2 λk t3=>W (toB k) t3 λk t4=>E1 k (W w t4 λz t5=>W (h' y z) t5 P) (P (.bl false) t4)):W (DE f g w h h') t P:=W_fChain.mpr q
theorem eK{f g:M Bool}(h:W f t λk t1=>E1 k (W g t1 B) (B false t1)):W (Il f g) t B:=W_fAnd.mpr h
theorem wOr{f g:M Bool}(h:W f t λk t1=>E1 k (B true t1) (W g t1 B)):W (fOr f g) t B:=W_fOr.mpr h
theorem fk{f:M Bool}(h:W f t λk t1=>B (!k) t1):W (C1 f) t B:=W_fNot.mpr h
theorem cy(h:W f t λx t1=>W (toB x) t1 λk t2=>E1 k (W g t2 P) (P (.bl false) t2)):W (FH f g) t P:=W_fAndV.mpr h
theorem ft(h:W f t λx t1=>W (toB x) t1 λk t2=>E1 k (P (.bl true) t2) (W g t2 P)):W (Ly f g) t P:=W_fOrV.mpr h
theorem cL(h:W f t λx t1=>W (toB x) t1 λk t2=>P (.bl (!k)) t2):W (IV f) t P:=W_fNotV.mpr h
theorem eX{f:M Bool}{h:M D}(w:W f t λk t1=>E1 k (W g t1 P) (W h t1 P)):W (fIf f g h) t P:=W_fIf.mpr w
theorem JW(h:Q [] t):W Ad t Q:=W_fNil.mpr h
theorem EO{g:M (List D)}(h:W f t λd t1=>W g t1 λds t2=>Q (d::ds) t2):W (Ab f g) t Q:=W_fCons.mpr h
def Ir(n:Nat)(A:Prop):Prop:=n<=LIM/\A
variable{n:Nat}
theorem AY{A:Prop}(h:n<=LIM)(a:A):Ir n A:=⟨h,a⟩
theorem fG{f:M (List D)}(h:W f t λds t1=>Ir ds.length (P (.tup ds) t1)):W (AQ f) t P:=W_fTup.mpr h
theorem fe{f:M (List D)}(h:W f t λds t1=>Ir ds.length (Q ds t1)):W (AG f) t Q:=W_fLst.mpr h
theorem cQ{f:M (List D)}(h:W f t λds t1=>P (.lst ds) t1):W (Ar f) t P:=W_fPure.mpr h
theorem fq{f:M (List D)}(h:W f t λds t1=>P (.obj t1.S.length) ⟨t1.env,t1.S++[.lst ds]⟩):W (Hu f) t P:=by rw[Yo];exact h.mono λds t1 h=>W_newOb.mpr h
theorem K9{g:Fn}{f:M (List D)}(h:W f t λds t1=>Wf g ds t1.S λr S'=>P r ⟨t1.env,S'⟩):W (Ag g f) t P:=W_fCall.mpr h
theorem wB{f:M (List D)}{h:List D->M D}(w:W f t λds t1=>W (h ds) t1 P):W (fB f h) t P:=W_fB.mpr w
theorem wBF{f:M (List D)}{h:List D->M (List D)}(w:W f t λds t1=>W (h ds) t1 Q):W (fBF f h) t Q:=W_fBF.mpr w
theorem On{i:Nat}{d:D}(h:U () ⟨t.env.set i (vw d),t.S⟩):W (Aw i d) t U:=W_putV.mpr h
theorem X4(h:U () t):W (Cm []) t U:=W_putNil.mpr h
theorem U6{f:D->M Unit}{g:List D->M Unit}{d:D}(h:W (f d) t λ_ t1=>W (g ds) t1 U):W (AI f g (d::ds)) t U:=W_putCons.mpr h
theorem fH{g:List D->M Unit}(e:ds.length=n)(h:W (g ds) t U):W (unS n g (.lst ds)) t U:=W_unS_lst.mpr ⟨e,h⟩
theorem fJ{g:List D->M Unit}(e:ds.length=n)(h:W (g ds) t U):W (unS n g (.tup ds)) t U:=W_unS_tup.mpr ⟨e,h⟩
theorem cD{fr:List Nat}{f:M (List D)}{st:D->M Unit}{tst:M Bool}{elt:M D}(h:W f t λds t1=>W (Cs st tst elt ds) ⟨cenv n fr t1.env,t1.S⟩ λxs t'=>Ir xs.length (Q xs ⟨t1.env,t'.S⟩)):W (BA n fr f st tst elt) t Q:=W_fComp.mpr h
theorem U8(h:B true t):W Eh t B:=W_tTru.mpr h
variable{i:Int}
theorem Fd{d:D}(e:atI ds i=some d)(h:P d t):W (ixD (.tup ds) (.int i)) t P:=W_ix_tup.mpr ⟨d,e,h⟩
theorem AM{d:D}(e:atI ds i=some d)(h:P d t):W (ixD (.lst ds) (.int i)) t P:=W_ix_lst.mpr ⟨d,e,h⟩
theorem Qy(h:P (.int ds.length) t):W (AO [.lst ds]) t P:=W_len_lst.mpr h
theorem VG(h:P (.int ds.length) t):W (AO [.tup ds]) t P:=W_len_tup.mpr h
theorem cJ{ds:List Int}(h:P (.int ds.length) t):W (AO [.scr ds]) t P:=W_len_scr.mpr h
theorem cI{k:Nat}(e:t.S[k]?=some (.lst ds))(h:P (.int ds.length) t):W (AO [.obj k]) t P:=W_len_obj.mpr ⟨ds,e,h⟩
variable{x:Str}
theorem MJ(e:x.length<=LIM)(h:P (.int x.length) t):W (AO [.str x]) t P:=W_len_str.mpr ⟨e,h⟩
theorem U4{d:D}{m n:String}{b:Bool}(e:tyD d=some n)(e':F3 n m=some b)(h:P (.bl b) t):W (C7 [d,.ty m]) t P:=W_isi.mpr ⟨n,e,b,e',h⟩
theorem eY{x:D}(h:P (.bl (Gp x)) t):W (isC x .non) t P:=W_is_non.mpr h
variable{j:Int}
theorem ck(h:P (.int (i+j)) t):W (Ay (.int i) (.int j)) t P:=W_add_int.mpr h
theorem cW(h:P (.int (i-j)) t):W (Ca (.int i) (.int j)) t P:=W_sub_int.mpr h
theorem ff(h:P (.bl (decide (i<j))) t):W (ltA (.int i) (.int j)) t P:=W_lt_int.mpr h
theorem fc(h:P (.bl (decide (i<=j))) t):W (leA (.int i) (.int j)) t P:=W_le_int.mpr h
theorem eU(h:P (.bl (decide (j<i))) t):W (gtA (.int i) (.int j)) t P:=W_gt_int.mpr h
theorem eT(h:P (.bl (decide (j<=i))) t):W (geA (.int i) (.int j)) t P:=W_ge_int.mpr h
theorem fj(h:P (.int (-i)) t):W (HD (.int i)) t P:=W_neg.mpr h
theorem JV(h1:0<j)(h2:j<1073741824)(h:P (.int (i/j)) t):W (Ba (.int i) (.int j)) t P:=W_fdiv.mpr ⟨⟨h1,h2⟩,h⟩
theorem HQ(h1:0<j)(h:P (.int (i%j)) t):W (A3 (.int i) (.int j)) t P:=W_mod.mpr ⟨h1,h⟩
theorem Qz(h1:FK i j=true)(h:P (.int (i*j)) t):W (Cu (.int i) (.int j)) t P:=W_mul_int.mpr ⟨h1,h⟩
theorem VJ{k:Int}(h1:small k=true/\x.length*k.toNat<=LIM/\k<=LIM/\x.length<=LIM)(h:P (.str (Txt.mul x k)) t):W (Cu (.str x) (.int k)) t P:=W_mul_str.mpr ⟨h1,h⟩
theorem cr{y:Str}(h:Ir (x.length+y.length) (P (.str (x++y)) t)):W (Ay (.str x) (.str y)) t P:=W_add_str.mpr h
theorem cq{x y:List D}(h:Ir (x.length+y.length) (P (.lst (x++y)) t)):W (Ay (.lst x) (.lst y)) t P:=W_add_lst.mpr h
theorem eO{x y:List D}(h:Ir (x.length+y.length) (Q (x++y) t)):W (Ig (.lst x) (.lst y)) t Q:=W_cat.mpr h
theorem fh(h:P (.int (if j<i then j else i)) t):W (LF [.int i,.int j]) t P:=W_min.mpr h
theorem fg(h:P (.int (if j > i then j else i)) t):W (LD [.int i,.int j]) t P:=W_max.mpr h
theorem cF{i:Bool}(h:P (.int (if i then 1 else 0)) t):W (JK [.bl i]) t P:=W_int_bl.mpr h
theorem aK(e:x.length=1)(h:P (.int (x.cps.getD 0 0:Nat)) t):W (JP [.str x]) t P:=W_ord.mpr ⟨e,h⟩
theorem cK(h:Q ds t):W (Bo [.lst ds]) t Q:=W_lst_lst.mpr h
theorem U2{g:Bool->Bool}{y:Str}(h:P (.bl (g (x==y))) t):W (eqS g (.str x) (.str y)) t P:=W_eq_str.mpr h
theorem aD{g:Bool->Bool}{x y:Int}(h:P (.bl (g (x==y))) t):W (eqS g (.int x) (.int y)) t P:=W_eq_int.mpr h
theorem eP{g:Bool->Bool}{x y:Bool}(h:P (.bl (g (x==y))) t):W (eqS g (.bl x) (.bl y)) t P:=W_eq_bl.mpr h
theorem aE{g:Bool->Bool}{x:List D}(h:P (.bl (g x.isEmpty)) t):W (eqS g (.lst x) (.lst [])) t P:=W_eq_nil.mpr h
theorem aM{lo hi:Option Int}(h:P (.lst (Bu ds lo hi)) t):W (Cr (.lst ds) lo hi) t P:=W_sl_lst.mpr h
theorem aN{lo hi:Option Int}(h:P (.tup (Bu ds lo hi)) t):W (Cr (.tup ds) lo hi) t P:=W_sl_tup.mpr h
theorem wSl{l u:M (Option Int)}{h:D->Option Int->Option Int->M D}(w:W f t λx t1=>W l t1 λlo t2=>W u t2 λhi t3=>W (h x lo hi) t3 P):W (fSl f l u h) t P:=W_fSl.mpr w
variable{K:Option Int->T->Prop}
theorem wNo(h:K none t):W fNo t K:=W_fNo.mpr h
theorem eM(h:K (some i) t):W (asI (.int i)) t K:=W_asI.mpr h
theorem cO(h:W f t λx t1=>W (asI x) t1 K):W (Ct f) t K:=W_fPart.mpr h
theorem eZ(h:W f t λx t1=>W (DG x) t1 Q):W (CZ f) t Q:=W_fItA.mpr h
theorem aH(h:Q ds t):W (DG (.lst ds)) t Q:=W_it_lst.mpr h
theorem aI(h:Q ds t):W (DG (.tup ds)) t Q:=W_it_tup.mpr h
theorem fb(h:Q (x.cps.toList.map λc=>.str ⟨#[c]⟩) t):W (DG (.str x)) t Q:=W_it_str.mpr h
theorem cS{f:M (List D)}(h:W f t λx t1=>W (LN x) t1 Q):W (BV f) t Q:=W_fRng1.mpr h
theorem cT{f:M (List D)}(h:W f t λx t1=>W (LO x) t1 Q):W (Go f) t Q:=W_fRng2.mpr h
theorem FE(e:small j=true)(h:Q (rngL 0 j.toNat) t):W (LN [.int j]) t Q:=W_rng1.mpr ⟨e,h⟩
theorem U7(e:(small i&&small j)=true)(h:Q (rngL i (j-i).toNat) t):W (LO [.int i,.int j]) t Q:=W_rng2.mpr ⟨e,h⟩
theorem cM{i:Nat}{xs:List D}{h:List D->List D->Option (List D)}{g:M (List D)}(e:t.env[i]?=some (some (.own xs)))(w:W g t λds t1=>∃xs,t1.env[i]?=some (some (.own xs))/\∃ys,h xs ds=some ys/\R .next ⟨t1.env.set i (some (.own ys)),t1.S⟩):W (ownM i h g) t R:=W_ownM.mpr ⟨⟨xs,e⟩,w⟩
theorem eL{i:Nat}{xs:List D}{d:D}{A:List D->Prop}(e:t1.env[i]?=some (some (.own xs)))(w:Ir (xs.length+1) (A (xs++[d]))):∃xs,t1.env[i]?=some (some (.own xs))/\∃ys,CI xs [d]=some ys/\A ys:=
 ⟨xs,e,_,app1_one.mpr ⟨w.1,rfl⟩,w.2⟩
end
section
variable{i:Nat}{g:Fn}{d':D}
section
variable{t:T}{P:D->T->Prop}{B:Bool->T->Prop}{Q:List D->T->Prop}
theorem cX{n:Int}{ds:List D}{d:D}(e:t.env[i]?=some (vw (.tup ds)))(a:atI ds n=some d)(h:P d t):W (Ac (Aa i) (gh n) ixD) t P:=LZ (FF e (wC (Fd a h)))
theorem cH{x y:Str}{ds:List D}{g:Bool->Bool}(e:t.env[i]?=some (vw (.tup (.str y::ds))))(h:B (g (y==x)) t):W (Am (Ac (Ac (Aa i) (gh 0) ixD) (fC (.str x)) (eqS g))) t B:=QC (LZ (LZ (FF e (wC (Fd Hk (wC (U2 (QB h))))))))
theorem aP{x y:Str}{g:Bool->Bool}(e:t.env[i]?=some (vw (.str y)))(h:B (g (y==x)) t):W (Am (Ac (Aa i) (fC (.str x)) (eqS g))) t B:=QC (LZ (FF e (wC (U2 (QB h)))))
theorem aO{x y:Int}{g:Bool->Bool}(e:t.env[i]?=some (vw (.int y)))(h:B (g (y==x)) t):W (Am (Ac (Aa i) (gh x) (eqS g))) t B:=QC (LZ (FF e (wC (aD (QB h)))))
theorem XZ{d:D}(e:t.env[i]?=some (vw d))(h:Wf g [d] t.S λr S'=>P r ⟨t.env,S'⟩):W (Ag g (Ab (Aa i) Ad)) t P:=K9 (EO (FF e (JW h)))
theorem X0{j:Nat}{d:D}(e:t.env[i]?=some (vw d))(e':t.env[j]?=some (vw d'))(h:Wf g [d,d'] t.S λr S'=>P r ⟨t.env,S'⟩):W (Ag g (Ab (Aa i) (Ab (Aa j) Ad))) t P:=K9 (EO (FF e (EO (FF e' (JW h)))))
theorem X2{d:D}(e:t.env[i]?=some (vw d))(h:Wf g [d,d'] t.S λr S'=>P r ⟨t.env,S'⟩):W (Ag g (Ab (Aa i) (Ab (fC d') Ad))) t P:=K9 (EO (FF e (EO (wC (JW h)))))
theorem X1{j k:Nat}{d d'':D}(e:t.env[i]?=some (vw d))(e':t.env[j]?=some (vw d'))(e'':t.env[k]?=some (vw d''))(h:Wf g [d,d',d''] t.S λr S'=>P r ⟨t.env,S'⟩):W (Ag g (Ab (Aa i) (Ab (Aa j) (Ab (Aa k) Ad)))) t P:=K9 (EO (FF e (EO (FF e' (EO (FF e'' (JW h)))))))
end
end
end L2
namespace LW
open PySem L2
set_option compiler.extract_closed false
local macro_rules | `(tactic| clear 31 $t*)=>`(tactic| with_reducible first $[| refine $t ?_]*)
local macro_rules | `(tactic| clear 32 $t*)=>`(tactic| ((with_reducible first $[| refine' $t ?wv ?_]*);(case wv=>exact rfl)))
local macro_rules | `(tactic| clear 33 $t*)=>`(tactic| ((with_reducible first $[| refine' $t ?wv ?_]*);(case wv=>decide)))
local macro_rules | `(tactic| walk_at"w1")=>`(tactic| first
 |clear 32 cH aP XZ
 |clear 32 aO X2
 |((with_reducible refine' cX ?wv ?wu ?_);(case wv=>exact rfl);(case wu=>first|exact rfl|exact Hk|exact Vf|exact Vg))
 |((with_reducible refine' X0 ?wv ?wu ?_);(case wv=>exact rfl);(case wu=>exact rfl))
 |((with_reducible refine' X1 ?wv ?wu ?wt ?_);(case wv=>exact rfl);(case wu=>exact rfl);(case wt=>exact rfl))
 |clear 31 fy Ep UR fz LZ wC EO JW wIf QC QB fw K9 U2 aD eP ck cW cV wB wBF cQ fG fe fq eN eS eK wOr fk cy ft cL eX aB wUn fj eY ff fc eU eT Qy VG cJ fh fg cF cK cr cq eO aE wSl wNo cO eM aM aN eZ aH aI fb cS cT On X4 U6 cD U8 fu CO cE
 |clear 32 FF HA fH cM eL
 |clear 32 Ea cY fJ
 |((with_reducible first|refine' Fd ?wv ?_|refine' AM ?wv ?_);(case wv=>first|exact rfl|exact Hk|exact Vf|exact Vg))
 |((with_reducible refine AY ?wv ?_);(case wv=>exact jd rfl))
 |((with_reducible refine' U4 ?wv ?wu ?_);(case wv=>exact rfl);(case wu=>exact rfl))
 |((with_reducible refine JV ?wv ?wu ?_);(case wv=>decide);(case wu=>decide))
 |clear 33 HQ FE U7)
local macro_rules | `(tactic| right)=>`(tactic| repeat (walk_at"w1"))
structure DeckAt(k c:Nat)(S:List Ob):Prop where
 ne:k≠c
 at_:∃(cells:List Int) (par pos:Int),S[k]?=some (.lst [.obj c,.int par,.int pos])/\S[c]?=some (.lst (cells.map .int))/\cells≠[]/\0<=pos
def f7(k c:Nat)(S S':List Ob):Prop:=S'.length=S.length/\∀j:Nat,j≠k->j≠c->S'[j]?=S[j]?
variable{n:Nat}
theorem Bm{i:Int}(h0:0<=i)(h1:i<n):ixN n i=some i.toNat:=by simp[ixN,h0,h1]
variable{S:List Ob}{o:Ob}
theorem IZ{k:Nat}{o':Ob}(h:S[k]?=some o):(S.set k o')[k]?=some o':=by
 obtain⟨hl,_⟩:=ua9.mp h;exact ub7 hl
set_option genInjectivity false in inductive Sh where
 |nothing|number (lo hi:Int)|text (m:Int)|list (s:Sh) (m:Int)|pair (s r:Sh)|choice (ss:List Sh)
mutual
noncomputable def Sh.d:Sh->D
 |.nothing=>.tup [.str "nothing"]
 |.number lo hi=>.tup [.str "number",.int lo,.int hi]
 |.text m=>.tup [.str "text",.int m]
 |.list s m=>.tup [.str "list",s.d,.int m]
 |.pair s r=>.tup [.str "pair",s.d,r.d]
 |.choice ss=>.tup [.str "choice",.tup (shD ss)]
noncomputable def shD:List Sh->List D
 |[]=>[]
 |s::r=>s.d::shD r
end
mutual
noncomputable def Sh.depth:Sh->Nat
 |.nothing=>1
 |.number _ _=>1
 |.text _=>1
 |.list s _=>s.depth+1
 |.pair s r=>max s.depth r.depth+1
 |.choice ss=>FL ss+1
noncomputable def FL:List Sh->Nat
 |[]=>0
 |s::r=>max s.depth (FL r)
end
theorem Ds:∀ss:List Sh,(shD ss).length=ss.length
 |[]=>rfl
 |s::r=>by simp[shD,Ds r]
theorem FQ:∀(ss:List Sh) (k:Nat),(shD ss)[k]?=(ss[k]?).map Sh.d
 |[],k=>by simp[shD]
 |s::r,0=>by simp[shD]
 |s::r,k+1=>by simp[shD,FQ r k]
theorem Cd:∀(ss:List Sh) (k:Nat) (s:Sh),ss[k]?=some s->s.depth<=FL ss
 |[],k,s,h=>by simp at h
 |s::r,0,s',h=>by simp at h;subst h;simp[FL];lia
 |s::r,k+1,s',h=>by
   have:=Cd r k s' (by simpa using h);simp[FL];lia
theorem Sh.depth_pos(s:Sh):1<=s.depth:=by cases s<;>simp[Sh.depth]
noncomputable def Bs(n:Nat):Bool:=decide (32<=n)&&decide (n<=126)&&decide (n≠37)
noncomputable def Hz:Str->Bool:=λo=>o==("of":Str)
mutual
def Ah:Sh->D->Bool
 |.nothing,d=>Gp d
 |.number lo hi,d=>match d with
   |.int i=>decide (lo<=i)&&decide (i<=hi)
   |_=>false
 |.text m,d=>match d with
   |.str x=>decide ((x.length:Int)<=m)&&x.cps.toList.all Bs
   |_=>false
 |.list s m,d=>match d with
   |.lst ds=>decide ((ds.length:Int)<=m)&&ds.all λe=>Ah s e
   |_=>false
 |.pair s r,d=>match d with
   |.tup [a,b]=>Ah s a&&Ah r b
   |_=>false
 |.choice ss,d=>match d with
   |.tup [.str o,.int k,x]=>Hz o&&(decide (0<=k)&&decide (k<ss.length))&&KG ss k.toNat x
   |_=>false
def KG:List Sh->Nat->D->Bool
 |[],_,_=>false
 |s::_,0,d=>Ah s d
 |_::r,k+1,d=>KG r k d
end
theorem Cc:∀(ss:List Sh) (k:Nat) (s:Sh) (d:D),ss[k]?=some s->KG ss k d=Ah s d
 |[],k,s,d,h=>by simp at h
 |s::r,0,s',d,h=>by simp at h;subst h;simp[KG]
 |s::r,k+1,s',d,h=>by rw[KG];exact Cc r k s' d (by simpa using h)
mutual
noncomputable def okD:D->Bool
 |.str x=>decide (x.length<=90000)
 |.tup xs=>oks xs
 |.lst xs=>oks xs
 |.obj _=>false
 |.scr _=>false
 |.exc _ _=>false
 |.ty _=>false
 |_=>true
noncomputable def oks:List D->Bool
 |[]=>true
 |d::r=>okD d&&oks r
end
theorem Jf:∀{xs:List D},oks xs=true->∀d∈xs,okD d=true
 |x::r,h,d,m=>by
   rw[oks,uh1] at h;rcases uk9.mp m with z|z
   .subst z;exact h.1
   .exact Jf h.2 d z
abbrev Pure1(f:Fn)(ds:List D)(r:D):Prop:=∀S,Wf f ds S λv S'=>v=r/\S'=S
variable{ds:List D}
theorem Pure1.use{f:Fn}{r:D}(h:Pure1 f ds r){S:List Ob}{P:D->List Ob->Prop}(p:P r S):Wf f ds S P:=(h S).mono λ_ _ ⟨e1,e2⟩=>by subst e1 e2;exact p
noncomputable def Rr:D->Bool
 |.int _=>true
 |_=>false
theorem NB{d:D}(h:okD d=true):Pure1 (fnOf 1 1 GG) [d] (.bl (Rr d)):=by
 intro S;refine Ak rfl ?_;unfold GG
 cases d<;>first|(simp[okD] at h;done)|(right;exact⟨rfl,rfl⟩)
noncomputable def FR(lo hi:Int):D->Bool
 |.int i=>decide (lo<=i)&&decide (i<=hi)
 |_=>false
def OE(f:Fn):Prop:=∀d,okD d=true->Pure1 f [d] (.bl (Rr d))
def Hj(f:Fn):Prop:=∀d lo hi,okD d=true->Pure1 f [d,.int lo,.int hi] (.bl (FR lo hi d))
variable{c:Fn}
theorem SY(hc:OE c):Hj (fnOf 3 3 (DI c)):=by
 intro d lo hi h S;refine Ak rfl ?_;unfold DI;right;refine(hc d h).use ?_
 cases d with
 |int i=>
   right;refine BB (λe=>?_) λe=>?_
   .right;exact⟨by simp only[FR,e,ul7],rfl⟩
   .exact⟨by simp only[FR,e,uk3],rfl⟩
 |_=>right;exact⟨rfl,rfl⟩
def Kf(f:Fn):Prop:=∀n:Nat,Pure1 f [.int n] (.bl (Bs n))
theorem P0:Kf (fnOf 1 1 Iu):=by
 intro n S;refine Ak rfl ?_;unfold Iu;right;have c1:decide ((32:Int)<=n)=decide (32<=n):=decide_eq_decide.mpr (by lia);have c2:decide ((n:Int)<=126)=decide (n<=126):=decide_eq_decide.mpr (by lia);have c3:(!((n:Int)==37))=decide (n≠37):=by
  by_cases h:n=37
  .subst h;rfl
  .have:¬((n:Int)=37):=by lia
   simp[h,this]
 rw[c1];refine BB (λe=>?_) λe=>?_
 .right;rw[c2];refine BB (λe'=>?_) λe'=>?_
  .right;exact⟨by simp only[Bs,e,e',c3,ul7],rfl⟩
  .exact⟨by simp only[Bs,e,e',uk3,uk5],rfl⟩
 .right;exact⟨by simp only[Bs,e,uk3],rfl⟩
def MP(f:Fn):Prop:=∀m d,okD d=true->Pure1 f [(Sh.text m).d,d] (.bl (Ah (.text m) d))
theorem Nw(hc:Kf c):MP (fnOf 2 3 (GF c)):=by
 intro m d h S;refine Ak rfl ?_;unfold GF;rw[Sh.d]
 cases d with
 |str x=>
   have hx:x.length<=LIM:=um4 (by simpa[okD] using h) (show 90000<=LIM by decide);right;refine MJ hx ?_;right;refine BB (λe=>?_) λe=>?_
   .right;have:¬((x.length:Int)<=m):=by have:=ug5 e;lia
    exact⟨by simp[Ah,this],rfl⟩
   .right;have e':(x.length:Int)<=m:=by have:=of_decide_eq_false e;lia
    refine BE (λr t=>t.S=S/\∃cs:List Nat,r=cs.map (λc=>D.str ⟨#[c]⟩)/\(x.cps.toList.all Bs=cs.all Bs)/\∃z,t.env=[vw (.tup [.str "text",.int m]),vw (.str x),z]) _ _ ⟨rfl,x.cps.toList,rfl,rfl,_,rfl⟩ ?_ ?_
    .rintro d r t ⟨hs,cs,hr,hall,z,ht⟩ _;clear 5 t env S2;subst hs ht
     cases cs with
     |nil=>simp at hr
     |cons c cs=>
       simp only[ul0,List.cons.injEq] at hr;clear 5 hr rfl rfl;right;refine aK rfl ?_;right;refine(hc c).use ?_;right;refine BB (λq=>?_) λq=>?_
       .right;have q':Bs c=false:=by simpa using q
        refine⟨?_,rfl⟩;simp only[Ah,hall,ul3,q',uk3,uk5]
       .right;have q':Bs c=true:=by simpa using q
        exact⟨rfl,cs,rfl,by rw[hall,ul3,q',ul7],_,rfl⟩
    .rintro t ⟨hs,cs,hr,hall,z,ht⟩;clear 5 t env S2;subst hs ht;have:cs=[]:=by cases cs with|nil=>rfl|cons _ _=>simp at hr
     subst this;right;exact⟨by simp[Ah,e',hall],rfl⟩
 |obj _=>simp[okD] at h
 |scr _=>simp[okD] at h
 |ty _=>simp[okD] at h
 |exc _ _=>simp[okD] at h
 |_=>right;exact⟨by simp[Ah],rfl⟩
def FS(f:Fn)(n:Nat):Prop:=∀s:Sh,s.depth<=n->∀d,okD d=true->Pure1 f [s.d,d] (.bl (Ah s d))
def QI(f:Fn)(n:Nat):Prop:=∀(s:Sh) (m:Int),s.depth<=n->∀d,okD d=true->Pure1 f [(Sh.list s m).d,d] (.bl (Ah (.list s m) d))
theorem Nu(hc:FS c n):QI (fnOf 2 3 (GC c)) n:=by
 intro s m hs d h S;refine Ak rfl ?_;unfold GC;rw[Sh.d]
 cases d with
 |lst ds=>
   have hx:∀d∈ds,okD d=true:=Jf (by simpa[okD] using h);right;refine BB (λe=>?_) λe=>?_
   .right;have:¬((ds.length:Int)<=m):=by have:=ug5 e;lia
    exact⟨by simp[Ah,this],rfl⟩
   .right;have e':(ds.length:Int)<=m:=by have:=of_decide_eq_false e;lia
    refine BE (λr t=>t.S=S/\(ds.all (λe=>Ah s e)=r.all λe=>Ah s e)/\∃z,t.env=[vw (.tup [.str "list",s.d,.int m]),vw (.lst ds),z]) _ _ ⟨rfl,rfl,_,rfl⟩ ?_ ?_
    .rintro d r t ⟨hS,hall,z,ht⟩ hm;clear 5 t env S2;subst hS ht;right;refine(hc s hs d (hx d hm)).use ?_;right;refine BB (λq=>?_) λq=>?_
     .right;have q':Ah s d=false:=by simpa using q
      refine⟨?_,rfl⟩;simp only[Ah,hall,ul3,q',uk3,uk5]
     .right;have q':Ah s d=true:=by simpa using q
      exact⟨rfl,by rw[hall,ul3,q',ul7],_,rfl⟩
    .rintro t ⟨hS,hall,z,ht⟩;clear 5 t env S2;subst hS ht;right;exact⟨by simp only[Ah,e',decide_true,hall,List.all_nil,ul7],rfl⟩
 |obj _=>simp[okD] at h
 |scr _=>simp[okD] at h
 |ty _=>simp[okD] at h
 |exc _ _=>simp[okD] at h
 |_=>right;exact⟨by simp[Ah],rfl⟩
def QM(f:Fn)(n:Nat):Prop:=∀(s r:Sh),s.depth<=n->r.depth<=n->∀d,okD d=true->Pure1 f [(Sh.pair s r).d,d] (.bl (Ah (.pair s r) d))
theorem Nv(hc:FS c n):QM (fnOf 2 2 (GD c)) n:=by
 intro s r hs hr d h S;refine Ak rfl ?_;unfold GD;rw[Sh.d]
 cases d with
 |tup ds=>
   have hx:∀d∈ds,okD d=true:=Jf (by simpa[okD] using h);right
   match ds,hx with
   |[],_=>right;exact⟨by simp[Ah],rfl⟩
   |[a],_=>right;exact⟨by simp[Ah],rfl⟩
   |[a,b],hx=>
     right;refine(hc s hs a (hx a (by simp))).use ?_;right;refine BB (λe=>?_) λe=>?_
     .right;refine(hc r hr b (hx b (by simp))).use ?_;exact⟨by simp only[Ah,e,ul7],rfl⟩
     .exact⟨by simp only[Ah,e,uk3],rfl⟩
   |a::b::e::l,_=>
     refine HA ?_ ?_
     .show(!(((a::b::e::l).length:Int)==2))=true;simp;lia
     right;exact⟨by simp[Ah],rfl⟩
 |obj _=>simp[okD] at h
 |scr _=>simp[okD] at h
 |ty _=>simp[okD] at h
 |exc _ _=>simp[okD] at h
 |_=>right;exact⟨by simp[Ah],rfl⟩
def ML(f:Fn)(n:Nat):Prop:=∀(ss:List Sh),FL ss<=n->∀d,okD d=true->Pure1 f [(Sh.choice ss).d,d] (.bl (Ah (.choice ss) d))
theorem LB{c':Fn}(hc:FS c n)(hw:Hj c'):ML (fnOf 2 2 (Fz c c')) n:=by
 intro ss hs d h S;refine Ak rfl ?_;unfold Fz;rw[Sh.d]
 cases d with
 |tup ds=>
   have hx:∀d∈ds,okD d=true:=Jf (by simpa[okD] using h);right
   match ds,hx with
   |[],_=>right;exact⟨by simp[Ah],rfl⟩
   |[a],_=>right;exact⟨by simp[Ah],rfl⟩
   |[a,b],_=>right;exact⟨by simp[Ah],rfl⟩
   |[a,b,e],hx=>
     right;have ha:=hx a (by simp)
     cases a with
     |str o=>
       right;refine BB (λq=>?_) λq=>?_
       .right;have q':Hz o=false:=by simpa[Hz] using q
        refine⟨?_,rfl⟩
        cases b<;>simp only[Ah,q',uk3]
       .right;have q':Hz o=true:=by simpa[Hz] using q
        refine(hw b 0 _ (hx b (by simp))).use ?_;right
        cases b with
        |int k=>
          refine BB (λq=>?_) λq=>?_
          .right;refine⟨?_,rfl⟩;have:(decide (0<=k)&&decide (k<(ss.length:Int)))=false:=by
            have q2:k<0\/((shD ss).length:Int)-1<k:=by simpa[FR] using q
            rw[Ds] at q2;simp;lia
           simp only[Ah,this,uk3,uk5]
          .have q2:0<=k/\k<=((shD ss).length:Int)-1:=by simpa[FR] using q
           have q3:=q2;rw[Ds] at q3;have hk:k.toNat<ss.length:=by lia
           have e1:ss[k.toNat]?=some ss[k.toNat]:=ub3 hk;have e2:atI (shD ss) k=some (ss[k.toNat]).d:=by
            unfold atI;rw[Ds,Bm q3.1 (by lia)];simp[FQ,e1]
           right;refine Fd e2 ?_;right;refine(hc _ (um4 (Cd ss _ _ e1) hs) e (hx e (by simp))).use ?_;refine⟨?_,rfl⟩;have:(decide (0<=k)&&decide (k<(ss.length:Int)))=true:=by simp;lia
           simp only[Ah,q',this,ul7,Cc ss _ _ e e1]
        |_=>
          right;exact⟨by simp[Ah],rfl⟩
     |obj _=>simp[okD] at ha
     |scr _=>simp[okD] at ha
     |ty _=>simp[okD] at ha
     |exc _ _=>simp[okD] at ha
     |_=>right;exact⟨by simp[Ah],rfl⟩
   |a::b::e::f::l,_=>
     refine HA ?_ ?_
     .show(!(((a::b::e::f::l).length:Int)==3))=true;simp;lia
     right;exact⟨by simp[Ah],rfl⟩
 |obj _=>simp[okD] at h
 |scr _=>simp[okD] at h
 |ty _=>simp[okD] at h
 |exc _ _=>simp[okD] at h
 |_=>right;exact⟨by simp[Ah],rfl⟩
variable{cc cp cl ct cw:Fn}
theorem Wg(h1:ML cc n)(h2:QM cp n)(h3:QI cl n)(h4:MP ct)(h5:Hj cw):FS (fnOf 2 3 (NH cc cp cl ct cw)) (n+1):=by
 intro s hs d h S;refine Ak rfl ?_;unfold NH
 cases s with
 |nothing=>
   rw[Sh.d];right;exact⟨by rw[Ah],rfl⟩
 |number lo hi=>
   rw[Sh.d];right;refine(h5 d lo hi h).use ⟨?_,rfl⟩
   cases d<;>simp[Ah,FR]
 |text m=>
   rw[Sh.d];right;exact(h4 m d h).use ⟨rfl,rfl⟩
 |list s m=>
   rw[Sh.depth] at hs;have q:=h3 s m (by lia) d h;rw[Sh.d] at q⊢;right;exact q.use ⟨rfl,rfl⟩
 |pair s r=>
   rw[Sh.depth] at hs;have q:=h2 s r (by lia) (by lia) d h;rw[Sh.d] at q⊢;right;exact q.use ⟨rfl,rfl⟩
 |choice ss=>
   rw[Sh.depth] at hs;have q:=h1 ss (by lia) d h;rw[Sh.d] at q⊢;right;exact q.use ⟨rfl,rfl⟩
theorem Mf(x:Array Nat):∀(n:Nat) (acc:Array Nat),((List.replicate n x).foldl (·++·) acc).toList=acc.toList++(List.replicate n x.toList).flatten
 |0,acc=>by simp
 |n+1,acc=>by
   rw[ud9,ui9,Mf x n,ud9,uf7];simp
variable{x:Str}
theorem RY{k:Int}:(Txt.mul x k).cps.toList=(List.replicate k.toNat x.cps.toList).flatten:=by
 unfold Txt.mul
 split
 .have:k.toNat=0:=by lia
  rw[this];rfl
 .split
  .next h=>
   rw[uj4] at h;rcases h with h|h
   .have:k=1:=by simpa using h
    subst this;simp
   .have:x.cps.toList=[]:=by
     have h':x.length=0:=by simpa using h
     exact ua3 (by simpa[Str.length] using h')
    rw[this];simp
  .have:=Mf x.cps k.toNat #[];simpa using this
theorem Fr(x:Str):x.length=x.cps.toList.length:=by simp[Str.length]
theorem L5(x y:Str):(x++y).cps.toList=x.cps.toList++y.cps.toList:=by
 show(x.cps++y.cps).toList=_;simp
variable{α:Type}
theorem Xh(a:α)(k:Nat):(List.replicate k [a]).flatten=List.replicate k a:=by
 induction k with
 |zero=>rfl
 |succ k ih=>rw[ud9,uf7,ih,ud9];rfl
theorem Fj{f:D->D}{fr:List (Option Sl)}{elt:M D}{z:Option Sl}(h:∀d∈ds,W elt ⟨vw d::fr,S⟩ λx t'=>x=f d/\t'=⟨vw d::fr,S⟩) :
 W (Cs (Aw 0) Eh elt ds) ⟨z::fr,S⟩ λxs t'=>xs=ds.map f/\t'.S=S:=by
 refine(MR (P:=λxs t'=>xs=ds.map f/\t'.S=S) (λacc r t=>acc++r.map f=ds.map f/\∃z,t=⟨z::fr,S⟩) ds [] _ ⟨rfl,z,rfl⟩ ?_ ?_).mono λxs t' h=>h
 .rintro acc d r t ⟨h1,z,rfl⟩ hm;refine On (U8 ?_);rw[jY rfl];refine(h d hm).mono λx t' z9=>?_;clear 5 z9 e1 e2;subst e1 e2;exact⟨by rw[uf8];exact h1,_,rfl⟩
 .rintro acc t ⟨h1,z,rfl⟩;exact⟨by simpa using h1,rfl⟩
mutual
noncomputable def sz:D->Nat
 |.tup xs=>szs xs+1
 |.lst xs=>szs xs+1
 |_=>1
noncomputable def szs:List D->Nat
 |[]=>0
 |d::r=>sz d+szs r
end
theorem XT{y:Str}(h:x.cps.toList=y.cps.toList):x=y:=by
 cases x;cases y
 congr
 exact Array.toList_inj.mp h
mutual
noncomputable def wf:Sh->Bool
 |.nothing=>true
 |.number lo hi=>decide (-1000000000000000000<lo)&&decide (lo<=hi)&&decide (hi<1000000000000000000)
 |.text m=>decide (0<=m)&&decide (m<=250)
 |.list s m=>decide (0<=m)&&decide (m<=250)&&wf s
 |.pair s r=>wf s&&wf r
 |.choice ss=>decide (1<=ss.length)&&decide (ss.length<=9)&&wfs ss
noncomputable def wfs:List Sh->Bool
 |[]=>true
 |s::r=>wf s&&wfs r
end
mutual
noncomputable def cnt:Sh->Nat
 |.list s _=>cnt s+1
 |.pair s r=>cnt s+cnt r+1
 |.choice ss=>Yz ss+1
 |_=>1
noncomputable def Yz:List Sh->Nat
 |[]=>0
 |s::r=>cnt s+Yz r
end
theorem DZ:∀{ss:List Sh},wfs ss=true->∀s∈ss,wf s=true
 |x::r,h,s,m=>by
   rw[wfs,uh1] at h;rcases uk9.mp m with z|z
   .subst z;exact h.1
   .exact DZ h.2 s z
def Po(k c l:Nat)(S S':List Ob):Prop:=S'.length=S.length/\∀j:Nat,j≠k->j≠c->j≠l->S'[j]?=S[j]?
noncomputable def Qr(deep:Int):Int:=if deep<2 then 0 else 2*deep+4
def bd(deep x:Int):Int:=if deep<2 then 1 else max x 1+Qr deep-(if deep+1<=x then 1 else 0)
def tb(deep y i:Int):Int:=if deep=2 then i else if i=0 then 0 else y+Qr (deep-1)+i-1-(if deep<=y then 1 else 0)
structure ShapeRes(k c l:Nat)(S:List Ob)(deep x:Int)(s:Sh)(S':List Ob):Prop where
 w:wf s=true
 dep:(s.depth:Int)<=max deep 1
 lft:S'[l]?=some (.lst [.int (x-cnt s)])
 one:x<=1->cnt s=1
 few:(cnt s:Int)<=max x 1+Qr deep
 deck:DeckAt k c S'
 kp:Po k c l S S'
 few2:(cnt s:Int)<=bd deep x
theorem NL{k:Int}:(Txt.mul ⟨#[n]⟩ k).cps.toList=List.replicate k.toNat n:=by rw[RY];exact Xh n k.toNat
theorem ND{k:Int}:(Txt.mul ⟨#[n]⟩ k).length=k.toNat:=by rw[Fr,NL,uc7]
theorem Tf{k:Int}(h:Bs n=true):(Txt.mul ⟨#[n]⟩ k).cps.toList.all Bs=true:=by
 rw[NL,uh5];intro x hx;rw[iy hx];exact h
structure Sep(ks:List (Nat×Nat)):Prop where
 sep:∀p∈ks,∀q∈ks,p=q\/(q.1≠p.1/\q.1≠p.2/\q.2≠p.1/\q.2≠p.2)
mutual
noncomputable def dpt:D->Nat
 |.lst ds=>FZ ds+1
 |.tup ds=>FZ ds+1
 |_=>1
noncomputable def FZ:List D->Nat
 |[]=>0
 |d::r=>max (dpt d) (FZ r)
end
theorem ON:∀{ds:List D}{n:Nat},(∀d∈ds,dpt d<=n)->FZ ds<=n
 |[],n,_=>by simp[FZ]
 |x::r,n,h=>by
   rw[FZ];have h1:=h x ue4;have h2:=ON λd m=>h d (ud2 _ m);lia
theorem OM(d:D):0<dpt d:=by cases d<;>simp[dpt]
mutual
noncomputable def smD:D->Bool
 |.str x=>decide (x.length<=300)
 |.int i=>decide (-1000000000000000000000000<i)&&decide (i<1000000000000000000000000)
 |.tup xs=>decide (xs.length<=300)&&sms xs
 |.lst xs=>decide (xs.length<=300)&&sms xs
 |.obj _=>false
 |.scr _=>false
 |.ty _=>false
 |.exc _ _=>false
 |_=>true
noncomputable def sms:List D->Bool
 |[]=>true
 |d::r=>smD d&&sms r
end
theorem SD:∀{xs:List D},(∀d∈xs,smD d=true)->sms xs=true
 |[],_=>rfl
 |x::r,h=>by
   rw[sms,uh1];exact⟨h x ue4,SD λd m=>h d (ud2 _ m)⟩
mutual
theorem Vw:∀{d:D},smD d=true->okD d=true
 |.str x,h=>by rw[smD,ug4] at h;rw[okD,ug4];lia
 |.tup xs,h=>by rw[smD,uh1] at h;rw[okD];exact Oh h.2
 |.lst xs,h=>by rw[smD,uh1] at h;rw[okD];exact Oh h.2
 |.obj _,h=>by simp[smD] at h
 |.scr _,h=>by simp[smD] at h
 |.ty _,h=>by simp[smD] at h
 |.non,_=>by simp[okD]
 |.bl _,_=>by simp[okD]
 |.int _,_=>by simp[okD]
 |.dic,_=>by simp[okD]
theorem Oh:∀{xs:List D},sms xs=true->oks xs=true
 |[],_=>by simp[oks]
 |d::r,h=>by rw[sms,uh1] at h;rw[oks,uh1];exact⟨Vw h.1,Oh h.2⟩
end
theorem DA{f:D->D->Option Bool}:∀{xs:List D},(∀d∈xs,f d d=some true)->Du f xs xs=some true
 |[],_=>rfl
 |x::r,h=>by
   rw[Du,h x ue4,DA λd m=>h d (ud2 _ m)];rfl
theorem DB:∀(n:Nat) (d:D),dpt d<=n->smD d=true->d≠.dic->(∀xs,d=.lst xs\/d=.tup xs->∀x∈xs,eqN (n-1) x x=some true)->eqN n d d=some true
 |0,d,hd,_,_,_=>absurd hd (by have:=OM d;lia)
 |n+1,.lst xs,_,_,_,h=>by
   rw[eqN,jY rfl];exact DA (h xs (.inl rfl))
 |n+1,.tup xs,_,_,_,h=>by
   have e:Du (eqN n) xs xs=some true:=DA (h xs (.inr rfl));rw[eqN,e];simp
 |n+1,.non,_,_,_,_=>rfl
 |n+1,.bl b,_,_,_,_=>by show some (b==b)=some true;rw[ui1]
 |n+1,.int b,_,_,_,_=>by show some (b==b)=some true;rw[ui1]
 |n+1,.str b,_,_,_,_=>by show some (b==b)=some true;rw[ui1]
 |n+1,.dic,_,_,h,_=>absurd rfl h
 |n+1,.obj _,_,h,_,_=>by simp[smD] at h
 |n+1,.scr _,_,h,_,_=>by simp[smD] at h
 |n+1,.ty _,_,h,_,_=>by simp[smD] at h
theorem GO:∀(n:Nat) (s:Sh),s.depth<=n->wf s=true->∀d,Ah s d=true->smD d=true/\dpt d<=s.depth/\∀m,s.depth<=m->eqN m d d=some true
 |0,s,h,_,_,_=>absurd s.depth_pos (by lia)
 |n+1,s,hs,hw,d,hf=>by
   have l2:(Str.ofString "of").length<=300:=by decide +kernel
   cases s with
   |nothing=>
     cases d<;>simp[Ah,Gp] at hf
     refine⟨rfl,by simp[dpt,Sh.depth],λm hm=>?_⟩;have:=(Sh.nothing).depth_pos;obtain⟨m,rfl⟩:∃k,m=k+1:=iz (by lia);exact DB _ _ (by simp[dpt]) rfl (by simp) (by simp)
   |number lo hi=>
     simp only[wf,uh1,ug4] at hw
     cases d<;>simp[Ah] at hf
     rename_i i;have sm:smD (.int i)=true:=by
      simp only[smD,uh1,ug4];lia
     refine⟨sm,by simp[dpt,Sh.depth],λm hm=>?_⟩;rw[Sh.depth] at hm;obtain⟨m,rfl⟩:∃k,m=k+1:=iz (by lia);exact DB _ _ (by simp[dpt]) sm (by simp) (by simp)
   |text q=>
     simp only[wf,uh1,ug4] at hw
     cases d<;>simp[Ah] at hf
     rename_i x;have sm:smD (.str x)=true:=by
      simp only[smD,ug4];lia
     refine⟨sm,by simp[dpt,Sh.depth],λm hm=>?_⟩;rw[Sh.depth] at hm;obtain⟨m,rfl⟩:∃k,m=k+1:=iz (by lia);exact DB _ _ (by simp[dpt]) sm (by simp) (by simp)
   |list s q=>
     simp only[wf,uh1,ug4] at hw;rw[Sh.depth] at hs
     cases d<;>simp only[Ah,ue9] at hf
     rename_i ds;rw[uh1,ug4,uh5] at hf;have ih:=λd m=>GO n s (by lia) hw.2 d (hf.2 d m);have sm:smD (.lst ds)=true:=by
      rw[smD,uh1,ug4];exact⟨by lia,SD λd m=>(ih d m).1⟩
     have dd:FZ ds<=s.depth:=ON λd m=>(ih d m).2.1;refine⟨sm,by rw[dpt,Sh.depth];lia,λm hm=>?_⟩;rw[Sh.depth] at hm;obtain⟨m,rfl⟩:∃k,m=k+1:=iz (by lia);refine DB _ _ (by rw[dpt];lia) sm (by simp) λxs e x hx=>?_;rcases e with e|e
     .cases e;exact(ih x hx).2.2 m (by lia)
     .cases e
   |pair s r=>
     simp only[wf,uh1] at hw;rw[Sh.depth] at hs;unfold Ah at hf
     split at hf
     case h_2=>cases hf
     case h_1 a b=>
      rw[uh1] at hf;have i1:=GO n s (by lia) hw.1 a hf.1;have i2:=GO n r (by lia) hw.2 b hf.2;have sm:smD (.tup [a,b])=true:=by simp[smD,sms,i1.1,i2.1]
      have h1:=i1.2.1;have h2:=i2.2.1;refine⟨sm,by simp only[dpt,FZ,Sh.depth];lia,λm hm=>?_⟩;rw[Sh.depth] at hm;obtain⟨m,rfl⟩:∃k,m=k+1:=iz (by lia);refine DB _ _ (by simp only[dpt,FZ];lia) sm (by simp) λxs e x hx=>?_;rcases e with e|e
      .cases e
      .cases e
       simp only[uk9,uh6,jV] at hx;rcases hx with rfl|rfl
       .exact i1.2.2 m (by lia)
       .exact i2.2.2 m (by lia)
   |choice ss=>
     simp only[wf,uh1,ug4] at hw;rw[Sh.depth] at hs;unfold Ah at hf
     split at hf
     case h_2=>cases hf
     case h_1 o k x=>
      simp only[uh1,ug4] at hf;obtain⟨⟨ho,k0,k1⟩,hf⟩:=hf;have hk:k.toNat<ss.length:=by lia
      have e1:ss[k.toNat]?=some ss[k.toNat]:=ub3 hk;rw[Cc ss _ _ _ e1] at hf;have hd:=Cd ss _ _ e1;have ih:=GO n _ (by lia) (DZ hw.2 _ (uh7 hk)) x hf;have ho':o.length<=300:=by
       have:o=("of":Str):=by simpa[Hz] using ho
       subst this;exact l2
      have sm:smD (.tup [.str o,.int k,x])=true:=by
       simp only[smD,sms,ih.1,ul6,uh1,ug4,ug7,uj2];lia
      have h1:=ih.2.1;have h2:=OM x;have p1:=(ss[k.toNat]).depth_pos;refine⟨sm,by simp only[dpt,FZ,Sh.depth];lia,λm hm=>?_⟩;rw[Sh.depth] at hm;obtain⟨m,rfl⟩:∃k,m=k+1:=iz (by lia);refine DB _ _ (by simp only[dpt,FZ];lia) sm (by simp) λxs e y hy=>?_;rcases e with e|e
      .cases e
      .cases e
       obtain⟨m',rfl⟩:∃k,m=k+1:=iz (by lia);simp only[uk9,uh6,jV] at hy;rcases hy with rfl|rfl|rfl
       .exact DB _ _ (by simp[dpt]) (by simp[smD,ho']) (by simp) (by simp)
       .exact DB _ _ (by simp[dpt]) (by simp only[smD,uh1,ug4];lia) (by simp) (by simp)
       .exact ih.2.2 _ (by lia)
variable{t:T}{P:D->T->Prop}
theorem Es{d:D}{g:Bool->Bool}(h0:Ub d=false)(h:eqN EQD d d=some true)(p:P (.bl (g true)) t):W (eqS g d d) t P:=⟨_,_,by simp[eqS,h0,h],p⟩
theorem KM:∀ns:List Int,GQ (ns.map .int)=some ns
 |[]=>rfl
 |n::r=>by rw[ul0,GQ,KM r];rfl
structure ValueRes(k c l:Nat)(S:List Ob)(s:Sh)(r:D)(S':List Ob):Prop where
 fit:Ah s r=true
 lft:∃a b:Int,S'[l]?=some (.lst [.int a,.int b])
 deck:DeckAt k c S'
 kp:Po k c l S S'
theorem Jm{f:M (List D)}{P:Out->T->Prop}(h:W f t λds t1=>P (.ret (.lst ds)) t1):W (HJ f) t P:=W_bnd.mpr (h.mono λ_ _ p=>W_ret.mpr p)
theorem Gk{g:Fn}{f:M (List D)}{P:List D->T->Prop}(h:W f t λds t1=>Wf g ds t1.S λr S'=>∃rs,r=.lst rs/\P rs ⟨t1.env,S'⟩):W (DC g f) t P:=by
 refine W_bnd.mpr (h.mono λds t1 z9=>?_);clear 5 z9 r S' e rs er p;subst er;exact⟨rs,⟨t1.env,S'⟩,by simp only[e],p⟩
variable{i:Nat}{xs:List D}
theorem Pg{P:Out->T->Prop}(e:t.env[i]?=some (some (.own xs)))(h:P (.ret (.lst xs)) ⟨t.env.set i none,t.S⟩):W (Gg i) t P:=⟨_,_,by simp only[Gg,e],h⟩
theorem cB{i:Int}(h:P (.int (Builtin.Int.intBits i:Nat)) t):W (Kk (.int i)) t P:=⟨_,_,rfl,h⟩
theorem fA{i j:Int}(h0:0<=j)(h:P (.int (i/2 ^ j.toNat)) t):W (Od (.int i) (.int j)) t P:=⟨_,_,by simp[Od,i2C,h0],h⟩
variable{ys:List D}{t1:T}
theorem eR{A:List D->Prop}(e:t1.env[i]?=some (some (.own xs)))(l:xs.length+ys.length<=LIM)(w:A (xs++ys)):∃xs,t1.env[i]?=some (some (.own xs))/\∃zs,EW xs [.lst ys]=some zs/\A zs:=
 ⟨xs,e,xs++ys,by simp[EW,l],w⟩
theorem FW{f:M Bool}{b:M Out}{P:Out->T->Prop}(I:Nat->T->Prop)(turn:∀n t,I n t->W f t λk t1=>match k with
 |true=>∃m,n=m+1/\W b t1 λo t2=>match o with
   |.next=>I m t2
   |.cont=>I m t2
   |.brk=>P .next t2
   |.ret x=>P (.ret x) t2
 |false=>P .next t1):∀(fuel n:Nat) (t:T),n<fuel->I n t->W (Do f b fuel) t P
 |0,n,t,h,_=>absurd h (Nat.not_lt_zero _)
 |fuel+1,n,t,h,i=>by
   clear 5(turn n t i)k t1 e1 p
   cases k with
   |false=>exact⟨_,_,by simp only[Do,e1],p⟩
   |true=>
     clear 5 p m rfl o t2 e2 p
     cases o with
     |next=>clear 5(FW I turn fuel m t2 (by lia) p)o t' e' p;exact⟨o,t',by simp only[Do,e1,e2];exact e',p⟩
     |cont=>clear 5(FW I turn fuel m t2 (by lia) p)o t' e' p;exact⟨o,t',by simp only[Do,e1,e2];exact e',p⟩
     |brk=>exact⟨_,_,by simp only[Do,e1,e2],p⟩
     |ret x=>exact⟨_,_,by simp only[Do,e1,e2],p⟩
noncomputable def wid(n:Nat):Nat:=if n=0 then 0 else n.log2/8+1
theorem RD(h:2<=n):n.log2=(n/2).log2+1:=by rw[Nat.log2_def,jY h]
theorem Ui(h:n<2):n.log2=0:=by rw[Nat.log2_def,jZ (by lia)]
theorem NE:∀(k:Nat){n:Nat},2 ^ k<=n->n.log2=(n/2 ^ k).log2+k
 |0,n,_=>by rw[jK,Nat.div_one,um7]
 |k+1,n,h=>by
   have h2:2 ^ k*2<=n:=by rw[<-um8];exact h
   have h3:2<=n/2 ^ k:=(Nat.le_div_iff_mul_le (Nat.pow_pos (by decide))).mpr (by rw[jJ];exact h2);rw[NE k (um4 (Nat.le_mul_of_pos_right _ (by decide)) h2),RD h3,uc2,<-um8,ul8,Nat.add_comm 1 k]
theorem Ug(h:256<=n):n.log2=(n/256).log2+8:=NE 8 h
theorem Uh(h:n<256):n.log2<8:=by
 by_cases z:n=0
 .subst z;rw[Ui (by lia)];lia
 .exact(Nat.log2_lt z).mpr h
theorem HS(h:0<n):wid n=wid (n/256)+1:=by
 unfold wid;rw[jZ (by lia)]
 by_cases z:n<256
 .have:=Uh z;rw[jY (by lia)];lia
 .rw[jZ (by lia),Ug (by lia)];lia
theorem IM:∀(k n:Nat),n<256 ^ k->wid n<=k
 |0,n,h=>by
   have:n=0:=by simpa using h
   subst this;decide
 |k+1,n,h=>by
   by_cases z:n=0
   .subst z;exact un5 _
   .rw[HS (by lia)];have:=IM k (n/256) (Nat.div_lt_of_lt_mul (by rw[um8] at h;lia));lia
theorem Ti(n:Nat):((Builtin.Int.intBits (n:Int):Nat)+7)/8=wid n:=by
 unfold Builtin.Int.intBits wid
 by_cases z:n=0
 .subst z;rfl
 .have:((n:Int)==0)=false:=by simp;exact z
  rw[this,jZ (by simp),jZ z,Int.natAbs_natCast];lia
noncomputable def nb:Nat->Nat->List D
 |0,_=>[]
 |w+1,n=>nb w (n/256)++[.int ((n%256:Nat):Int)]
theorem NO:∀w n,(nb w n).length=w
 |0,n=>rfl
 |w+1,n=>by rw[nb,ue8,NO];rfl
theorem R0:∀w n:Nat,(List.range w).map (λk=>D.int ((n/2 ^ (8*(w-1-k))%256:Nat):Int))=nb w n
 |0,n=>rfl
 |w+1,n=>by
   rw[uj5,uj6,nb,<-R0 w (n/256)]
   congr 1
   .refine ue0 λk hk=>?_;rw[uk2] at hk;have e:8*(w+1-1-k)=8+8*(w-1-k):=by lia
    rw[e,Nat.pow_add,uc2]
   .simp
mutual
def Av:Sh->D->List D
 |.nothing,_=>[]
 |.number lo hi,d=>match d with
   |.int i=>nb (wid (hi-lo).toNat) (i-lo).toNat
   |_=>[]
 |.text _,d=>match d with
   |.str x=>.int (x.length:Nat)::x.cps.toList.map λn=>D.int (n:Nat)
   |_=>[]
 |.list s _,d=>match d with
   |.lst ds=>.int (ds.length:Nat)::(ds.map λd=>Av s d).flatten
   |_=>[]
 |.pair s r,d=>match d with
   |.tup [a,b]=>Av s a++Av r b
   |_=>[]
 |.choice ss,d=>match d with
   |.tup [_,.int k,x]=>.int k::Kl ss k.toNat x
   |_=>[]
def Kl:List Sh->Nat->D->List D
 |[],_,_=>[]
 |s::_,0,d=>Av s d
 |_::r,k+1,d=>Kl r k d
end
theorem El:∀(ss:List Sh) (k:Nat) (s:Sh) (d:D),ss[k]?=some s->Kl ss k d=Av s d
 |[],k,s,d,h=>by simp at h
 |s::r,0,s',d,h=>by simp at h;subst h;simp[Kl]
 |s::r,k+1,s',d,h=>by rw[Kl];exact El r k s' d (by simpa using h)
def IN(f:Fn)(n:Nat):Prop:=∀(s:Sh),s.depth<=n->wf s=true->∀d,Ah s d=true->(Av s d).length<=LIM->Pure1 f [s.d,d] (.lst (Av s d))
def HY(f:Fn):Prop:=∀(n j:Nat),j<=1000->Pure1 f [.int n,.int j] (.int ((n/2 ^ (8*j):Nat):Int))
theorem Wz:HY (fnOf 2 2 Iv):=by
 intro n j hj S;refine Ak rfl ?_;unfold Iv;right;refine Qz (WI (by decide) (by decide)) ?_;refine fA (by lia) ?_;refine⟨?_,rfl⟩;have:(8*(j:Int)).toNat=8*j:=by lia
 rw[this];simp
def Kj(f:Fn):Prop:=∀n:Nat,n<256 ^ 9->Pure1 f [.int n] (.int (wid n:Nat))
theorem Vb:Kj (fnOf 1 1 FC):=by
 intro n _ S;refine Ak rfl ?_;unfold FC;right;refine cB ?_;right;refine⟨?_,rfl⟩;rw[<-Ti];simp
def MN(f:Fn):Prop:=∀(n w:Nat),w<=1000->Pure1 f [.int n,.int w] (.lst (nb w n))
theorem G0(i:Int)(n:Nat):rngL i n=(List.range n).map λk:Nat=>D.int (i+k):=by
 rfl
theorem WP(hc:HY c):MN (fnOf 2 2 (E6 c)):=by
 intro n w hw S;have hL:LIM=100000:=rfl;refine Ak rfl ?_;unfold E6;refine Jm ?_;right;refine U7 (by rw[Be (by decide) (by decide),Be (by lia) (by lia)];rfl) ?_;refine(Fj (f:=λd=>match d with | .int k=>.int ((n/2 ^ (8*(w-k.toNat))%256:Nat):Int)|_=>d) (fr:=[vw (.int n),vw (.int w)]) ?_).mono ?_
 .intro d m;rw[G0] at m;clear 5(um9.mp m)k hk rfl;rw[uk2] at hk;right;have e:((w:Int)-(1+(k:Int)))=((w-(1+k):Nat):Int):=by lia
  rw[e];refine(hc n (w-(1+k)) (by lia)).use ?_;right;refine⟨?_,rfl⟩;have e2:(1+(k:Int)).toNat=1+k:=by lia
  dsimp only;rw[e2];simp
 .rintro xs t' ⟨rfl,hS⟩;have hn:((w:Int)+1-1).toNat=w:=by lia
  rw[G0,hn];refine AY (by simp only[ui4,List.length_range,hL];lia) ?_;refine⟨?_,hS⟩;rw[<-R0 w n,un0]
  congr 1
  refine ue0 λk hk=>?_;rw[uk2] at hk;have e2:(1+(k:Int)).toNat=1+k:=by lia
  have e3:w-(1+k)=w-1-k:=by lia
  simp only[Function.comp,e2,e3]
theorem Pe{lo hi:Int}(h:wf (.number lo hi)=true):(hi-lo).toNat<256 ^ 9:=by
 simp only[wf,uh1,ug4] at h;have:(256:Nat) ^ 9=4722366482869645213696:=by decide
 lia
theorem QX(x:Str):(x.cps.toList.map λc=>D.str ⟨#[c]⟩).map (λd=>match d with | .str y=>D.int (y.cps.getD 0 0:Nat)|_=>d)=x.cps.toList.map λn=>D.int (n:Nat):=by
 rw[un0];refine ue0 λn _=>?_;rfl
variable{cn:Fn}
theorem We(hc:IN c n)(hw:Kj cw)(hn:MN cn):IN (fnOf 2 5 (EH c cw cn)) (n+1):=by
 intro s hs hwf d hf hlen S;have hL:LIM=100000:=rfl;refine Ak rfl ?_;unfold EH
 cases s with
 |nothing=>
   rw[Sh.d];right;refine Jm ?_;right;exact⟨by rw[Av],rfl⟩
 |number lo hi=>
   have hsp:=Pe hwf;have hwd:=IM 9 _ hsp;simp only[wf,uh1,ug4] at hwf
   cases d<;>simp[Ah] at hf
   rename_i i;rw[Sh.d];right;refine Jm (Gk ?_);right;have e1:hi-lo=(((hi-lo).toNat:Nat):Int):=by lia
   have e2:i-lo=(((i-lo).toNat:Nat):Int):=by lia
   rw[e1,e2];refine(hw _ hsp).use ?_;right;refine(hn _ _ (by lia)).use ?_;exact⟨_,rfl,by rw[Av],rfl⟩
 |text q=>
   simp only[wf,uh1,ug4] at hwf
   cases d<;>simp[Ah] at hf
   rename_i x;rw[Sh.d];right;refine Jm ?_;refine CO ?_;right;refine MJ (by rw[hL];lia) ?_;right;refine(Fj (f:=λd=>match d with | .str y=>D.int (y.cps.getD 0 0:Nat)|_=>d) (fr:=[]) ?_).mono ?_
   .intro d m;clear 5(um9.mp m)k hk rfl;right;refine aK rfl ?_;exact⟨rfl,rfl⟩
   .rintro xs t' ⟨rfl,hS⟩;rw[QX];have hl:x.cps.toList.length<=250:=by rw[<-Fr];lia
    refine AY (by rw[ui4,hL];lia) ?_;right;refine AY (by simp only[ui4,ug7,uj2,hL];lia) ?_;exact⟨by rw[Av];rfl,hS⟩
 |list s q=>
   simp only[wf,uh1,ug4] at hwf;rw[Sh.depth] at hs
   cases d<;>simp only[Ah,ue9] at hf
   rename_i ds;rw[uh1,ug4,uh5] at hf;rw[Av] at hlen⊢;rw[Sh.d];right;refine BE (λr t=>∃(z:Option Sl) (acc:List D),t=⟨[vw (.tup [.str "list",s.d,.int q]),vw (.lst ds),vw (.str "list"),some (.own acc),z],S⟩/\acc++(r.map λd=>Av s d).flatten=.int (ds.length:Nat)::(ds.map λd=>Av s d).flatten) _ _ ⟨_,_,rfl,rfl⟩ ?_ ?_
   .rintro d r t ⟨z,acc,rfl,hacc⟩ m;rw[ul0,uf7,<-uf8] at hacc;have hl:acc.length+(Av s d).length<=LIM:=by
     have:=jT List.length hacc;rw[ue8,ue8] at this;lia
    right;refine Gk ?_;right;refine(hc s (uc3 hs) hwf.2 d (hf.2 d m) (um4 (uj7 _ _) hl)).use ⟨_,rfl,?_⟩;right;refine eR rfl hl ?_;exact⟨_,_,rfl,hacc⟩
   .rintro t ⟨z,acc,rfl,hacc⟩;rw[um6,List.flatten_nil,ui6] at hacc;right;refine Pg rfl ?_;exact⟨by rw[hacc],rfl⟩
 |pair s r=>
   simp only[wf,uh1] at hwf;rw[Sh.depth] at hs;unfold Ah at hf
   split at hf
   case h_2=>cases hf
   case h_1 a b=>
    rw[uh1] at hf;rw[Av] at hlen⊢;rw[ue8] at hlen;rw[Sh.d];right;refine Jm ?_;refine CO ?_;right;refine Gk ?_;right;refine(hc s (um4 (Nat.le_max_left _ _) (uc3 hs)) hwf.1 a hf.1 (um4 (uh4 _ _) hlen)).use ⟨_,rfl,?_⟩;refine CO ?_;right;refine Gk ?_;right;refine(hc r (um4 (Nat.le_max_right _ _) (uc3 hs)) hwf.2 b hf.2 (um4 (uj7 _ _) hlen)).use ⟨_,rfl,?_⟩;right;refine AY hlen ?_;exact⟨rfl,rfl⟩
 |choice ss=>
   simp only[wf,uh1,ug4] at hwf;rw[Sh.depth] at hs;unfold Ah at hf
   split at hf
   case h_2=>cases hf
   case h_1 o k x=>
    simp only[uh1,ug4] at hf;obtain⟨⟨ho,k0,k1⟩,hf⟩:=hf;have hk:k.toNat<ss.length:=by lia
    have e1:ss[k.toNat]?=some ss[k.toNat]:=ub3 hk;have hl:=Ds ss;have e2:atI (shD ss) k=some (ss[k.toNat]).d:=by
     unfold atI;rw[Bm k0 (by lia)];show(shD ss)[k.toNat]?=_;rw[FQ,e1];rfl
    rw[Cc ss _ _ _ e1] at hf;rw[Av] at hlen⊢;rw[El ss _ _ _ e1] at hlen⊢;rw[ug7] at hlen;rw[Sh.d];right;refine Jm ?_;right;refine Gk ?_;right;refine Fd e2 ?_;right;refine(hc _ (um4 (Cd ss _ _ e1) (uc3 hs)) (DZ hwf.2 _ (uh7 hk)) x hf (Nat.le_of_succ_le hlen)).use ⟨_,rfl,?_⟩;right;refine AY (by simp only[ug7,uj2];lia) ?_;exact⟨rfl,rfl⟩
theorem KY(a:Int)(n:Nat):(rngL a n).length=n:=by simp[rngL]
variable{j:Nat}
theorem LL{a:Int}{d:D}{r:List D}(e:d::r=(rngL a n).drop j):d=.int (a+j)/\r=(rngL a n).drop (j+1)/\j<n:=by
 have hj:j<(rngL a n).length:=by
  rcases jL j (rngL a n).length with h|h
  .exact h
  .rw[jc h] at e;cases e
 rw[ub1 hj] at e;injection e with e1 e2
 rw[KY] at hj;refine⟨?_,e2,hj⟩;rw[e1];simp[rngL]
noncomputable def sgs:Str:=" !\"#$ &'()*+,-./0123456789:;<=>?@ABCDEFGHIJKLMNOPQRSTUVWXYZ[\\]^_`abcdefghijklmnopqrstuvwxyz{|}~"
theorem af{c:Nat}(h:Bs c=true):atI sgs.cps.toList ((c:Int)-32)=some c:=by
 have hl:sgs.cps.toList.length=95:=by decide +kernel
 have hall:(List.range 127).all (λc=>!Bs c||decide (sgs.cps.toList[c-32]?=some c))=true:=by decide +kernel
 have h':=h;simp only[Bs,uh1,ug4] at h';have:=uh5.mp hall c (uk2.mpr (by lia));rw[h,jD,ul5,ug4] at this;rw[show((c:Int)-32)=((c-32:Nat):Int) by lia];exact IT this
variable{f:M D}
section
variable{t:T}{P:D->T->Prop}{R:Out->T->Prop}
def UZ(h:D->M Out)(R:Out->T->Prop)(o:Out)(t1:T):Prop:=match o with
 |.ret (.exc n ds)=>n∈Bv/\W (h (.exc n ds)) t1 R
 |o=>R o t1
theorem fE{b:M Out}{h:D->M Out}(w:W b t (UZ h R)):W (Fc b h) t R:=by
 clear 5 w o t1 e q;have rest:∀d,A2 d=false->o=.ret d->W (Fc b h) t R:=λd hd ho=>by
  subst ho;refine⟨.ret d,t1,?_,?_⟩
  .unfold Fc;rw[e];cases d<;>first|rfl|cases hd
  .cases d<;>first|exact q|cases hd
 cases o with
 |next=>exact⟨.next,t1,by unfold Fc;rw[e],q⟩
 |brk=>exact⟨.brk,t1,by unfold Fc;rw[e],q⟩
 |cont=>exact⟨.cont,t1,by unfold Fc;rw[e],q⟩
 |ret d=>
   cases d with
   |exc n ds=>
     clear 5 q hn o2 t2 e2 q2;exact⟨o2,t2,by unfold Fc;rw[e];dsimp only;rw[jY hn,e2],q2⟩
   |_=>exact rest _ rfl rfl
theorem SL{h:D->M Out}(q:R .next t1):UZ h R .next t1:=q
theorem XW{h:D->M Out}{n:Str}(e:n∈Bv)(q:W (h (.exc n ds)) t1 R):UZ h R (.ret (.exc n ds)) t1:=⟨e,q⟩
def xK(d:D)(A B:Prop):Prop:=if A2 d=true then A else B
theorem QE{d:D}{A B:Prop}(e:A2 d=false)(b:B):xK d A B:=by unfold xK;rw[jZ (by rw[e];decide)];exact b
theorem c6{d:D}{A B:Prop}(e:A2 d=true)(a:A):xK d A B:=by unfold xK;rw[jY e];exact a
theorem cU(w:W f t λd t1=>xK d (R (.ret d) t1) (R .next ⟨t1.env.set i (vw d),t1.S⟩)):W (CV i f) t R:=by
 refine CO (w.mono λd t1 q=>?_);unfold xK at q
 split at q
 .next h=>rw[jY h];exact⟨_,_,rfl,q⟩
 .next h=>rw[jZ h];exact⟨_,_,rfl,q⟩
theorem wNx(w:W f t λd t1=>A2 d=false/\P d t1):W (nxD f) t P:=by
 refine CO (w.mono λd t1 z9=>?_);clear 5 z9 h q;rw[jZ (by rw[h];decide)];exact⟨_,_,rfl,q⟩
theorem VC{g:M D}{h:D->M D}(w:W g t λy t1=>xK y (P y t1) (W (h y) t1 λd t2=>A2 d=false/\P d t2)):W (Lj g h) t P:=by
 refine CO (w.mono λy t1 q=>?_);unfold xK at q
 split at q
 .next z=>rw[jY z];exact⟨_,_,rfl,q⟩
 .next z=>rw[jZ z];exact wNx q
theorem cA{g:M D}{h:D->D->M D}(w:W f t λx t1=>W (Lj g (h x)) t1 P):W (Ff f g h) t P:=CO w
theorem aA{g:Fn}(w:W f t λy t1=>xK y (P y t1) (Wf g [y] t1.S λr S'=>A2 r=false/\P r ⟨t1.env,S'⟩)):W (KA g f) t P:=by
 refine VC (w.mono λy t1 q=>?_);unfold xK at q⊢
 split at q
 .next z=>rw[jY z];exact q
 .next z=>
  rw[jZ z];clear 5 q r S' e q1;exact⟨r,⟨t1.env,S'⟩,by dsimp only;rw[e],q1⟩
theorem X6{n:Str}{f:M (List D)}(w:W f t λds t1=>∃d,ds=[d]/\R (.ret (.exc n [d])) t1):W (IG n f) t R:=
 CO (w.mono λds t1 ⟨d,e,q⟩=>by subst e;exact⟨_,_,rfl,q⟩)
theorem X5{n:Str}{f:M (List D)}(w:W f t λds t1=>ds.length<=1000/\R (.ret (.exc n [])) t1):W (IF n f) t R:=
 CO (w.mono λds t1 ⟨e,q⟩=>by rw[jY e];exact⟨_,_,rfl,q⟩)
theorem X7{n:Str}(w:W f t λd t1=>R (.ret (.exc n [d])) t1):W (IG n (Ab f Ad)) t R:=X6 (EO (w.mono λd t1 q=>JW ⟨d,rfl,q⟩))
theorem X8{n:Str}(w:W f t λ_ t1=>R (.ret (.exc n [])) t1):W (IF n (Ab f Ad)) t R:=X5 (EO (w.mono λd t1 q=>JW ⟨by show 1<=1000;decide,q⟩))
theorem eV{n n':Str}{s:M Out}{r:D->M Out}(e:Gj n n'=true)(w:W s {t with env:=t.env.set i (vw (.exc n ds))} λo t2=>R o (unE i t2)):W (hAs n' i s r (.exc n ds)) t R:=by
 clear 5 w o t2 e1 q;exact⟨o,unE i t2,by unfold hAs;dsimp only;rw[jY e,e1],q⟩
theorem eW{n n':Str}{s:M Out}{r:D->M Out}(e:Gj n n'=true)(w:W s t R):W (hNo n' s r (.exc n ds)) t R:=by
 clear 5 w o t2 e1 q;exact⟨o,t2,by unfold hNo;dsimp only;rw[jY e,e1],q⟩
theorem cz{m n:Str}{d:D}(e:m∈Bv)(l:((JI m).zip ds).lookup n=some d)(q:P d t):W (Ib n (.exc m ds)) t P:=⟨_,_,by unfold Ib;dsimp only;rw[jY e,l];rfl,q⟩
theorem ME{g:Fn}{Q:D->List Ob->Prop}(w:Wf g ds S λr S'=>A2 r=false/\Q r S'):Wf (GJ g) ds S Q:=by
 clear 5 w r S' e h q;exact⟨r,S',by unfold GJ;rw[e];dsimp only;rw[jZ (by rw[h];decide)],q⟩
end
local macro_rules | `(tactic| walk_at"x1")=>`(tactic| first
 |walk_at"w1" |clear 31 fE cU wNx cA VC aA SL|clear 33 XW|clear 32 QE|clear 32 c6|clear 31 X7 X8|clear 33 eV|clear 33 eW|((with_reducible refine' cz ?wv ?wu ?_);(case wv=>decide);(case wu=>exact rfl)))
local macro_rules | `(tactic| left)=>`(tactic| repeat (walk_at"x1"))
set_option genInjectivity false in inductive Rd where
 |done (v:D)
 |need (ok:Nat->Bool) (nx:Nat->Rd)
set_option genInjectivity false in inductive RR where
 |told (v:D) (a:Nat)
 |short
 |broken (a:Nat)
noncomputable def Rd.run:Rd->List Nat->Nat->RR
 |.done v,_,a=>.told v a
 |.need ok nx,w,a=>match w[a]? with
   |none=>.short
   |some b=>if ok b=true then(nx b).run w (a+1) else .broken a
noncomputable def Rd.bnd:Rd->(D->Rd)->Rd
 |.done v,k=>k v
 |.need ok nx,k=>.need ok λb=>(nx b).bnd k
def RR.thn(r:RR)(w:List Nat)(k:D->Rd):RR:=match r with
 |.told v a=>(k v).run w a
 |.short=>.short
 |.broken a=>.broken a
variable{w:List Nat}{a:Nat}
theorem Cq{ok:Nat->Bool}{nx:Nat->Rd}(h:w[a]?=none):(Rd.need ok nx).run w a=.short:=by rw[Rd.run,h]
variable{b:Nat}
theorem Bd{ok:Nat->Bool}{nx:Nat->Rd}(h:w[a]?=some b):(Rd.need ok nx).run w a=if ok b=true then(nx b).run w (a+1) else .broken a:=by rw[Rd.run,h]
theorem DX(k:D->Rd)(w:List Nat):∀(p:Rd) (a:Nat),(p.bnd k).run w a=(p.run w a).thn w k:=by
 intro p
 induction p with
 |done v=>intro a;rfl
 |need ok nx ih=>
   intro a;rw[Rd.bnd]
   cases h:w[a]? with
   |none=>rw[Cq h,Cq h];rfl
   |some b=>
     rw[Bd h,Bd h]
     by_cases q:ok b=true
     .rw[jY q,jY q];exact ih b (a+1)
     .rw[jZ q,jZ q];rfl
variable{v:D}
theorem Hb:∀(p:Rd) (a:Nat),a<=w.length->p.run w a=.told v b->a<=b/\b<=w.length:=by
 intro p
 induction p with
 |done v'=>intro a ha h;cases h;exact⟨un4 _,ha⟩
 |need ok nx ih=>
   intro a ha h
   cases e:w[a]? with
   |none=>rw[Cq e] at h;cases h
   |some c=>
     rw[Bd e] at h;have hl:=(ua9.mp e).1
     by_cases q:ok c=true
     .rw[jY q] at h;have:=ih c (a+1) hl h;lia
     .rw[jZ q] at h;cases h
def Rd.good:Rd->Prop
 |.done _=>True
 |.need ok nx=>(ok 0=true\/ok 32=true)/\∀b,ok b=true->(nx b).good
noncomputable def HG(lo:Int)(M:Nat):Nat->Nat->Rd
 |0,x=>.done (.int (lo+x))
 |r+1,x=>.need (λb=>decide (x*256+b<=M/2 ^ (8*r))) λb=>HG lo M r (x*256+b)
def IB:Nat->List Nat->Rd
 |0,cs=>.done (.str ⟨cs.toArray⟩)
 |n+1,cs=>.need Bs λc=>IB n (cs++[c])
def HF(p:Rd):Nat->List D->Rd
 |0,ds=>.done (.lst ds)
 |n+1,ds=>p.bnd λv=>HF p n (ds++[v])
def pSh:Nat->Sh->Rd
 |0,_=>.done .non
 |_+1,.nothing=>.done .non
 |_+1,.number lo hi=>HG lo (hi-lo).toNat (wid (hi-lo).toNat) 0
 |_+1,.text q=>.need (λb=>decide ((b:Int)<=q)) λb=>IB b []
 |n+1,.list s q=>.need (λb=>decide ((b:Int)<=q)) λb=>HF (pSh n s) b []
 |n+1,.pair s r=>(pSh n s).bnd λv=>(pSh n r).bnd λu=>.done (.tup [v,u])
 |n+1,.choice ss=>.need (λb=>decide (b<ss.length)) λb=>(pSh n (ss.getD b .nothing)).bnd λv=>.done (.tup [.str "of",.int b,v])
mutual
noncomputable def plD:D->Bool
 |.lst xs=>pls xs
 |.tup xs=>pls xs
 |.obj _=>false
 |.scr _=>false
 |.ty _=>false
 |.exc _ _=>false
 |.dic=>false
 |_=>true
noncomputable def pls:List D->Bool
 |[]=>true
 |d::r=>plD d&&pls r
end
theorem Tp{k:Int}(h0:0<=k)(h1:k<=xs.length):Bu xs none (some k)=xs.take k.toNat:=by
 have:HT.sIx xs.length xs.length (some k)=k.toNat:=by simp only[HT.sIx];rw[jZ (by lia)];lia
 unfold Bu;rw[this];simp[HT.sIx]
noncomputable def pos(i:Int):Int:=if 0<i then i else 0
structure ValueRes2(k c l:Nat)(S:List Ob)(s:Sh)(a b:Int)(r:D)(S':List Ob):Prop where
 fit:Ah s r=true
 lft:∃a' b':Int,S'[l]?=some (.lst [.int a',.int b'])/\((Av s r).length:Int)<=9*(a-a')+(pos b-pos b')/\pos b'<=pos b/\1<=a-a'/\a-a'<=cnt s+(14*(s.depth:Int))*pos a
 deck:DeckAt k c S'
 kp:Po k c l S S'
mutual
noncomputable def szE:D->Nat
 |.lst xs=>1+UW xs
 |.tup xs=>1+UW xs
 |_=>1
noncomputable def UW:List D->Nat
 |[]=>0
 |d::r=>szE d+UW r
end
structure VOk(s:Sh)(v:D):Prop where
 fit:Ah s v=true
 len:(Av s v).length<=14809
local macro_rules | `(tactic| walk_at"y1")=>`(tactic| first
 |walk_at"x1")
local macro_rules | `(tactic| symm)=>`(tactic| repeat (walk_at"y1"))
noncomputable def wD(w:List Nat):List D:=w.map λ(n:Nat)=>D.int (n:Int)
theorem Bi(w:List Nat):(wD w).length=w.length:=by unfold wD;rw[ui4]
theorem SS(h:w[a]?=some b):(wD w)[a]?=some (.int (b:Int)):=by unfold wD;rw[uf5,h];rfl
abbrev exS:D:=.exc "Short" []
abbrev exB(a:Nat):D:=.exc "Broken" [.int (a:Int),.non]
noncomputable def rrD:RR->D
 |.told v b=>.tup [v,.int (b:Int)]
 |.short=>exS
 |.broken a=>exB a
noncomputable def byX:Option Nat->D
 |none=>exS
 |some b=>.int (b:Int)
noncomputable def upX(m:Int)(a:Nat):Option Nat->D
 |none=>exS
 |some b=>if (b:Int)<=m then .int (b:Int) else exB a
def sgX(a:Nat):Option Nat->D
 |none=>exS
 |some c=>if Bs c=true then .str ⟨#[c]⟩ else exB a
def RX(c:Fn)(s:Sh)(p:Rd):Prop:=∀(w:List Nat) (a:Nat),a<=w.length->Pure1 c [s.d,.lst (wD w),.int (a:Int)] (rrD (p.run w a))
noncomputable def seg(w:List Nat)(a b:Nat):List Nat:=(w.drop a).take (b-a)
theorem Gm(x y:List Nat):wD (x++y)=wD x++wD y:=by unfold wD;rw[uj6]
theorem O2:∀(r y:Nat),nb (r+1) y=.int ((y/256 ^ r%256:Nat):Int)::nb r y
 |0,y=>by rw[nb,nb,nb,jK,Nat.div_one];rfl
 |r+1,y=>by
   rw[show nb (r+1+1) y=nb (r+1) (y/256)++[.int ((y%256:Nat):Int)] from rfl,O2 r (y/256),uh8,show nb (r+1) y=nb r (y/256)++[.int ((y%256:Nat):Int)] from rfl,uc2,show 256*256 ^ r=256 ^ (r+1) by rw[um8,jJ]]
variable{kvs:List (Key×D)}
theorem BJ{d:D}(e:t.S[n]?=some (.dct kvs))(e2:Bg kvs (.inr x)=some d)(h:P d t):W (A6 (.obj n) (.str x)) t P:=
 ⟨d,t,by simp only[A6,e,e2];rfl,h⟩
theorem Op{g:M D}{d:D}{U:Unit->T->Prop}(h:W f t λo t1=>W g t1 λi t2=>W (Ha o i d) t2 U):W (Gu f g d) t U:=CO (h.mono λo t1 h1=>CO h1)
theorem Ei{d:D}{U:Unit->T->Prop}(e:t.S[n]?=some (.dct kvs))(hl:kvs.length<LIM)(h:U () ⟨t.env,t.S.set n (.dct (CG kvs (.inr x) d))⟩):W (Ha (.obj n) (.str x) d) t U:=
 ⟨(),_,by simp only[Ha,e,jY hl],h⟩
theorem aL{g:M D}{xs0:List D}(e:t.env[i]?=some (some (.own xs0)))(h:W g t λj t1=>∃n xs d,j=.int n/\t1.env[i]?=some (some (.own xs))/\atI xs n=some d/\P d t1):W (GN i g) t P:=by
 clear 5 h j t1 e1 n xs d rfl e2 e3 p;refine⟨d,t1,?_,p⟩;unfold GN;simp only[e];show bnd g _ t=_;unfold bnd;simp only[e1,e2,e3];rfl
theorem Jl{l:List (Str×M D)}(h:W (D7 l) ⟨t.env,t.S++[.dct []]⟩ λps t1=>t1.S[t.S.length]?=some (.dct [])/\ps.length<=15/\P (.obj t.S.length) ⟨t1.env,t1.S.set t.S.length (.dct (AT ps))⟩):W (FI l) t P:=by
 clear 5 h ps t1 e1 e2 e3 p;refine⟨_,_,?_,p⟩;unfold FI bnd;simp only[e1];unfold FO;simp only[e2,jY e3]
theorem Et{Q:List (Key×D)->T->Prop}(h:Q [] t):W (D7 []) t Q:=⟨_,_,rfl,h⟩
theorem Bt{k:Str}{r:List (Str×M D)}{Q:List (Key×D)->T->Prop}(h:W f t λd t1=>W (D7 r) t1 λps t2=>Q ((.inr k,d)::ps) t2):W (D7 ((k,f)::r)) t Q:=
 CO (h.mono λd t1 h1=>CO (h1.mono λps t2 h2=>⟨_,_,rfl,h2⟩))
set_option genInjectivity false in structure St where
 rest:Int
 mixed:Bool
 turn:Int
noncomputable def St.ob(s:St):Ob:=.dct [(.inr (Str.ofString "rest"),.int s.rest),(.inr (Str.ofString "mixed"),.bl s.mixed),(.inr (Str.ofString "turn"),.int s.turn)]
noncomputable def take(s:St)(m:Int):Int×St:=
 if s.mixed=false then(s.rest%m,⟨s.rest/m,s.mixed,s.turn⟩)
 else
  let stir:=(s.rest%2147483579+70001*(s.turn+1))%2147483579
  let rest:=(stir*stir%2147483563*50021+7)%2147483579
  (rest/5%m,⟨rest,s.mixed,s.turn+1⟩)
theorem Cp(a:Int)(n:Nat):(rngL a n).length=n:=by simp[rngL]
set_option genInjectivity false in inductive GS where
 |fin
 |st (side:Str) (ws:List (Str×Sh×Int))
def wdD(w:Str×Sh×Int):D:=.tup [.str w.1,w.2.1.d,.int w.2.2]
def GS.d:GS->D
 |.fin=>.tup [.str (Str.ofString "end")]
 |.st side ws=>.tup [.str side,.lst (ws.map wdD)]
noncomputable def GS.isFin:GS->Bool
 |.fin=>true
 |_=>false
theorem Di{a:Int}{d:D}{r:List D}(e:d::r=(rngL a n).drop j):d=.int (a+j)/\r=(rngL a n).drop (j+1)/\j<n:=by
 have hj:j<(rngL a n).length:=by
  rcases jL j (rngL a n).length with h|h
  .exact h
  .rw[jc h] at e;cases e
 rw[ub1 hj] at e;injection e with e1 e2
 rw[Cp] at hj;refine⟨?_,e2,hj⟩;rw[e1];simp[rngL]
structure WOk(n:Int)(w:Str×Sh×Int):Prop where
 ok:wf w.2.1=true
 dep:w.2.1.depth<=3
 lo:0<=w.2.2
 hi:w.2.2<n
 nm:w.1.length<=90000
inductive GSOk(n:Int):GS->Prop
 |fin:GSOk n .fin
 |st {side:Str}{ws:List (Str×Sh×Int)}:(side=Str.ofString "left"\/side=Str.ofString "right")->0<ws.length->ws.length<=9->(ws.map (·.1)).Nodup->(∀w∈ws,WOk n w)->GSOk n (.st side ws)
structure GOk(g:List GS):Prop where
 ne:0<g.length
 le:g.length<=30
 all:∀x∈g,GSOk g.length x
def Ej(f:Fn):Prop:=∀(n:Int) (x:GS),GSOk n x->Pure1 f [x.d] (.bl x.isFin)
theorem Ru:Ej (fnOf 1 1 JL):=by
 intro n x hx S;refine Ak rfl ?_;unfold JL
 cases hx with
 |fin=>
   rw[GS.d];right;exact⟨by simp[GS.isFin],rfl⟩
 |st hs _ _ _ _=>
   rw[GS.d];right;refine⟨?_,rfl⟩;rcases hs with rfl|rfl<;>simp[GS.isFin]
def GS.words:GS->D
 |.fin=>.tup []
 |.st _ ws=>.lst (ws.map wdD)
noncomputable def GS.ws:GS->List (Str×Sh×Int)
 |.fin=>[]
 |.st _ ws=>ws
def ER(f:Fn):Prop:=∀(n:Int) (x:GS),GSOk n x->Pure1 f [x.d] x.words
variable{ce:Fn}
theorem Vc(he:Ej ce):ER (fnOf 1 1 (HC ce)):=by
 intro n x hx S;refine Ak rfl ?_;unfold HC
 cases x with
 |fin=>
   right;refine(he n .fin hx).use ?_;right;exact⟨rfl,rfl⟩
 |st side ws=>
   right;refine(he n (.st side ws) hx).use ?_;rw[GS.d];right;exact⟨rfl,rfl⟩
noncomputable def GW:Option Nat->D
 |some i=>.int i
 |none=>.non
def FU(f:Fn):Prop:=∀(n:Int) (x:GS) (nm:Str),GSOk n x->Pure1 f [x.d,.str nm] (GW (x.ws.findIdx? λw=>w.1==nm))
theorem Io{p:α->Bool}{l:List α}(h:∀i (hi:i<l.length),i<j->p l[i]=false){x:α}(hx:l[j]?=some x)(hp:p x=true):l.findIdx? p=some j:=by
 clear 5(ua9.mp hx)hj e;rw[ua0];exact⟨hj,by rw[e];exact hp,λi hi=>by simpa using h i (by lia) hi⟩
theorem GX(hw:ER cw):FU (fnOf 2 4 (Cz cw)):=by
 intro n x nm hx S;refine Ak rfl ?_;unfold Cz;right;refine(hw n x hx).use ?_;have key:∀(ws:List (Str×Sh×Int)) (d:D),ws.length<=9->(∀(t:T) (P:D->T->Prop),P (.int ws.length) t->W (AO [d]) t P)->(∀(t:T) (P:D->T->Prop) (i:Nat) (w:Str×Sh×Int),ws[i]?=some w->P (wdD w) t->W (ixD d (.int i)) t P)->
  W (Ae (Bn (BV (Ab (fB (Ab (Aa 2) Ad) AO) Ad)) (Aw 3)
  (ifS (Am (Ac (Ac (Ac (Aa 2) (Aa 3) ixD) (gh 0) ixD) (Aa 1) (eqS id)))
  (Al (Aa 3))
  As))
 (Al (fC .non))) ⟨[vw x.d,vw (.str nm),vw d,none],S⟩ λo t=>match o with
   |.ret r=>r=GW (ws.findIdx? λw=>w.1==nm)/\t.S=S
   |.next=>D.non=GW (ws.findIdx? λw=>w.1==nm)/\t.S=S
   |_=>False:=by
   intro ws d hl len ix;right;refine len _ _ ?_;right;refine FE (Be (by lia) (by lia)) ?_;refine BE (λr t=>∃(j:Nat) (e3:Option Sl),(∀i (hi:i<ws.length),i<j->(ws[i].1==nm)=false)/\j<=ws.length/\r=(rngL 0 ((ws.length:Nat):Int).toNat).drop j/\t=⟨[vw x.d,vw (.str nm),vw d,e3],S⟩) _ _ ⟨0,none,λi hi h=>absurd h (by lia),by lia,rfl,rfl⟩ ?_ ?_
   .rintro d' r t ⟨j,e3,hj,hjl,hr,rfl⟩ _;clear 5(Di hr)rfl hr' hjn;rw[uf6] at hjn;have e:ws[j]?=some ws[j]:=ub3 hjn;rw[un1];right;refine ix _ _ j _ e ?_;unfold wdD;right;refine BB (λq=>?_) λq=>?_
    .right;refine⟨?_,rfl⟩;rw[Io hj e q];rfl
    .right;refine⟨j+1,_,λi hi hij=>?_,by lia,hr',rfl⟩;rcases jL i j with h|h
     .exact hj i hi h
     .have:i=j:=by lia
      subst this;exact q
   .rintro t ⟨j,e3,hj,hjl,hr,rfl⟩;have hj':j=ws.length:=by
     have:=jT List.length hr;rw[uj2,uh0,Cp,uf6] at this;lia
    subst hj';right;refine⟨?_,rfl⟩;rw[im.mpr]
    .rfl
    .intro w hw';clear 5(List.mem_iff_getElem.mp hw')i hi rfl;exact hj i hi hi
 cases hx with
 |fin=>
   refine Ep ?_;refine key [] (.tup []) (by decide) (λt P h=>VG h) λt P i w e h=>?_;simp at e
 |@st side ws h1 h2 h3 h4 h5=>
   refine Ep ?_;refine key ws (.lst (ws.map wdD)) h3 (λt P h=>Qy (by rw[ui4];exact h)) λt P i w e h=>?_;obtain⟨hi,_⟩:=ua9.mp e;refine AM ?_ h;unfold atI;rw[Bm (by lia) (by rw[ui4];lia)];show(ws.map wdD)[(i:Int).toNat]?=_;rw[uf6,uf5,e];rfl
theorem VX{x:Int}:eqN n (.int x) (.int x)=some true:=by
 cases n<;>(show some (x==x)=some true;rw[ui1])
theorem VZ(h:∀x∈xs,eqN n x x=some true):eqN (n+1) (.tup xs) (.tup xs)=some true:=by
 rw[eqN,DA h];simp
theorem VY(h:∀x∈xs,eqN n x x=some true):eqN (n+1) (.lst xs) (.lst xs)=some true:=by
 rw[eqN,jY rfl,DA h]
noncomputable def GS.side:GS->Str
 |.fin=>Str.ofString "end"
 |.st s _=>s
noncomputable def An(g:List GS)(q:Nat):GS:=g.getD q .fin
def wdAt(g:List GS)(q p:Nat):Str×Sh×Int:=(An g q).ws.getD p (Str.ofString "",.nothing,0)
def nextQ(g:List GS)(q p:Nat):Nat:=(wdAt g q p).2.2.toNat
def D3(g:List GS)(q p:Nat)(v:D):D:=.tup [.str (An g q).side,.str (wdAt g q p).1,v]
abbrev Mv:=Nat×D
def Aj(g:List GS):Nat->List Mv->Nat
 |q,[]=>q
 |q,(p,_)::r=>Aj g (nextQ g q p) r
def Ao(g:List GS):Nat->List Mv->List D
 |_,[]=>[]
 |q,(p,v)::r=>D3 g q p v::Ao g (nextQ g q p) r
def Bh(g:List GS):Nat->List Mv->List D
 |_,[]=>[]
 |q,(p,_)::r=>.tup [.int q,.int p]::Bh g (nextQ g q p) r
structure MvOk(g:List GS)(q:Nat)(p:Nat)(v:D):Prop where
 lt:q<g.length
 pl:p<(An g q).ws.length
 fit:Ah (wdAt g q p).2.1 v=true
def okQ(g:List GS):Nat->List Mv->Prop
 |_,[]=>True
 |q,(p,v)::r=>MvOk g q p v/\okQ g (nextQ g q p) r
theorem Fp(g:List GS):∀(q:Nat) (a b:List Mv),Aj g q (a++b)=Aj g (Aj g q a) b
 |q,[],b=>rfl
 |q,(p,v)::r,b=>by rw[uh8,Aj,Aj,Fp g _ r b]
theorem Mm(g:List GS):∀(q:Nat) (a b:List Mv),Ao g q (a++b)=Ao g q a++Ao g (Aj g q a) b
 |q,[],b=>rfl
 |q,(p,v)::r,b=>by rw[uh8,Ao,Ao,Aj,Mm g _ r b];rfl
theorem FM(g:List GS):∀(q:Nat) (a b:List Mv),Bh g q (a++b)=Bh g q a++Bh g (Aj g q a) b
 |q,[],b=>rfl
 |q,(p,v)::r,b=>by rw[uh8,Bh,Bh,Aj,FM g _ r b];rfl
theorem GU(g:List GS):∀(q:Nat) (a b:List Mv),okQ g q (a++b)↔okQ g q a/\okQ g (Aj g q a) b
 |q,[],b=>by simp[okQ,Aj]
 |q,(p,v)::r,b=>by rw[uh8,okQ,okQ,Aj,GU g _ r b,and_assoc]
theorem AN(g:List GS):∀(q:Nat) (a:List Mv),(Ao g q a).length=a.length
 |q,[]=>rfl
 |q,(p,v)::r=>by rw[Ao,ug7,AN g _ r,ug7]
theorem DY(g:List GS):∀(q:Nat) (a:List Mv),(Bh g q a).length=a.length
 |q,[]=>rfl
 |q,(p,v)::r=>by rw[Bh,ug7,DY g _ r,ug7]
theorem KQ(g:List GS):∀(q:Nat) (a:List Mv) (i:Nat),(Ao g q a).take i=Ao g q (a.take i)
 |q,[],i=>by simp[Ao]
 |q,(p,v)::r,0=>rfl
 |q,(p,v)::r,i+1=>by rw[Ao,ue1,ue1,Ao,KQ g _ r i]
theorem Fs(g:List GS):∀(q:Nat) (a:List Mv) (i:Nat) (p:Nat) (v:D),a[i]?=some (p,v)->(Ao g q a)[i]?=some (D3 g (Aj g q (a.take i)) p v)
 |q,[],i,p,v,h=>by simp at h
 |q,(p',v')::r,0,p,v,h=>by
   simp at h;clear 5 h rfl rfl;rfl
 |q,(p',v')::r,i+1,p,v,h=>by
   rw[Ao,iX,Fs g _ r i p v (by simpa using h),ue1,Aj]
variable{g:List GS}{q:Nat}
theorem E7{a:List Mv}(h:okQ g q a)(i:Nat):okQ g q (a.take i):=by
 rw[<-ud1 i a,GU] at h;exact h.1
theorem GV{a:List Mv}(h:okQ g q a){i p:Nat}{v:D}(e:a[i]?=some (p,v)):MvOk g (Aj g q (a.take i)) p v:=by
 clear 5(ua9.mp e)hi e';have hd:a.drop i=(p,v)::a.drop (i+1):=by rw[ub1 hi,e']
 rw[<-ud1 i a,GU,hd,okQ] at h;exact h.2.1
theorem A9(h:GOk g){q:Nat}(hq:q<g.length):GSOk g.length (An g q):=by
 unfold An;rw[ua7,ub3 hq];exact h.all _ (uh7 hq)
theorem Bj(hq:q<g.length):atI (g.map GS.d) q=some (An g q).d:=by
 unfold atI;rw[Bm (by lia) (by rw[ui4];lia)];show(g.map GS.d)[(q:Int).toNat]?=_;unfold An;rw[uf6,uf5,ua7,ub3 hq];rfl
variable{p:Nat}
theorem Fg(hp:p<(An g q).ws.length):∃side ws,An g q=.st side ws/\p<ws.length/\ws[p]?=some (wdAt g q p):=by
 unfold wdAt
 cases e:An g q with
 |fin=>rw[e] at hp;simp[GS.ws] at hp
 |st side ws=>
   rw[e] at hp;have hp:p<ws.length:=hp;refine⟨side,ws,rfl,hp,?_⟩;show ws[p]?=some (ws.getD p _);rw[ua7,ub3 hp];rfl
theorem DP{ws:List (Str×Sh×Int)}{w:Str×Sh×Int}(e:ws[p]?=some w):atI (ws.map wdD) p=some (wdD w):=by
 obtain⟨hp,_⟩:=ua9.mp e;unfold atI;rw[Bm (by lia) (by rw[ui4];lia)];show(ws.map wdD)[(p:Int).toNat]?=_;rw[uf6,uf5,e];rfl
theorem Fi(h:GOk g){q p:Nat}(hq:q<g.length)(hp:p<(An g q).ws.length):WOk g.length (wdAt g q p):=by
 clear 5(Fg hp)side ws e hp' e2;have:=A9 h hq;rw[e] at this
 cases this with
 |st _ _ _ _ h5=>exact h5 _ (ud4 e2)
theorem WL(h:GOk g){q p:Nat}(hq:q<g.length)(hp:p<(An g q).ws.length):nextQ g q p<g.length:=by
 have:=Fi h hq hp;unfold nextQ;have h1:=this.lo;have h2:=this.hi;lia
theorem DR{g:List GS}(h:GOk g):∀{a:List Mv}{q:Nat},q<g.length->okQ g q a->Aj g q a<g.length
 |[],q,hq,_=>hq
 |(p,v)::r,q,hq,hk=>by
   rw[okQ] at hk;rw[Aj];exact DR h (WL h hq hk.1.pl) hk.2
theorem KF{ws:List (Str×Sh×Int)}(nd:(ws.map (·.1)).Nodup){p:Nat}{w:Str×Sh×Int}(e:ws[p]?=some w):(ws.findIdx? λx=>x.1==w.1)=some p:=by
 clear 5(ua9.mp e)hp ep;refine Io (λi hi hip=>?_) e (by simp);rw[<-ep];have hne:¬ws[i].1=ws[p].1:=λz=>by
  have h1:i<(ws.map (·.1)).length:=by rw[ui4];exact hi
  have h2:p<(ws.map (·.1)).length:=by rw[ui4];exact hp
  have:(ws.map (·.1))[i]=(ws.map (·.1))[p]:=by rw[List.getElem_map,List.getElem_map];exact z
  have:=(ug6 nd).mp this;lia
 simpa using hne
theorem O3:∀{xs:List D},(∀d∈xs,okD d=true)->oks xs=true
 |[],_=>by rw[oks]
 |d::r,h=>by rw[oks,h d ue4,O3 λx m=>h x (ud2 _ m)];rfl
theorem EZ:∀(n:Nat) (s:Sh),s.depth<=n->wf s=true->∀v,Ah s v=true->okD v=true
 |0,s,h,_,_,_=>absurd s.depth_pos (by lia)
 |n+1,s,hd,hw,v,h=>by
   cases s with
   |nothing=>cases v<;>first|rfl|(simp[Ah,Gp] at h;done)
   |number lo hi=>cases v<;>first|rfl|(simp[Ah] at h;done)
   |text q=>
     simp only[wf,uh1,ug4] at hw
     cases v<;>simp only[Ah,ue9] at h
     simp only[uh1,ug4] at h;rw[okD,ug4];lia
   |list s q=>
     rw[Sh.depth] at hd;simp only[wf,uh1,ug4] at hw
     cases v<;>simp only[Ah,ue9] at h
     simp only[uh1,ug4,uh5] at h;rw[okD];exact O3 λd m=>EZ n s (by lia) hw.2 d (h.2 d m)
   |pair a b=>
     rw[Sh.depth] at hd;simp only[wf,uh1] at hw;unfold Ah at h
     split at h
     .rw[uh1] at h;rw[okD,oks,oks,oks,EZ n a (by lia) hw.1 _ h.1,EZ n b (by lia) hw.2 _ h.2];rfl
     .cases h
   |choice ss=>
     rw[Sh.depth] at hd;simp only[wf,uh1,ug4] at hw;unfold Ah at h
     split at h
     .next o k x=>
      simp only[uh1,ug4] at h;have hk:k.toNat<ss.length:=by lia
      have e1:ss[k.toNat]?=some ss[k.toNat]:=ub3 hk;have h2:=h.2;rw[Cc ss _ _ _ e1] at h2;have ho:o=("of":Str):=eq_of_beq h.1.1;have hx:=EZ n _ (um4 (Cd ss _ _ e1) (by lia)) (DZ hw.2 _ (uh7 hk)) x h2;subst ho;have hl:okD (.str ("of":Str))=true:=by decide +kernel
      rw[okD,oks,oks,oks,oks,hl,hx];rfl
     .cases h
def Hg(f:Fn):Prop:=∀(g:List GS) (q p:Nat) (v:D),GOk g->MvOk g q p v->Pure1 f [(An g q).d,D3 g q p v] (.int p)
variable{cf:Fn}
theorem MB(hf:FS cf 3)(hp:FU cp):Hg (fnOf 2 3 (DJ cf cp)):=by
 intro g q p v hg hm S;refine Ak rfl ?_;unfold DJ;clear 5(Fg hm.pl)side ws e hpl ew;have hgs:=A9 hg hm.lt;have hw:=Fi hg hm.lt hm.pl;have hfit:=hm.fit;unfold D3;rw[e] at hgs⊢;generalize wdAt g q p=w at ew hw hfit⊢;have hov:okD v=true:=EZ 3 w.2.1 hw.dep hw.ok v hfit;show W _ ⟨[vw (.tup [.str side,.lst (ws.map wdD)]),vw (.tup [.str side,.str w.1,v]),none],S⟩ _;right;refine Ea (by simp) ?_;right;have hpn:=hp g.length (.st side ws) w.1 hgs;have hidx:((GS.st side ws).ws.findIdx? λx=>x.1==w.1)=some p:=by
  cases hgs with
  |st _ _ _ h4 _=>exact KF h4 ew
 rw[hidx] at hpn;refine hpn.use ?_;show D5 _ _ .next ⟨[vw (.tup [.str side,.lst (ws.map wdD)]),vw (.tup [.str side,.str w.1,v]),vw (.int p)],S⟩;right;refine AM (DP ew) ?_;unfold wdD;right;refine(hf w.2.1 hw.dep v hov).use ?_;rw[hfit];right;exact⟨rfl,rfl⟩
def GM(f:Fn):Prop:=∀(g:List GS) (q p:Nat),GOk g->q<g.length->p<(An g q).ws.length->Pure1 f [.lst (g.map GS.d),.tup [.int q,.int p]] (.int (nextQ g q p))
theorem WM:GM (fnOf 2 2 Ga):=by
 intro g q p hg hq hp S;refine Ak rfl ?_;unfold Ga;clear 5(Fg hp)side ws e hpl ew;have hw:=Fi hg hq hp;have hlo:=hw.lo;right;refine AM (Bj hq) ?_;rw[e,GS.d];right;refine AM (DP ew) ?_;unfold wdD;right;refine⟨?_,rfl⟩;unfold nextQ
 congr 1
 lia
variable{a0 a1 e5 e6:Option Sl}{y:D}{X Y:List D}
theorem t7{e4:Option Sl}{x:D}(h:x=y)(h2:X=Y):(⟨[a0,a1,vw x,some (.own X),e4,e5,e6],S⟩:T)=⟨[a0,a1,vw y,some (.own Y),e4,e5,e6],S⟩:=by subst h h2;rfl
abbrev kR:Key:=.inr (Str.ofString "rest")
abbrev kM:Key:=.inr (Str.ofString "mixed")
abbrev kC:Key:=.inr (Str.ofString "count")
abbrev bO(a b c:D):List (Key×D):=[(kR,a),(kM,b),(kC,c)]
def Room(k r:Nat)(S:List Ob):Prop:=∃(a c:Int) (b:Bool),S[k]?=some (.dct (bO (.int a) (.bl b) (.int c)))/\0<=c/\c+r<=1000000000000000000000000000000
theorem A4{k:Nat}{o':Ob}(h:S[k]?=some o):(S.set k o')[k]?=some o':=IZ h
theorem Dp{x:Ob}:(S++[x])[S.length]?=some x:=by simp
noncomputable def cs:Nat->Nat
 |0=>10
 |d+1=>10+3*cs d
structure Drawn(k r:Nat)(dp:Nat)(v:D)(S':List Ob):Prop where
 ex:∃s:Sh,v=s.d/\s.depth<=dp/\wf s=true
 pool:Room k r S'
variable{ss:List Sh}
theorem bT{k:Nat}(h:k<ss.length):atI (shD ss) (k:Int)=some (ss[k]).d:=by
 unfold atI;rw[Bm (by lia) (by rw[Ds];lia)];show(shD ss)[(k:Int).toNat]?=_;rw[uf6,FQ,ub3 h];rfl
noncomputable def vB:Nat->Nat
 |0=>10
 |m+1=>10+vB m*3
structure Val(k r:Nat)(s:Sh)(c:Nat)(v:D)(S':List Ob):Prop where
 fit:Ah s v=true
 len:(Av s v).length<=c
 pool:Room k r S'
def hd1(x:Str):Option Nat:=x.cps.toList.head?
def okB(g:List GS):Nat->List Mv->Prop
 |_,[]=>True
 |q,(p,v)::r=>(Av (wdAt g q p).2.1 v).length<=400/\okB g (nextQ g q p) r
structure TOk(g:List GS)(mv:List Mv):Prop where
 ok:okQ g 0 mv
 bd:okB g 0 mv
 len:mv.length<=60
theorem VL{k:Nat}{h:List D->List D->Option (List D)}{g:M (List D)}(w:W f t λo t1=>o=.obj k/\∃xs0,t1.S[k]?=some (.lst xs0)/\W g t1 λds t2=>∃xs ys,t2.S[k]?=some (.lst xs)/\h xs ds=some ys/\P .non ⟨t2.env,t2.S.set k (.lst ys)⟩):W (objM h f g) t P:=by
 unfold objM;refine W_bnd.mpr (w.mono λo t1 z9=>?_);clear 5 z9 e xs0 e1 w;subst e;clear 5 w ds t2 e2 xs ys e3 e4 p;refine⟨_,_,?_,p⟩;simp only[e1,bnd,e2,e3,e4];rfl
def Ai(g:List GS)(sd:Str):Nat->List Mv->List D
 |_,[]=>[]
 |q,(p,v)::r=>(if (An g q).side=sd then .int p::Av (wdAt g q p).2.1 v else [])++Ai g sd (nextQ g q p) r
theorem DO(g:List GS)(sd:Str):∀(q:Nat) (a b:List Mv),Ai g sd q (a++b)=Ai g sd q a++Ai g sd (Aj g q a) b
 |q,[],b=>rfl
 |q,(p,v)::r,b=>by rw[uh8,Ai,Ai,Aj,DO g sd _ r b,uf8]
theorem K5(g:List GS):∀(q:Nat) (a:List Mv) (i:Nat) (p:Nat) (v:D),a[i]?=some (p,v)->(Bh g q a)[i]?=some (.tup [.int (Aj g q (a.take i)),.int p])
 |q,[],i,p,v,h=>by simp at h
 |q,(p',v')::r,0,p,v,h=>by
   simp at h;clear 5 h rfl rfl;rfl
 |q,(p',v')::r,i+1,p,v,h=>by
   rw[Bh,iX,K5 g _ r i p v (by simpa using h),ue1,Aj]
abbrev kL:Key:=.inr (Str.ofString "left")
abbrev kRt:Key:=.inr (Str.ofString "right")
theorem kLR:¬kL=kRt:=by intro h;injection h with h;rw[Iy] at h;exact absurd h (by decide)
theorem kRL:¬kRt=kL:=λh=>kLR h.symm
theorem sLR:¬Str.ofString "left" = Str.ofString "right":=λh=>kLR (jT Sum.inr h)
theorem Jc{a b:D}:Bg [(kL,a),(kRt,b)] kL=some a:=by simp[Bg,uj1]
theorem Jd{a b:D}:Bg [(kL,a),(kRt,b)] kRt=some b:=by
 unfold Bg;rw[uj1,show decide (kL=kRt)=false from uk1 kLR];simp[uj1]
theorem F4{a b:D}:AT [(kL,a),(kRt,b)]=[(kL,a),(kRt,b)]:=by
 unfold AT;simp only[ui9,List.foldl_nil];have e1:CG [] kL a=[(kL,a)]:=by simp[CG]
 rw[e1];unfold CG;rw[jZ (by simp only[ul2,List.any_nil,ul1,ug4];exact kLR)];rfl
theorem WC{a b d:D}:CG [(kL,a),(kRt,b)] kL d=[(kL,d),(kRt,b)]:=by
 unfold CG;rw[jY (by simp)];simp only[ul0,um6,jW,jZ kRL]
theorem WD{a b d:D}:CG [(kL,a),(kRt,b)] kRt d=[(kL,a),(kRt,d)]:=by
 unfold CG;rw[jY (by simp)];simp only[ul0,um6,jW,jZ kLR]
theorem LU(hg:GOk g){q p:Nat}{v:D}(h:MvOk g q p v):(An g q).side=Str.ofString "left"\/(An g q).side=Str.ofString "right":=by
 clear 5(Fg h.pl)side ws e hpl ew;have:=A9 hg h.lt;rw[e] at this⊢
 cases this with
 |st hs _ _ _ _=>exact hs
abbrev sL:Str:=Str.ofString "left"
abbrev sR:Str:=Str.ofString "right"
structure Wr(K A B:Nat)(S:List Ob)(xs ys:List D):Prop where
 k:S[K]?=some (.dct [(kL,.obj A),(kRt,.obj B)])
 a:S[A]?=some (.lst xs)
 b:S[B]?=some (.lst ys)
 ab:A≠B
 ka:K≠A
 kb:K≠B
theorem K0{x:Ob}(h:i≠j)(e:S[j]?=some o):(S.set i x)[j]?=some o:=by rw[ud3 h];exact e
variable{B:Nat}
theorem Wr.setA{K A:Nat}{zs:List D}(h:Wr K A B S xs ys):Wr K A B (S.set A (.lst zs)) zs ys:=⟨K0 (Ne.symm h.ka) h.k,IZ h.a,K0 h.ab h.b,h.ab,h.ka,h.kb⟩
theorem Wr.setB{K A:Nat}{zs:List D}(h:Wr K A B S xs ys):Wr K A B (S.set B (.lst zs)) xs zs:=⟨K0 (Ne.symm h.kb) h.k,K0 (Ne.symm h.ab) h.a,IZ h.b,h.ab,h.ka,h.kb⟩
def FrO(F:List (Nat×Ob))(k:Nat)(S:List Ob):Prop:=∀p∈F,p.1≠k/\S[p.1]?=some p.2
def FAll(F:List (Nat×Ob))(S:List Ob):Prop:=∀p∈F,S[p.1]?=some p.2
theorem FAll.app{F:List (Nat×Ob)}{ex:List Ob}(h:FAll F S):FAll F (S++ex):=λp hp=>by rw[ub0 (ua9.mp (h p hp)).1];exact h p hp
def aS(F:List (Nat×Ob))(k r:Nat)(S:List Ob):Prop:=Room k r S/\FrO F k S
structure ValF(F:List (Nat×Ob))(k r:Nat)(s:Sh)(c:Nat)(v:D)(S':List Ob):Prop where
 fit:Ah s v=true
 len:(Av s v).length<=c
 pool:aS F k r S'
noncomputable def GS.sd:GS->Str
 |.fin=>Str.ofString "end"
 |.st s _=>s
inductive Odd(x:GS):D->Prop
 |non:Odd x .non
 |lst {ds:List D}:Odd x (.lst ds)
 |two {a b:D}:Odd x (.tup [a,b])
 |four {a b c d:D}:Odd x (.tup [a,b,c,d])
 |sideN {b c:D}:Odd x (.tup [.non,b,c])
 |side {s:Str}{b c:D}:¬s=x.sd->Odd x (.tup [.str s,b,c])
 |nmN {s:Str}{c:D}:Odd x (.tup [.str s,.non,c])
 |nmI {s:Str}{i:Int}{c:D}:Odd x (.tup [.str s,.int i,c])
 |nm {s nm:Str}{c:D}:(x.ws.findIdx? λw=>w.1==nm)=none->Odd x (.tup [.str s,.str nm,c])
 |val {s nm:Str}{c:D}{p:Nat}{w:Str×Sh×Int}:(x.ws.findIdx? λw=>w.1==nm)=some p->x.ws[p]?=some w->okD c=true->Ah w.2.1 c=false->Odd x (.tup [.str s,.str nm,c])
def Jy(f:Fn):Prop:=∀(n:Int) (x:GS) (d:D),GSOk n x->Odd x d->Pure1 f [x.d,d] .non
theorem KU{x d:D}(h:tyD d=some "NoneType"\/tyD d=some "int"):Pure1 (fnOf 2 4 (Cz cw)) [x,d] .non:=by
 intro S;refine Ak rfl ?_;unfold Cz;rcases h with h|h
 .right;refine U4 h rfl ?_;right;exact⟨rfl,rfl⟩
 .right;refine U4 h rfl ?_;right;exact⟨rfl,rfl⟩
def Lg(f:Fn):Prop:=FU f/\(∀x:D,Pure1 f [x,.non] .non)/\∀(x:D) (i:Int),Pure1 f [x,.int i] .non
theorem UC(hw:ER cw):Lg (fnOf 2 4 (Cz cw)):=⟨GX hw,λx=>KU (.inl rfl),λx i=>KU (.inr rfl)⟩
theorem Sj(hf:FS cf 3)(hp:Lg cp):Jy (fnOf 2 3 (DJ cf cp)):=by
 intro n x d hx hd S;refine Ak rfl ?_;unfold DJ
 -- the state's first word
 obtain⟨sd,rest,ex,esd⟩:∃(sd:Str) (rest:List D),x.d=.tup (.str sd::rest)/\sd=x.sd:=by cases x<;>exact⟨_,_,rfl,rfl⟩
 cases hd with
 |non=>right;exact⟨rfl,rfl⟩
 |lst=>right;exact⟨rfl,rfl⟩
 |two=>right;exact⟨rfl,rfl⟩
 |four=>right;exact⟨rfl,rfl⟩
 |sideN=>right;exact⟨rfl,rfl⟩
 |@side s b c hs=>
   rw[<-esd] at hs;rw[ex];right;refine HA (by simpa using hs) ?_;right;exact⟨rfl,rfl⟩
 |@nmN s c=>
   have hq:=hp.2.1 x.d;rw[ex] at hq⊢;right;refine BB (λq=>?_) λq=>?_
   .right;exact⟨rfl,rfl⟩
   .right;refine hq.use ?_;right;exact⟨rfl,rfl⟩
 |@nmI s i c=>
   have hq:=hp.2.2 x.d i;rw[ex] at hq⊢;right;refine BB (λq=>?_) λq=>?_
   .right;exact⟨rfl,rfl⟩
   .right;refine hq.use ?_;right;exact⟨rfl,rfl⟩
 |@nm s nm c hnm=>
   have hq:=hp.1 n x nm hx;rw[hnm,GW] at hq;rw[ex] at hq⊢;right;refine BB (λq=>?_) λq=>?_
   .right;exact⟨rfl,rfl⟩
   .right;refine hq.use ?_;right;exact⟨rfl,rfl⟩
 |@val s nm c p w hnm hw hok hfit=>
   have hq:=hp.1 n x nm hx;rw[hnm,GW] at hq
   cases hx with
   |fin=>simp[GS.ws] at hw
   |@st side ws h1 h2 h3 h4 h5=>
     rw[GS.ws] at hw;have hwo:=h5 w (ud4 hw);rw[GS.d] at hq⊢;right;refine BB (λq=>?_) λq=>?_
     .right;exact⟨rfl,rfl⟩
     .right;refine hq.use ?_;right;refine AM (DP hw) ?_;unfold wdD;right;refine(hf w.2.1 hwo.dep c hok).use ?_;rw[hfit];right;exact⟨rfl,rfl⟩
def Kg(f:Fn):Prop:=∀(g:List GS) (mv:List Mv) (tl:List D),GOk g->okQ g 0 mv->mv.length+tl.length<=60000->(∀d r,tl=d::r->Odd (An g (Aj g 0 mv)) d)->
 Pure1 f [.lst (g.map GS.d),.lst (Ao g 0 mv++tl)] (match tl with|[]=>.lst (Bh g 0 mv)|_::_=>.exc "NoTalk" [.int mv.length])
theorem XR(hn:GM cn)(hp:Hg cp)(hb:Jy cp):Kg (fnOf 2 7 (Dm cn cp)):=by
 intro g mv tl hg hk hl hodd S;have hL:LIM=100000:=rfl;refine Ak rfl ?_;unfold Dm;left;rw[ue8,AN];refine FE (Be (by lia) (by lia)) ?_;refine BE (λr t=>∃(j:Nat) (e4 e5 e6:Option Sl),j<=mv.length/\r=(rngL 0 ((mv.length+tl.length:Nat):Int).toNat).drop j/\t=⟨[vw (.lst (g.map GS.d)),vw (.lst (Ao g 0 mv++tl)),vw (.int (Aj g 0 (mv.take j))),some (.own (Bh g 0 (mv.take j))),e4,e5,e6],S⟩) _ _ ⟨0,none,none,none,un5 _,rfl,rfl⟩ ?_ ?_
 .rintro d' r t ⟨j,e4,e5,e6,hj,hr,rfl⟩ _;clear 5(Di hr)rfl hr' hjn;rw[uf6] at hjn;rw[un1];have hkj:=E7 hk j;have hlt:=DR hg hg.ne hkj
  by_cases hjm:j<mv.length
  .obtain⟨p,v,hpv⟩:∃p v,mv[j]=(p,v):=⟨_,_,rfl⟩;have em:mv[j]?=some (p,v):=by rw[ub3 hjm,hpv]
   have hmv:=GV hk em;have hmsg:atI (Ao g 0 mv++tl) (j:Int)=some (D3 g (Aj g 0 (mv.take j)) p v):=by
    unfold atI;rw[Bm (by lia) (by rw[ue8,AN];lia)];show(Ao g 0 mv++tl)[(j:Int).toNat]?=_;rw[uf6,ub0 (by rw[AN];exact hjm),Fs g 0 mv j p v em]
   have htk:mv.take (j+1)=mv.take j++[(p,v)]:=by rw[ua1 hjm,hpv]
   left;refine AM (Bj hlt) ?_;left;refine AM hmsg ?_;left;refine(hp g _ p v hg hmv).use ?_;left;refine AY (by rw[DY,ug9,hL];lia) ?_;left;refine(hn g _ p hg hlt hmv.pl).use ?_;left;refine⟨j+1,_,_,_,hjm,hr',t7 ?_ ?_⟩
   .rw[htk,Fp];rfl
   .rw[htk,FM];rfl
  .have hje:j=mv.length:=by lia
   subst hje;rw[uh9] at hlt⊢
   cases tl with
   |nil=>simp at hjn
   |cons d r0=>
     have hmsg:atI (Ao g 0 mv++d::r0) (mv.length:Int)=some d:=by
      unfold atI;rw[Bm (by lia) (by rw[ue8,AN,ug7];lia)];show(Ao g 0 mv++d::r0)[(mv.length:Int).toNat]?=_;rw[uf6,ua6 (by rw[AN];exact un4 _),AN,un2];rfl
     left;refine AM (Bj hlt) ?_;left;refine AM hmsg ?_;left;refine(hb _ _ d (A9 hg hlt) (hodd d r0 rfl)).use ?_;left;exact⟨rfl,rfl⟩
 .rintro t ⟨j,e4,e5,e6,hj,hr,rfl⟩;have hz:=jT List.length hr;rw[uj2,uh0,Cp,uf6] at hz;have ht0:tl=[]:=ua3 (by lia);subst ht0;have hje:j=mv.length:=by simp at hz;lia
  subst hje;rw[uh9];left;exact⟨rfl,rfl,rfl⟩
def MU(F:List (Nat×Ob))(f:Fn):Prop:=∀(g:List GS) (mv:List Mv) (d:D) (rr:List D) (S:List Ob),GOk g->okQ g 0 mv->mv.length+(d::rr).length<=1000->Odd (An g (Aj g 0 mv)) d->FAll F S->Wf f [.lst (g.map GS.d),.lst (Ao g 0 mv++d::rr)] S λr S'=>r=.exc "NoTalk" [.int mv.length]/\FAll F S'
variable{cm:Fn}
theorem Yd{F:List (Nat×Ob)}{cs:Fn}(hs:Kg cs):MU F (fnOf 2 6 (Dn cm cs)):=by
 intro g mv d rr S hg hk hl ho hF;have hst:=hs g mv (d::rr) hg hk (by lia) (λd' r z=>by cases z;exact ho);refine Ak rfl ?_;unfold Dn;left;refine Jl ?_;refine Bt ?_;left;refine Bt ?_;left;refine Et ?_;refine⟨by simp,by show 2<=15;decide,?_⟩;refine Ep ?_;left;refine hst.use ?_;left;refine⟨rfl,?_⟩;intro p hp;have hlt:=(ua9.mp (hF p hp)).1;show((S++[Ob.dct []]++[Ob.lst []]++[Ob.lst []]).set S.length _)[p.1]?=_;rw[ud3 (um5 hlt)];exact FAll.app (FAll.app (FAll.app hF)) p hp
def Rq(n:Nat)(d:D):Prop:=∀m,n<=m->eqN m d d=some true
variable{m:Nat}
theorem Rq.mono{d:D}(h:Rq n d)(e:n<=m):Rq m d:=λk hk=>h k (um4 e hk)
theorem G4{i:Int}:Rq n (.int i):=λm _=>by cases m<;>(show some (i==i)=some true;rw[ui1])
theorem Gh{i:Str}:Rq n (.str i):=λm _=>by cases m<;>(show some (i==i)=some true;rw[ui1])
theorem G7(h:∀x∈xs,Rq n x):Rq (n+1) (.tup xs):=λm hm=>by
 obtain⟨k,rfl⟩:∃k,m=k+1:=iz (by lia);have e:Du (eqN k) xs xs=some true:=DA λx hx=>h x hx k (by lia);rw[eqN,e];simp
theorem G6(h:∀x∈xs,Rq n x):Rq (n+1) (.lst xs):=λm hm=>by
 obtain⟨k,rfl⟩:∃k,m=k+1:=iz (by lia);rw[eqN,jY rfl];exact DA λx hx=>h x hx k (by lia)
theorem dB{p:D->Prop}{a:D}(h:p a):∀x∈[a],p x:=λx hx=>by rw[uf0.mp hx];exact h
theorem dC{p:D->Prop}{a b:D}(h:p a)(h2:p b):∀x∈[a,b],p x:=λx hx=>(uk9.mp hx).elim (λe=>by rw[e];exact h) (dB h2 x)
theorem Px{p:D->Prop}{a b c:D}(h:p a)(h2:p b)(h3:p c):∀x∈[a,b,c],p x:=λx hx=>(uk9.mp hx).elim (λe=>by rw[e];exact h) (dC h2 h3 x)
def mB:Nat->Nat
 |0=>0
 |m+1=>10+vB m*2+mB m*2
structure Mis(n:Nat)(s:Sh)(v:D):Prop where
 ok:okD v=true
 no:Ah s v=false
 rq:Rq n v
structure Fit(n:Nat)(s:Sh)(v:D):Prop where
 ok:okD v=true
 fit:Ah s v=true
 rq:Rq n v
theorem YV{s:Sh}(hn:s.depth<=n)(hw:wf s=true)(h:Ah s v=true):Fit n s v:=by
 clear 5(GO s.depth s (un4 _) hw v h)h1 h2 h3;exact⟨Vw h1,h,λm hm=>h3 m (um4 hn hm)⟩
def Gr(S S':List Ob):Prop:=S.length<=S'.length/\∀i,i<S.length->S'[i]?=S[i]?
theorem Gr.trans{S S1 S2:List Ob}(a:Gr S S1)(b:Gr S1 S2):Gr S S2:=⟨um4 a.1 b.1,λi h=>(b.2 i (ue3 h a.1)).trans (a.2 i h)⟩
theorem Gr.app{ex:List Ob}:Gr S (S++ex):=⟨by rw[ue8];lia,λi h=>ub0 h⟩
theorem Gr.set{S S':List Ob}{k:Nat}{o:Ob}(a:Gr S S')(h:S.length<=k):Gr S (S'.set k o):=⟨by rw[uj8];exact a.1,λi hi=>by rw[ud3 (by lia)];exact a.2 i hi⟩
theorem Gr.get{S S':List Ob}{k:Nat}{o:Ob}(a:Gr S S')(h:S[k]?=some o):S'[k]?=some o:=by rw[a.2 k (ua9.mp h).1];exact h
abbrev lr(a b:D):List (Key×D):=[(kL,a),(kRt,b)]
abbrev dW(l r:List Nat):List (Key×D):=lr (.lst (wD l)) (.lst (wD r))
abbrev dP(a b:Nat):List (Key×D):=lr (.int a) (.int b)
noncomputable def onS{α:Type}(s:Str)(a b:α):α:=if s=sL then a else b
variable{s:Str}
theorem BI{a b:D}(h:s=sL\/s=sR):Bg (lr a b) (.inr s)=some (onS s a b):=by
 unfold onS;rcases h with rfl|rfl
 .rw[jY rfl];exact Jc
 .rw[jZ (Ne.symm sLR)];exact Jd
theorem NF{a b d:D}(h:s=sL\/s=sR):CG (lr a b) (.inr s) d=lr (onS s d a) (onS s b d):=by
 unfold onS;rcases h with rfl|rfl
 .rw[jY rfl,jY rfl];exact WC
 .rw[jZ (Ne.symm sLR),jZ (Ne.symm sLR)];exact WD
set_option genInjectivity false in inductive Sr where
 |stop
 |brk (k:Nat) (s:Str)
 |next (m:D) (h a b:Nat)
def msgR(side:Str)(ws:List (Str×Sh×Int))(w:List Nat)(p:Nat):RR×Nat:=match w[p]? with
 |none=>(.short,0)
 |some c=>match ws[c]? with
   |none=>(.broken p,0)
   |some wd=>((pSh 3 wd.2.1).run w (p+1),c)
def Iw(side:Str)(ws:List (Str×Sh×Int))(w:List Nat)(p:Nat):D:=match msgR side ws w p with
 |(.short,_)=>.non
 |(.broken k,_)=>.exc "Broken" [.int k,.str side]
 |(.told v e,c)=>.tup [.tup [.str side,.str (ws.getD c (Str.ofString "",.nothing,0)).1,v],.int (ws.getD c (Str.ofString "",.nothing,0)).2.2,.int e]
def B1(g:List GS)(wl wr:List Nat)(h a b:Nat):Sr:=match An g h with
 |.fin=>.stop
 |.st side ws=>match msgR side ws (onS side wl wr) (onS side a b) with
   |(.short,_)=>.stop
   |(.broken k,_)=>.brk k side
   |(.told v e,c)=>.next (.tup [.str side,.str (ws.getD c (Str.ofString "",.nothing,0)).1,v]) (ws.getD c (Str.ofString "",.nothing,0)).2.2.toNat (onS side e a) (onS side b e)
abbrev Rs:=List D×Nat×Nat×Nat×Option (Nat×Str)
def AR(g:List GS)(wl wr:List Nat):Nat->Nat->Nat->Nat->List D->Rs
 |0,h,a,b,t=>(t,h,a,b,none)
 |f+1,h,a,b,t=>match B1 g wl wr h a b with
   |.stop=>(t,h,a,b,none)
   |.brk k s=>(t,h,a,b,some (k,s))
   |.next m h' a' b'=>AR g wl wr f h' a' b' (t++[m])
structure Pl(g:List GS)(wl wr:List Nat)(h a b:Nat):Prop where
 h:h<g.length
 a:a<=wl.length
 b:b<=wr.length
variable{wl wr:List Nat}
theorem Zs(ha:a<=wl.length)(hb:b<=wr.length):onS s a b<=(onS s wl wr).length:=by unfold onS;split<;>assumption
variable{h:Nat}
theorem II(hg:GOk g)(p:Pl g wl wr h a b){m:D}{h' a' b':Nat}(e:B1 g wl wr h a b=.next m h' a' b'):Pl g wl wr h' a' b'/\a+b<a'+b':=by
 have hgs:=A9 hg p.h;unfold B1 at e
 cases eg:An g h with
 |fin=>rw[eg] at e;cases e
 |st side ws=>
   rw[eg] at e hgs
   cases hgs with
   |@st _ _ hs1 hs2 hs3 hs4 hs5=>
   dsimp only at e;unfold msgR at e
   cases hb:(onS side wl wr)[onS side a b]? with
   |none=>rw[hb] at e;cases e
   |some c=>
     rw[hb] at e;dsimp only at e
     cases hw:ws[c]? with
     |none=>rw[hw] at e;cases e
     |some wd=>
       rw[hw] at e;dsimp only at e;obtain⟨hpl,_⟩:=ua9.mp hb;have hwo:=hs5 wd (ud4 hw);have hlo:=hwo.lo;have hhi:=hwo.hi;have hgd:ws.getD c (Str.ofString "",.nothing,0)=wd:=by rw[ua7,hw];rfl
       cases er:(pSh 3 wd.2.1).run (onS side wl wr) (onS side a b+1) with
       |short=>rw[er] at e;cases e
       |broken k=>rw[er] at e;cases e
       |told v x=>
         rw[er] at e;dsimp only at e;rw[hgd] at e;injection e with e1 e2 e3 e4
         clear 5(Hb _ _ hpl er)l1 l2;have pa:=p.a;have pb:=p.b;subst e2;unfold onS at e3 e4 l1 l2
         by_cases q:side=sL
         .rw[jY q] at e3 e4 l1 l2;exact⟨⟨by lia,by lia,by lia⟩,by lia⟩
         .rw[jZ q] at e3 e4 l1 l2;exact⟨⟨by lia,by lia,by lia⟩,by lia⟩
theorem aG{neg:Bool}(e:t.S[n]?=some (.dct kvs))(h:P (.bl (if neg then !(Bg kvs (.inr x)).isSome else(Bg kvs (.inr x)).isSome)) t):W (inS neg (.str x) (.obj n)) t P:=
 ⟨_,_,by simp only[inS,e],h⟩
theorem aC(e:t.S[n]?=some (.dct kvs))(h:P (.obj t.S.length) ⟨t.env,t.S++[.dct kvs]⟩):W (IU [.obj n]) t P:=
 ⟨_,_,by simp only[IU,e],h⟩
theorem Ts{a b:D}:Bg (lr a b) (.inr (Str.ofString "end"))=none:=by
 have h1:decide (kL=(Sum.inr (Str.ofString "end"):Key))=false:=by decide +kernel
 have h2:decide (kRt=(Sum.inr (Str.ofString "end"):Key))=false:=by decide +kernel
 unfold Bg;rw[uj1,show decide ((kL,a).1=(Sum.inr (Str.ofString "end"):Key))=false from h1];dsimp only;rw[uj1,show decide ((kRt,b).1=(Sum.inr (Str.ofString "end"):Key))=false from h2];rfl
variable{a2 a3 e7 e8:Option Sl}
theorem t9{a6:Option Sl}{x:D}(h1:X=Y)(h2:x=y):(⟨[a0,a1,a2,a3,some (.own X),vw x,a6,e7,e8],S⟩:T)=⟨[a0,a1,a2,a3,some (.own Y),vw y,a6,e7,e8],S⟩:=by subst h1 h2;rfl
abbrev J9(xs:List D):Prop:=∀x∈xs,∃i:Int,x=.int i
theorem Mn:∀{xs:List D},J9 xs->GK xs=true
 |[],_=>rfl
 |x::r,h=>by
   clear 5(h x ue4)i rfl;rw[GK,Mn λy m=>h y (ud2 _ m)];rfl
theorem V0{L R:List D}(hl:J9 L)(hr:J9 R):eqN EQD (.tup [.lst L,.lst R]) (.tup [.lst L,.lst R])=some true:=by
 have key:∀{X:List D},J9 X->eqN (38+1) (.lst X) (.lst X)=some true:=λ{X} h=>VY λx hx=>by
  clear 5(h x hx)i rfl;exact VX
 show eqN (39+1) _ _=_;exact VZ (by simp only[List.forall_mem_cons];exact⟨key hl,key hr,λ_ z=>nomatch z⟩)
theorem eQ{g:Bool->Bool}{x d:D}(hx:FD t.S x=d)(hy:FD t.S y=d)(hp:B7 d=true)(he:eqN EQD d d=some true)(h:P (.bl (g true)) t):W (eqT g x y) t P:=
 ⟨_,_,by unfold eqT;rw[hx,hy,hp,he];rfl,h⟩
theorem Xi{A:Nat}(ha:S[A]?=some (.lst xs))(hb:S[B]?=some (.lst ys)):FD S (.tup [.obj A,.obj B])=.tup [.lst xs,.lst ys]:=by
 simp only[FD,ul0,um6,DL,ha,hb]
def isB(l:List D):Prop:=∀d∈l,∃x:Nat,d=.int (x:Int)/\x<256
theorem Rp:∀{l:List D},isB l->∃w:List Nat,l=wD w/\∀x∈w,x<256
 |[],_=>⟨[],rfl,λx z=>nomatch z⟩
 |d::r,h=>by
   clear 5(h d ue4)x rfl hx;obtain⟨w,rfl,hw⟩:=Rp λd m=>h d (ud2 _ m);refine⟨x::w,rfl,λy hy=>?_⟩;rcases uk9.mp hy with rfl|hy
   .exact hx
   .exact hw y hy
theorem OZ{a b:List D}(ha:isB a)(hb:isB b):isB (a++b):=λd h=>(ui2.mp h).elim (ha d) (hb d)
theorem F1{x:Nat}{b:List D}(hx:x<256)(hb:isB b):isB (.int (x:Int)::b):=λd h=>by
 rcases uk9.mp h with rfl|h
 .exact⟨x,rfl,hx⟩
 .exact hb d h
theorem RZ:∀(w n:Nat),isB (nb w n)
 |0,n=>λd h=>nomatch h
 |w+1,n=>OZ (RZ w _) (F1 (Nat.mod_lt _ (by decide)) λd h=>nomatch h)
theorem FX:∀(n:Nat) (s:Sh),s.depth<=n->wf s=true->∀v,Ah s v=true->isB (Av s v)
 |0,s,h,_,_,_=>absurd s.depth_pos (by lia)
 |n+1,s,hs,hw,v,hf=>by
   cases s with
   |nothing=>rw[Av];exact λd h=>nomatch h
   |number lo hi=>
     cases v<;>simp[Ah] at hf
     rw[Av];exact RZ _ _
   |text q=>
     simp only[wf,uh1,ug4] at hw
     cases v<;>simp only[Ah,ue9] at hf
     rename_i x;simp only[uh1,ug4,uh5] at hf;rw[Av];refine F1 (by lia) λd h=>?_;clear 5(um9.mp h)c hc rfl;have:=hf.2 c hc;simp only[Bs,uh1,ug4] at this;exact⟨c,rfl,by lia⟩
   |list s q=>
     simp only[wf,uh1,ug4] at hw;rw[Sh.depth] at hs
     cases v<;>simp only[Ah,ue9] at hf
     rename_i ds;simp only[uh1,ug4,uh5] at hf;rw[Av];refine F1 (by lia) λd h=>?_;clear 5(ui0.mp h)l hl hd;clear 5(um9.mp hl)e he rfl;exact FX n s (by lia) hw.2 e (hf.2 e he) d hd
   |pair s r=>
     simp only[wf,uh1] at hw;rw[Sh.depth] at hs;unfold Ah at hf
     split at hf
     .rw[uh1] at hf;rw[Av];exact OZ (FX n s (by lia) hw.1 _ hf.1) (FX n r (by lia) hw.2 _ hf.2)
     .cases hf
   |choice ss=>
     simp only[wf,uh1,ug4] at hw;rw[Sh.depth] at hs;unfold Ah at hf
     split at hf
     .next o k x=>
      simp only[uh1,ug4] at hf;clear 5(ub6 hf.1.2.1)j rfl;have hj:j<ss.length:=by have:=hf.1.2.2;lia
      have e1:ss[j]?=some ss[j]:=ub3 hj;have h2:=hf.2;rw[uf6,Cc ss _ _ _ e1] at h2;rw[Av,uf6,El ss _ _ _ e1];exact F1 (by lia) (FX n _ (um4 (Cd ss _ _ e1) (by lia)) (DZ hw.2 _ (uh7 hj)) x h2)
     .cases hf
theorem YB:Bu (wD w) none (some (a:Int))=wD (w.take a):=by
 unfold Bu;rw[HT.G8,HT.JS,uk6,jM];unfold wD;rw[ul4];exact(jf ..).symm
theorem QZ:Bu (wD w) (some (a:Int)) none=wD (w.drop a):=by
 unfold Bu;rw[HT.G8,HT.JS];unfold wD;rw[jC,ui4,uc1 (by rw[uh0,ui4];lia)]
 by_cases h:a<=w.length
 .rw[uj9 h]
 .rw[Nat.min_eq_right (by lia),uc4 (by rw[ui4];lia),uc4 (by rw[ui4];lia)]
structure Mvs(g:List GS)(wl wr:List Nat)(mv:List Mv)(h a b:Nat)(t:List D):Prop where
 t:t=Ao g 0 mv
 ok:okQ g 0 mv
 h:Aj g 0 mv=h
 a:Ai g sL 0 mv=wD (wl.take a)
 b:Ai g sR 0 mv=wD (wr.take b)
theorem Pd{side:Str}(h:side=sL\/side=sR):(side=sL/\¬side=sR)\/(¬side=sL/\side=sR):=by
 rcases h with rfl|rfl
 .exact .inl ⟨rfl,sLR⟩
 .exact .inr ⟨Ne.symm sLR,rfl⟩
def Agr(c:Nat)(w w2:List Nat):Prop:=∀i,i<c->w2[i]?=w[i]?
theorem Uf{w2:List Nat}{c:Nat}(hw:Agr c w w2):∀(p:Rd) (a:Nat),p.run w a=.told v b->b<=c->p.run w2 a=.told v b:=by
 intro p
 induction p with
 |done v'=>intro a h _;exact h
 |need ok nx ih=>
   intro a h hb
   cases e:w[a]? with
   |none=>rw[Cq e] at h;cases h
   |some x=>
     rw[Bd e] at h;have hl:=(ua9.mp e).1
     by_cases q:ok x=true
     .rw[jY q] at h;have hlt:a<c:=by have:=(Hb _ (a+1) hl h).1;lia
      rw[Bd ((hw a hlt).trans e),jY q];exact ih x (a+1) h hb
     .rw[jZ q] at h;cases h
theorem RQ{side:Str}{ws:List (Str×Sh×Int)}{w2:List Nat}{c e x:Nat}(hw:Agr c w w2)(h:msgR side ws w p=(.told v e,x))(he:e<=c):msgR side ws w2 p=(.told v e,x):=by
 unfold msgR at h⊢
 cases hb:w[p]? with
 |none=>rw[hb] at h;cases h
 |some y=>
   rw[hb] at h;dsimp only at h;obtain⟨hpl,_⟩:=ua9.mp hb
   cases hws:ws[y]? with
   |none=>rw[hws] at h;cases h
   |some wd=>
     rw[hws] at h;injection h with h1 h2
     have hlt:p<c:=by have:=(Hb _ _ hpl h1).1;lia
     rw[(hw p hlt).trans hb];dsimp only;rw[hws];dsimp only;rw[Uf hw _ _ h1 he,h2]
variable{vl vr:List Nat}
theorem WR{side:Str}(h1:Agr a wl vl)(h2:Agr b wr vr):Agr (onS side a b) (onS side wl wr) (onS side vl vr):=by unfold onS;split<;>assumption
variable{ca:Nat}
theorem SG{cb:Nat}(hl:Agr ca vl wl)(hr:Agr cb vr wr){m:D}{h' a' b':Nat}(e:B1 g vl vr h a b=.next m h' a' b')(ha:a'<=ca)(hb:b'<=cb):B1 g wl wr h a b=.next m h' a' b':=by
 unfold B1 at e⊢
 cases eg:An g h with
 |fin=>rw[eg] at e;cases e
 |st side ws=>
   rw[eg] at e;dsimp only at e⊢;generalize hm:msgR side ws (onS side vl vr) (onS side a b)=r at e;clear 5 r r0 c
   cases r0 with
   |short=>cases e
   |broken k'=>cases e
   |told v x=>
     have hx:x<=onS side ca cb:=by
      injection e with e1 e2 e3 e4
      unfold onS at e3 e4⊢
      split at e3
      .next q=>rw[jY q] at e4⊢;lia
      .next q=>rw[jZ q] at e4⊢;lia
     rw[RQ (WR hl hr) hm hx];exact e
def Kh(f:Fn):Prop:=∀(g:List GS) (mv:List Mv),GOk g->okQ g 0 mv->mv.length<=60000->Pure1 f [.lst (g.map GS.d),.lst (Ao g 0 mv)] (.lst (Bh g 0 mv))
theorem XS(hn:GM cn)(hp:Hg cp):Kh (fnOf 2 7 (Dm cn cp)):=by
 intro g mv hg hk hl S;have hL:LIM=100000:=rfl;refine Ak rfl ?_;unfold Dm;left;rw[AN];refine FE (Be (by lia) (by lia)) ?_;refine BE (λr t=>∃(j:Nat) (e4 e5 e6:Option Sl),j<=mv.length/\r=(rngL 0 ((mv.length:Nat):Int).toNat).drop j/\t=⟨[vw (.lst (g.map GS.d)),vw (.lst (Ao g 0 mv)),vw (.int (Aj g 0 (mv.take j))),some (.own (Bh g 0 (mv.take j))),e4,e5,e6],S⟩) _ _ ⟨0,none,none,none,un5 _,rfl,rfl⟩ ?_ ?_
 .rintro d' r t ⟨j,e4,e5,e6,hj,hr,rfl⟩ _;clear 5(Di hr)rfl hr' hjm;rw[uf6] at hjm;rw[un1];have hlt:=DR hg hg.ne (E7 hk j);obtain⟨p,v,hpv⟩:∃p v,mv[j]=(p,v):=⟨_,_,rfl⟩;have em:mv[j]?=some (p,v):=by rw[ub3 hjm,hpv]
  have hmv:=GV hk em;have hmsg:atI (Ao g 0 mv) (j:Int)=some (D3 g (Aj g 0 (mv.take j)) p v):=by
   unfold atI;rw[Bm (by lia) (by rw[AN];lia)];show(Ao g 0 mv)[(j:Int).toNat]?=_;rw[uf6,Fs g 0 mv j p v em]
  have htk:mv.take (j+1)=mv.take j++[(p,v)]:=by rw[ua1 hjm,hpv]
  left;refine AM (Bj hlt) ?_;left;refine AM hmsg ?_;left;refine(hp g _ p v hg hmv).use ?_;left;refine AY (by rw[DY,ug9,hL];lia) ?_;left;refine(hn g _ p hg hlt hmv.pl).use ?_;left;refine⟨j+1,_,_,_,hjm,hr',t7 ?_ ?_⟩
  .rw[htk,Fp];rfl
  .rw[htk,FM];rfl
 .rintro t ⟨j,e4,e5,e6,hj,hr,rfl⟩;have hz:=jT List.length hr;rw[uj2,uh0,Cp,uf6] at hz;have hje:j=mv.length:=by lia
  subst hje;rw[uh9];left;exact⟨rfl,rfl,rfl⟩
def GL(f:Fn):Prop:=∀(g:List GS) (mv:List Mv),GOk g->okQ g 0 mv->mv.length<=60000->Pure1 f [.lst (g.map GS.d),.lst (Ao g 0 mv)] (.int (Aj g 0 mv))
theorem Tg{cs:Fn}(hn:GM cn)(hs:Kh cs):GL (fnOf 2 3 (B9 cn cs)):=by
 intro g mv hg hk hl S;refine Ak rfl ?_;unfold B9;left;refine(hs g mv hg hk (by lia)).use ?_;left;rw[DY];refine BB (λq=>?_) λq=>?_
 .have:mv=[]:=by
   have:(mv.length:Int)=0:=by simpa using q
   exact List.length_eq_zero_iff.mp (by lia)
  subst this;left;exact⟨rfl,rfl,rfl⟩
 .have hne:mv≠[]:=by intro z;subst z;simp at q
  obtain⟨mv',x,rfl⟩:∃l x,mv=l++[x]:=⟨mv.dropLast,mv.getLast hne,(List.dropLast_concat_getLast hne).symm⟩;clear 5 x p v;rw[GU] at hk;have hm:=hk.2.1;have hst:Bh g 0 (mv'++[(p,v)])=Bh g 0 mv'++[.tup [.int (Aj g 0 mv'),.int p]]:=by rw[FM];rfl
  rw[hst];have hlast:atI (Bh g 0 mv'++[D.tup [.int (Aj g 0 mv'),.int p]]) (-1)=some (.tup [.int (Aj g 0 mv'),.int p]):=by
   unfold atI ixN;simp only[ue8,ug7,uj2];rw[jZ (by lia),jY (by lia)];rw[show(-1+((Bh g 0 mv').length+(0+1):Nat):Int).toNat=(Bh g 0 mv').length by lia];simp
  left;refine AM hlast ?_;left;refine(hn g _ p hg hm.lt hm.pl).use ?_;rw[Fp];left;exact⟨rfl,rfl,rfl⟩
def Pp(f:Fn):Prop:=∀(g:List GS) (q p:Nat) (v:D),GOk g->MvOk g q p v->(Av (wdAt g q p).2.1 v).length<=50000->Pure1 f [(An g q).d,.int p,v] (.lst (.int p::Av (wdAt g q p).2.1 v))
theorem Zk(hc:IN c 3):Pp (fnOf 3 3 (EI c)):=by
 intro g q p v hg hm hb S;have hL:LIM=100000:=rfl;refine Ak rfl ?_;unfold EI;clear 5(Fg hm.pl)side ws e hpl ew;have hw:=Fi hg hm.lt hm.pl;have hfit:=hm.fit;rw[e,GS.d];right;refine Gk ?_;right;refine AM (DP ew) ?_;unfold wdD;right;refine(hc _ hw.dep hw.ok v hfit (by lia)).use ?_;refine⟨_,rfl,?_⟩;right;refine AY (by rw[hL];show 1+_<=_;lia) ?_;exact⟨rfl,rfl⟩
theorem Gx(g:List GS)(sd:Str)(mv:List Mv)(j:Nat):(Ai g sd 0 (mv.take j)).length<=(Ai g sd 0 mv).length:=by
 have e:Ai g sd 0 mv=Ai g sd 0 (mv.take j++mv.drop j):=by rw[ud1]
 rw[e,DO,ue8];exact uh4 _ _
def MV(f:Fn):Prop:=∀(g:List GS) (mv:List Mv) (S:List Ob),GOk g->okQ g 0 mv->mv.length<=60000->(Ai g sL 0 mv).length<=25000->(Ai g sR 0 mv).length<=25000->Wf f [.lst (g.map GS.d),.lst (Ao g 0 mv)] S λr S'=>∃K A B,r=.tup [.obj A,.obj B]/\Wr K A B S' (Ai g sL 0 mv) (Ai g sR 0 mv)/\Gr S S'/\S.length<=A/\S.length<=B
theorem Ye{cs:Fn}(hm:Pp cm)(hs:Kh cs):MV (fnOf 2 6 (Dn cm cs)):=by
 intro g mv S hg hk hlen hll hlr;have hL:LIM=100000:=rfl;refine Ak rfl ?_;unfold Dn;left;refine Jl ?_;refine Bt ?_;left;refine Bt ?_;left;refine Et ?_;refine⟨by simp,by show 2<=15;decide,?_⟩;obtain⟨S1,hS1⟩:∃S1:List Ob,S1=(S++[Ob.dct []]++[Ob.lst []]++[Ob.lst []]).set S.length (.dct (AT [(kL,.obj (S++[Ob.dct []]).length),(kRt,.obj (S++[Ob.dct []]++[Ob.lst []]).length)])):=⟨_,rfl⟩;have w0:Wr S.length (S++[Ob.dct []]).length (S++[Ob.dct []]++[Ob.lst []]).length S1 [] []:=by
  rw[hS1,F4];refine⟨IZ (o:=.dct []) (by simp),?_,?_,by simp,by simp,by simp⟩
  .rw[ud3 (by simp)];simp
  .rw[ud3 (by simp)];simp
 have hFS:Gr S S1:=by
  rw[hS1];exact Gr.set ((Gr.app.trans Gr.app).trans Gr.app) (un4 _)
 have hne:S.length<=(S++[Ob.dct []]).length/\S.length<=(S++[Ob.dct []]++[Ob.lst []]).length:=by
  simp only[ue8,ug7,uj2];exact⟨by lia,by lia⟩
 refine Ep ?_;show W _ ⟨[vw (.lst (g.map GS.d)),vw (.lst (Ao g 0 mv)),vw (.obj S.length),none,none,none],(S++[Ob.dct []]++[Ob.lst []]++[Ob.lst []]).set S.length (.dct (AT [(kL,.obj (S++[Ob.dct []]).length),(kRt,.obj (S++[Ob.dct []]++[Ob.lst []]).length)]))⟩ _;rw[<-hS1];clear hS1;generalize (S++[Ob.dct []]++[Ob.lst []]).length=B at w0 hne;generalize (S++[Ob.dct []]).length=A at w0 hne;generalize hSK:S.length=K at w0⊢;left;refine(hs g mv hg hk (by lia)).use ?_;left;rw[DY];refine FE (Be (by lia) (by lia)) ?_;refine BE (λr t=>∃(j:Nat) (S':List Ob) (e4 e5:Option Sl),j<=mv.length/\r=(rngL 0 ((mv.length:Nat):Int).toNat).drop j/\Wr K A B S' (Ai g sL 0 (mv.take j)) (Ai g sR 0 (mv.take j))/\Gr S S'/\t=⟨[vw (.lst (g.map GS.d)),vw (.lst (Ao g 0 mv)),vw (.obj K),vw (.lst (Bh g 0 mv)),e4,e5],S'⟩) _ _ ⟨0,S1,none,none,by lia,rfl,w0,hFS,rfl⟩ ?_ ?_
 .rintro d' r t ⟨j,S',e4,e5,hjl,hr,hw,hF',rfl⟩ _;clear 5(Di hr)rfl hr' hjn;rw[uf6] at hjn;rw[un1]
  cases em:mv[j]? with
  |none=>rw[ub2] at em;lia
  |some x=>
  clear 5 x p v;have hm':=GV hk em;have htk:mv.take (j+1)=mv.take j++[(p,v)]:=by
   rw[jz,em];rfl
  have hsi:atI (Bh g 0 mv) j=some (.tup [.int (Aj g 0 (mv.take j)),.int p]):=by
   unfold atI;rw[Bm (by lia) (by rw[DY];lia)];show(Bh g 0 mv)[(j:Int).toNat]?=_;rw[uf6,K5 g 0 mv j p v em]
  have hmi:atI (Ao g 0 mv) j=some (D3 g (Aj g 0 (mv.take j)) p v):=by
   unfold atI;rw[Bm (by lia) (by rw[AN];lia)];show(Ao g 0 mv)[(j:Int).toNat]?=_;rw[uf6,Fs g 0 mv j p v em]
  have hside:=LU hg hm';have lA:=Gx g sL mv j;have lB:=Gx g sR mv j;have lA':=Gx g sL mv (j+1);have lB':=Gx g sR mv (j+1);have nA:Ai g sL 0 (mv.take (j+1))=Ai g sL 0 (mv.take j)++(if (An g (Aj g 0 (mv.take j))).side=sL then D.int p::Av (wdAt g (Aj g 0 (mv.take j)) p).2.1 v else []):=by
   rw[htk,DO,Ai,Ai,ui6]
  have nB:Ai g sR 0 (mv.take (j+1))=Ai g sR 0 (mv.take j)++(if (An g (Aj g 0 (mv.take j))).side=sR then D.int p::Av (wdAt g (Aj g 0 (mv.take j)) p).2.1 v else []):=by
   rw[htk,DO,Ai,Ai,ui6]
  have hbd:(Av (wdAt g (Aj g 0 (mv.take j)) p).2.1 v).length<=25000:=by
   rcases hside with h|h
   .rw[nA,jY h,ue8,ug7] at lA';lia
   .rw[nB,jY h,ue8,ug7] at lB';lia
  generalize hq:Aj g 0 (mv.take j)=q at *;have hix:∀(t:T) (P:D->T->Prop),P (.str (An g q).side) t->W (ixD (An g q).d (.int 0)) t P:=λt P h=>by
   cases e:An g q with
   |fin=>rw[e] at h;rw[GS.d];exact Fd Hk h
   |st s w=>rw[e] at h;rw[GS.d];exact Fd Hk h
  left;refine AM hsi ?_;left;refine AM (Bj hm'.lt) ?_;left;obtain⟨C,xs,hCn,hC,hxl,hget,hnew⟩:∃(C:Nat) (xs:List D),S.length<=C/\S'[C]?=some (.lst xs)/\xs.length<=25000/\Bg [(kL,.obj A),(kRt,.obj B)] (.inr (An g q).side)=some (.obj C)/\Wr K A B (S'.set C (.lst (xs++D.int p::Av (wdAt g q p).2.1 v))) (Ai g sL 0 (mv.take (j+1))) (Ai g sR 0 (mv.take (j+1))):=by
   rcases hside with h|h
   .refine⟨A,_,hne.1,hw.a,by lia,by rw[h];exact Jc,?_⟩;rw[nA,nB,jY h,jZ (by rw[h];exact sLR),ui6];exact hw.setA
   .refine⟨B,_,hne.2,hw.b,by lia,by rw[h];exact Jd,?_⟩;rw[nA,nB,jY h,jZ (by rw[h];exact Ne.symm sLR),ui6];exact hw.setB
  refine VL (k:=C) ?_;left;refine hix _ _ ?_;refine BJ hw.k hget ?_;refine⟨rfl,_,hC,?_⟩;left;refine AM hsi ?_;left;refine AM hmi ?_;unfold D3;left;refine(hm g q p v hg hm' (by lia)).use ?_;left;refine⟨xs,_,hC,jY (by rw[hL,ug7];lia),?_⟩;exact⟨j+1,_,_,_,hjn,hr',hnew,hF'.set hCn,rfl⟩
 .rintro t ⟨j,S',e4,e5,hjl,hr,hw,hF',rfl⟩;have hj':j=mv.length:=by
   have:=jT List.length hr;rw[uj2,uh0,Cp,uf6] at this;lia
  subst hj';rw[uh9] at hw;left;refine BJ hw.k Jc ?_;left;refine BJ hw.k Jd ?_;left;exact⟨rfl,K,A,B,rfl,hw,hF',by rw[<-hSK];exact hne.1,by rw[<-hSK];exact hne.2⟩
theorem NM{g:List GS}(hg:GOk g):∀(q:Nat) (mv:List Mv),okQ g q mv->mv.length<=(Ai g sL q mv).length+(Ai g sR q mv).length
 |q,[],_=>un5 _
 |q,(p,v)::r,h=>by
   rw[okQ] at h;have ih:=NM hg _ r h.2;rw[Ai,Ai,ue8,ue8,ug7];rcases LU hg h.1 with e|e
   .rw[jY e,ug7];lia
   .rw[jY (show(An g q).side=sR from e),ug7];lia
def At(w:List Nat)(a:Nat)(xs:List D):Prop:=∃p q,wD w=p++(xs++q)/\p.length=a
theorem At.left(h:At w a (xs++ys)):At w a xs:=by
 clear 5 h p q e l;exact⟨p,ys++q,by rw[e,uf8],l⟩
theorem At.right(h:At w a (xs++ys)):At w (a+xs.length) ys:=by
 clear 5 h p q e l;exact⟨p++xs,q,by rw[e,uf8,uf8],by rw[ue8,l]⟩
theorem At.head{c:Nat}(h:At w a (.int (c:Int)::xs)):w[a]?=some c/\At w (a+1) xs:=by
 refine⟨?_,At.right (xs:=[.int (c:Int)]) h⟩;clear 5 h p q e l;have e1:(wD w)[a]?=some (.int (c:Int)):=by rw[e,ua6 (by lia),l,un2];rfl
 unfold wD at e1;rw[uf5] at e1
 cases e2:w[a]? with
 |none=>rw[e2] at e1;cases e1
 |some x=>
   rw[e2] at e1;injection e1 with e1
   injection e1 with e1
   rw[show x=c by lia]
theorem NT{lo:Int}{M:Nat}{w:List Nat}:∀(r x y a:Nat),y/256 ^ r=x->y<=M->At w a (nb r y)->(HG lo M r x).run w a=.told (.int (lo+y)) (a+r)
 |0,x,y,a,hx,hy,h=>by
   rw[jK,Nat.div_one] at hx;subst hx;rfl
 |r+1,x,y,a,hx,hy,h=>by
   rw[O2] at h;clear 5 h.head h1 h2;have e:x*256+y/256 ^ r%256=y/256 ^ r:=by
    rw[<-hx,um8,<-uc2];lia
   rw[HG,Bd h1,jY (uk7 (by rw[e,Nat.pow_mul];exact Nat.div_le_div_right hy)),NT r _ y (a+1) e.symm hy h2]
   congr 1
   lia
theorem Oe{w:List Nat}:∀(xs cs:List Nat) (a:Nat),(∀c∈xs,Bs c=true)->At w a (xs.map λ(n:Nat)=>D.int (n:Int))->(IB xs.length cs).run w a=.told (.str ⟨(cs++xs).toArray⟩) (a+xs.length)
 |[],cs,a,_,_=>by rw[ui6];rfl
 |x::r,cs,a,hs,h=>by
   clear 5(At.head h)h1 h2;rw[ug7,IB,Bd h1,jY (hs x ue4),Oe r (cs++[x]) (a+1) (λc hc=>hs c (ud2 _ hc)) h2,uf8]
   congr 1
   lia
theorem NG{w:List Nat}{s:Sh}{p:Rd}(hp:∀(v:D) (a:Nat),Ah s v=true->At w a (Av s v)->p.run w a=.told v (a+(Av s v).length)):∀(es ds:List D) (a:Nat),(∀e∈es,Ah s e=true)->At w a (es.map λd=>Av s d).flatten->(HF p es.length ds).run w a=.told (.lst (ds++es)) (a+((es.map λd=>Av s d).flatten).length)
 |[],ds,a,_,_=>by rw[ui6];rfl
 |e::r,ds,a,hf,h=>by
   rw[ul0,uf7] at h;rw[ug7,HF,DX,hp e a (hf e ue4) h.left,RR.thn,NG hp r (ds++[e]) _ (λx hx=>hf x (ud2 _ hx)) h.right,uf8,ul0,uf7,ue8]
   congr 1
   lia
theorem SW:∀(k n:Nat),wid n<=k->n<256 ^ k
 |0,n,h=>by
   by_cases z:n=0
   .subst z;decide
   .rw[HS (by lia)] at h;lia
 |k+1,n,h=>by
   by_cases z:n=0
   .subst z;exact Nat.pow_pos (by decide)
   .rw[HS (by lia)] at h;have:=SW k (n/256) (by lia);rw[Nat.div_lt_iff_lt_mul (by decide)] at this;rw[um8];exact this
theorem Ww{o:Str}(h:Hz o=true):o=Str.ofString "of":=by
 unfold Hz at h;simpa using h
theorem back:∀(n:Nat) (s:Sh),s.depth<=n->wf s=true->∀(w:List Nat) (v:D) (a:Nat),Ah s v=true->At w a (Av s v)->(pSh n s).run w a=.told v (a+(Av s v).length)
 |0,s,hs,_,_,_,_,_,_=>absurd s.depth_pos (by lia)
 |n+1,s,hs,hwf,w,v,a,hf,h=>by
   cases s with
   |nothing=>
     have:v=.non:=by cases v<;>simp[Ah,Gp] at hf<;>rfl
     subst this;rfl
   |number lo hi=>
     simp only[wf,uh1,ug4] at hwf
     cases v with
     |int i=>
       simp only[Ah,uh1,ug4] at hf;rw[Av] at h⊢;rw[pSh,NT (wid (hi-lo).toNat) 0 (i-lo).toNat a ?_ (by lia) h,NO]
       .congr 2;lia
       .exact Nat.div_eq_of_lt (Nat.lt_of_le_of_lt (show(i-lo).toNat<=(hi-lo).toNat by lia) (SW _ _ (un4 _)))
     |_=>simp[Ah] at hf
   |text q=>
     cases v with
     |str x=>
       simp only[Ah,uh1,ug4,uh5] at hf;rw[Av] at h⊢;clear 5(At.head h)h1 h2;rw[pSh,Bd h1,jY (uk7 hf.1)];have hl:x.length=x.cps.toList.length:=rfl;rw[hl,Oe x.cps.toList [] (a+1) hf.2 h2,uj0,ug7,ui4]
       congr 1
       lia
     |_=>simp[Ah] at hf
   |list s q=>
     simp only[wf,uh1,ug4] at hwf;rw[Sh.depth] at hs
     cases v with
     |lst ds=>
       rw[Ah,uh1,ug4,uh5] at hf;rw[Av] at h⊢;clear 5(At.head h)h1 h2;rw[pSh,Bd h1,jY (uk7 hf.1),NG (λv a=>back n s (by lia) hwf.2 w v a) ds [] (a+1) hf.2 h2,uj0,ug7]
       congr 1
       lia
     |_=>simp[Ah] at hf
   |pair s r=>
     simp only[wf,uh1] at hwf;rw[Sh.depth] at hs;unfold Ah at hf
     split at hf
     .rw[uh1] at hf;rw[Av] at h⊢;rw[pSh,DX,back n s (by lia) hwf.1 w _ a hf.1 h.left,RR.thn,DX,back n r (by lia) hwf.2 w _ _ hf.2 h.right,RR.thn,Rd.run,ue8,ul8]
     .cases hf
   |choice ss=>
     simp only[wf,uh1,ug4] at hwf;rw[Sh.depth] at hs;unfold Ah at hf
     split at hf
     .next o k x=>
      simp only[uh1,ug4] at hf;clear 5(ub6 hf.1.2.1)j rfl;have hj:j<ss.length:=by have:=hf.1.2.2;lia
      have e1:ss[j]?=some ss[j]:=ub3 hj;have h2:=hf.2;rw[uf6,Cc ss _ _ _ e1] at h2;rw[Av,uf6,El ss _ _ _ e1] at h⊢;clear 5(At.head h)h3 h4;have ho:o=Str.ofString "of":=Ww hf.1.1;subst ho;rw[pSh,Bd h3,jY (uk7 hj),ua7,e1,Option.getD_some,DX,back n _ (um4 (Cd ss _ _ e1) (by lia)) (DZ hwf.2 _ (uh7 hj)) w x (a+1) h2 h4,RR.thn,Rd.run,ug7]
      congr 1
      lia
     .cases hf
theorem UY{c:Nat}:∀(p:Rd) (a:Nat),p.run w a=.told v b->a<=c->c<b->p.run (w.take c) a=.short:=by
 intro p
 induction p with
 |done v'=>intro a h h1 h2;rw[Rd.run] at h;cases h;lia
 |need ok nx ih=>
   intro a h h1 h2
   cases e:w[a]? with
   |none=>rw[Cq e] at h;cases h
   |some x=>
     rw[Bd e] at h
     by_cases q:ok x=true
     .rw[jY q] at h
      by_cases hac:a<c
      .rw[Bd (b:=x) (by rw[uf1,jY hac];exact e),jY q];exact ih x (a+1) h hac h2
      .exact Cq (by rw[uf1,jZ hac])
     .rw[jZ q] at h;cases h
theorem SE(hg:GOk g){q p a b:Nat}{v:D}(hm:MvOk g q p v)(ha:At wl a (if (An g q).side=sL then .int (p:Int)::Av (wdAt g q p).2.1 v else []))(hb:At wr b (if (An g q).side=sR then .int (p:Int)::Av (wdAt g q p).2.1 v else [])) :
 B1 g wl wr q a b=.next (D3 g q p v) (nextQ g q p) (a+(if (An g q).side=sL then D.int (p:Int)::Av (wdAt g q p).2.1 v else []).length) (b+(if (An g q).side=sR then D.int (p:Int)::Av (wdAt g q p).2.1 v else []).length):=by
 have hw:=Fi hg hm.lt hm.pl;have hsd:=LU hg hm;have hfit:=hm.fit;clear 5(Fg hm.pl)side ws e hpl ew;have es:(An g q).side=side:=by rw[e];rfl
 have hgd:ws.getD p (Str.ofString "",.nothing,0)=wdAt g q p:=by rw[ua7,ew];rfl
 rw[es] at ha hb hsd;have key:∀(w:List Nat) (c:Nat),At w c (.int (p:Int)::Av (wdAt g q p).2.1 v)->msgR side ws w c=(.told v (c+(Av (wdAt g q p).2.1 v).length+1),p):=λw c h=>by
  clear 5(At.head h)h1 h2;unfold msgR;rw[h1];dsimp only;rw[ew];dsimp only;rw[back 3 _ hw.dep hw.ok w v (c+1) hfit h2]
  congr 2
  lia
 unfold B1;rw[e];dsimp only;unfold D3 nextQ;rw[es];rcases Pd hsd with⟨q1,q2⟩|⟨q1,q2⟩
 .rw[jY q1] at ha;unfold onS;simp only[jY q1,key wl a ha,hgd];rw[show(GS.st side ws).side=side from rfl,jY q1,jZ q2,ug7,uj2];rfl
 .rw[jY q2] at hb;unfold onS;simp only[jZ q1,key wr b hb,hgd];rw[show(GS.st side ws).side=side from rfl,jZ q1,jY q2,ug7,uj2];rfl
theorem IK{g:List GS}{wl wr:List Nat}(hg:GOk g):∀(mv:List Mv) (q a b F:Nat) (t:List D),okQ g q mv->At wl a (Ai g sL q mv)->At wr b (Ai g sR q mv)->AR g wl wr (F+mv.length) q a b t=AR g wl wr F (Aj g q mv) (a+(Ai g sL q mv).length) (b+(Ai g sR q mv).length) (t++Ao g q mv)
 |[],q,a,b,F,t,_,_,_=>by rw[Ao,ui6];rfl
 |(p,v)::r,q,a,b,F,t,hk,ha,hb=>by
   rw[okQ] at hk;rw[Ai] at ha hb;rw[ug7,<-ul8,AR,SE hg hk.1 ha.left hb.left];dsimp only;rw[IK hg r _ _ _ F _ hk.2 ha.right hb.right,Ai,Ai,Ao,Aj,ue8,ue8,uf8,jg,ul8,ul8]
theorem UV(e:(An g h).isFin=true):B1 g wl wr h a b=.stop:=by
 unfold B1
 cases e1:An g h with
 |fin=>rfl
 |st s w=>rw[e1] at e;cases e
theorem UU:B1 g wl wr h wl.length wr.length=.stop:=by
 unfold B1
 cases e1:An g h with
 |fin=>rfl
 |st s ws=>
   dsimp only;unfold msgR;rw[show(onS s wl wr)[onS s wl.length wr.length]?=none by unfold onS;split<;>exact ud0 (un4 _)]
theorem Mw{t:List D}(e:B1 g wl wr h a b=.stop):∀F,AR g wl wr F h a b t=(t,h,a,b,none)
 |0=>rfl
 |F+1=>by unfold AR;rw[e]
theorem U9(hg:GOk g){mv:List Mv}(hk:okQ g 0 mv)(ml mr:List Nat)(el:wD wl=Ai g sL 0 mv)(er:wD wr=Ai g sR 0 mv)(h:(ml=[]/\mr=[])\/(An g (Aj g 0 mv)).isFin=true):AR g (wl++ml) (wr++mr) ((wl++ml).length+(wr++mr).length+1) 0 0 0 []=(Ao g 0 mv,Aj g 0 mv,wl.length,wr.length,none):=by
 have hlen:=NM hg 0 mv hk;rw[<-el,<-er,Bi,Bi] at hlen;obtain⟨F,hF⟩:∃F,(wl++ml).length+(wr++mr).length+1=F+mv.length:=⟨(wl++ml).length+(wr++mr).length+1-mv.length,by rw[ue8,ue8];lia⟩;rw[hF,IK hg mv 0 0 0 F [] hk ⟨[],wD ml,by rw[<-el,uj0,Gm],rfl⟩ ⟨[],wD mr,by rw[<-er,uj0,Gm],rfl⟩,<-el,<-er,Bi,Bi,un3,un3,uj0];refine Mw ?_ F;rcases h with⟨rfl,rfl⟩|h
 .rw[ui6,ui6];exact UU
 .exact UV h
def Wir(S:List Ob)(d:D)(w:List Nat):Prop:=d=.lst (wD w)\/∃k,d=.obj k/\S[k]?=some (.lst (wD w))
def PureS(S:List Ob)(f:Fn)(ds:List D)(r:D):Prop:=Wf f ds S λr' S'=>r'=r/\S'=S
theorem PureS.use{f:Fn}{r:D}(h:PureS S f ds r){P:D->List Ob->Prop}(p:P r S):Wf f ds S P:=h.mono λ_ _ ⟨e1,e2⟩=>by subst e1 e2;exact p
theorem La{d:D}(h:Wir t.S d w)(p:P (.int (w.length:Nat)) t):W (AO [d]) t P:=by
 rcases h with rfl|⟨k,rfl,e⟩
 .refine Qy ?_;rw[Bi];exact p
 .refine cI e ?_;rw[Bi];exact p
theorem U5{d:D}(h:Wir t.S d w)(e:w[a]?=some b)(p:P (.int (b:Int)) t):W (ixD d (.int (a:Int))) t P:=by
 rcases h with rfl|⟨k,rfl,e'⟩
 .exact AM (IT (SS e)) p
 .exact W_ix_obj.mpr ⟨_,e',_,IT (SS e),p⟩
def BXw(f:Fn):Prop:=∀(S:List Ob) (wv:D) (w:List Nat) (a:Nat),Wir S wv w->PureS S f [wv,.int (a:Int)] (byX w[a]?)
theorem Yx:BXw (fnOf 2 2 F5):=by
 intro S wv w a hv;refine Ak rfl ?_;unfold F5;have hl:=Bi w
 cases h:w[a]? with
 |none=>
   have:=ub2.mp h;symm;refine La hv ?_;symm;refine HA (uk7 (by lia)) ?_;symm;exact⟨rfl,rfl⟩
 |some b=>
   obtain⟨hj,_⟩:=ua9.mp h;symm;refine La hv ?_;symm;refine Ea (uk1 (by lia)) ?_;symm;refine U5 hv h ?_;exact⟨rfl,rfl,rfl⟩
variable{S':List Ob}
theorem Wir.gr{d:D}(h:Wir S d w)(g:Gr S S'):Wir S' d w:=h.imp id λ⟨k,e1,e2⟩=>⟨k,e1,g.get e2⟩
theorem HR(g:List GS)(wl wr:List Nat):∀(F h a b:Nat) (t:List D),AR g wl wr F h a b t=(t++(AR g wl wr F h a b []).1,(AR g wl wr F h a b []).2)
 |0,h,a,b,t=>by show(t,h,a,b,none)=(t++[],h,a,b,none);rw[ui6]
 |F+1,h,a,b,t=>by
   unfold AR
   cases B1 g wl wr h a b with
   |stop=>show(t,_)=(t++[],_);rw[ui6]
   |brk k s=>show(t,_)=(t++[],_);rw[ui6]
   |next m h' a' b'=>
     dsimp only;rw[HR g wl wr F h' a' b' (t++[m]),HR g wl wr F h' a' b' ([]++[m])];rw[uj0,uf8]
theorem Lb{g:List GS}{wl wr:List Nat}(hg:GOk g):∀(F F' h a b:Nat) (t:List D),Pl g wl wr h a b->wl.length+wr.length+1<=F+(a+b)->wl.length+wr.length+1<=F'+(a+b)->AR g wl wr F h a b t=AR g wl wr F' h a b t
 |0,F',h,a,b,t,p,hf,_=>by have:=p.a;have:=p.b;lia
 |F+1,0,h,a,b,t,p,_,hf=>by have:=p.a;have:=p.b;lia
 |F+1,F'+1,h,a,b,t,p,h1,h2=>by
   unfold AR
   cases e:B1 g wl wr h a b with
   |stop=>rfl
   |brk k s=>rfl
   |next m h' a' b'=>
     clear 5(II hg p e)p' hlt;exact Lb hg F F' h' a' b' (t++[m]) p' (by lia) (by lia)
abbrev Fu(wl wr:List Nat):Nat:=wl.length+wr.length+1
theorem MW{v x:List Nat}:Agr v.length v (v++x):=λi hi=>ub0 hi
theorem Pl.more(p:Pl g vl vr h a b)(xl xr:List Nat):Pl g (vl++xl) (vr++xr) h a b:=
 ⟨p.h,um4 p.a (by rw[ue8];lia),um4 p.b (by rw[ue8];lia)⟩
theorem JX{g:List GS}{vl vr:List Nat}(hg:GOk g)(xl xr:List Nat):∀(F h a b:Nat) (t t':List D) (h' a' b':Nat),Pl g vl vr h a b->AR g vl vr F h a b t=(t',h',a',b',none)->
 Pl g vl vr h' a' b'/\AR g (vl++xl) (vr++xr) (Fu (vl++xl) (vr++xr)) h a b t=AR g (vl++xl) (vr++xr) (Fu (vl++xl) (vr++xr)) h' a' b' t'
 |0,h,a,b,t,t',h',a',b',p,e=>by cases e;exact⟨p,rfl⟩
 |F+1,h,a,b,t,t',h',a',b',p,e=>by
   unfold AR at e
   cases es:B1 g vl vr h a b with
   |stop=>rw[es] at e;cases e;exact⟨p,rfl⟩
   |brk k s=>rw[es] at e;cases e
   |next m h1 a1 b1=>
     rw[es] at e;clear 5(II hg p es)p1 hlt;clear 5(JX hg xl xr F h1 a1 b1 (t++[m]) t' h' a' b' p1 e)q1 q2;refine⟨q1,?_⟩;rw[<-q2];have e2:=SG MW MW es p1.a p1.b (wl:=vl++xl) (wr:=vr++xr);have hs:AR g (vl++xl) (vr++xr) (Fu (vl++xl) (vr++xr)) h a b t=AR g (vl++xl) (vr++xr) ((vl++xl).length+(vr++xr).length) h1 a1 b1 (t++[m]):=by
      show AR g (vl++xl) (vr++xr) ((vl++xl).length+(vr++xr).length+1) h a b t=_;rw[AR,e2]
     rw[hs];exact Lb hg _ _ _ _ _ _ (p1.more xl xr) (by lia) (by show _<=(vl++xl).length+(vr++xr).length+1+_;lia)
def Rch(g:List GS)(vl vr:List Nat)(tk:List D)(h a b:Nat):Prop:=Pl g vl vr h a b/\∀xl xr:List Nat,AR g (vl++xl) (vr++xr) (Fu (vl++xl) (vr++xr)) 0 0 0 []=AR g (vl++xl) (vr++xr) (Fu (vl++xl) (vr++xr)) h a b tk
theorem Rch.start(hg:GOk g):Rch g [] [] [] 0 0 0:=⟨⟨hg.ne,un5 _,un5 _⟩,λ_ _=>rfl⟩
theorem Rch.more{g:List GS}{vl vr:List Nat}{tk:List D}{h a b:Nat}(r:Rch g vl vr tk h a b)(xl xr:List Nat):Rch g (vl++xl) (vr++xr) tk h a b:=
 ⟨r.1.more xl xr,λyl yr=>by rw[uf8,uf8];exact r.2 _ _⟩
theorem Rch.all{tk:List D}(r:Rch g vl vr tk h a b):AR g vl vr (Fu vl vr) 0 0 0 []=(tk++(AR g vl vr (Fu vl vr) h a b []).1,(AR g vl vr (Fu vl vr) h a b []).2):=by
 have:=r.2 [] [];rw[ui6,ui6] at this;rw[this,HR]
theorem Rch.step(hg:GOk g){vl vr:List Nat}{tk t:List D}{h a b h' a' b':Nat}(r:Rch g vl vr tk h a b)(e:AR g vl vr (Fu vl vr) h a b []=(t,h',a',b',none)):Rch g vl vr (tk++t) h' a' b':=by
 have e1:AR g vl vr (Fu vl vr) h a b tk=(tk++t,h',a',b',none):=by rw[HR,e]
 refine⟨(JX hg [] [] _ _ _ _ _ _ _ _ _ r.1 e1).1,λxl xr=>?_⟩;rw[r.2 xl xr];exact(JX hg xl xr _ _ _ _ _ _ _ _ _ r.1 e1).2
def Fed(g:List GS)(vl vr:List Nat)(tk:List D)(h a b:Nat)(fl:D):Prop:=Rch g vl vr tk h a b/\match AR g vl vr (Fu vl vr) 0 0 0 [] with
 |(t',h',a',b',none)=>tk=t'/\h=h'/\a=a'/\b=b'/\fl=.non
 |(_,_,_,_,some (k,s))=>fl=.tup [.int (k:Nat),.str s]
section
variable{f:Str}{t:T}{P:D->T->Prop}{O:Out->T->Prop}{k:Nat}{n:Str}{fs:List (Str×D)}{v:D}
def TQ(f:Str)(d:D):M D:=F0 d λ_ _ fs t=>(fs.lookup f).map λv=>(v,t)
def LS(f:Str)(v d:D):M Out:=F0 d λk n fs t=>if fs.length<1000 then some (.next,{t with S:=t.S.set k (.ins n (Gf f v fs))}) else none
theorem U3{a:M D}(h:W a t λd t1=>W (TQ f d) t1 P):W (EX f a) t P:=CO h
theorem D9(e:t.S[k]?=some (.ins n fs))(l:fs.lookup f=some v)(h:P v t):W (TQ f (.obj k)) t P:=⟨_,_,by simp only[TQ,F0,e,l];rfl,h⟩
theorem L3{gv ga:M D}(h:W gv t λv t1=>W ga t1 λd t2=>W (LS f v d) t2 O):W (EN f gv ga) t O:=CO (h.mono λ_ _ z=>CO z)
theorem Fe(e:t.S[k]?=some (.ins n fs))(l:fs.length<1000)(h:O .next ⟨t.env,t.S.set k (.ins n (Gf f v fs))⟩):W (LS f v (.obj k)) t O:=⟨_,_,by simp only[LS,F0,e,jY l],h⟩
theorem VH{g:Fn}{fl:M (List D)}(h:W fl t λds t1=>Wf g (.obj t1.S.length::ds) (t1.S++[.ins n []]) λr S'=>r=.non/\P (.obj t1.S.length) ⟨t1.env,S'⟩):W (MH n g fl) t P:=
 CO (h.mono λds t1 ⟨r,S',e,e2,p⟩=>by subst e2;exact⟨_,_,by simp only[e],p⟩)
theorem VI{g:Fn}{o:M D}{fl:M (List D)}(h:W o t λd t1=>∃k fs,d=.obj k/\t1.S[k]?=some (.ins n fs)/\W fl t1 λds t2=>Wf g (d::ds) t2.S λr S'=>P r ⟨t2.env,S'⟩):W (CB n g o fl) t P:=by
 refine CO (h.mono λd t1 z=>?_);clear 5 z k fs e1 e2 w;subst e1;clear 5 w ds t2 w1 r S' w2 p;refine⟨r,_,?_,p⟩;simp only[F0,e2,jY,bnd,w1,w2]
theorem ST(h:P (.obj t.S.length) ⟨t.env,t.S++[.dct []]⟩):W (Fm []) t P:=by
 refine⟨_,_,?_,h⟩;simp[Fm,IW,bnd,L2.ret,FO,AT]
end
local macro_rules | `(tactic| walk_at"y1")=>`(tactic| first
 |walk_at"x1" |clear 31 U3 L3 ST Op)
def Pk(f:Fn):Prop:=∀g:List GS,GOk g->Pure1 f [.lst (g.map GS.d)] (.lst (g.map GS.d))
theorem T3(hc:Ej c):Pk (fnOf 1 1 (E5 c)):=by
 intro g hg S;have hL:LIM=100000:=rfl;refine Ak rfl ?_;unfold E5;symm;refine(Fj (f:=id) (fr:=[]) (λd hd=>?_)).mono λxs t' ⟨e1,e2⟩=>?_
 .clear 5(um9.mp hd)x hx rfl;have hok:=hg.all x hx;symm;refine(hc _ x hok).use ?_
  cases x with
  |fin=>
    rw[GS.isFin];symm;exact⟨rfl,rfl⟩
  |st side ws=>
    rw[show(GS.st side ws).isFin=false from rfl,GS.d];symm;exact⟨rfl,rfl⟩
 .subst e1;rw[List.map_id];have:=hg.le;refine AY (by rw[ui4,hL];lia) ?_;symm;exact⟨rfl,e2⟩
abbrev rdF(g:List GS)(h W P:Nat):List (Str×D):=[("grammar",.lst (g.map GS.d)),("standing",.int (h:Nat)),("wires",.obj W),("places",.obj P)]
structure Rdr(n0:Nat)(S:List Ob)(k:Nat)(g:List GS)(vl vr:List Nat)(h a b W P l r:Nat):Prop where
 k0:n0<=k
 l0:n0<=l
 r0:n0<=r
 ne:l≠r
 k:S[k]?=some (.ins "Reader" (rdF g h W P))
 w:S[W]?=some (.dct (lr (.obj l) (.obj r)))
 p:S[P]?=some (.dct (dP a b))
 l:S[l]?=some (.lst (wD vl))
 r:S[r]?=some (.lst (wD vr))
def Low(n0:Nat)(S S':List Ob):Prop:=n0<=S'.length/\∀i,i<n0->S'[i]?=S[i]?
variable{n0 l r:Nat}
theorem Rdr.gr{k:Nat}{W P:Nat}(R:Rdr n0 S k g vl vr h a b W P l r)(G:Gr S S'):Rdr n0 S' k g vl vr h a b W P l r:=
 ⟨R.k0,R.l0,R.r0,R.ne,G.get R.k,G.get R.w,G.get R.p,G.get R.l,G.get R.r⟩
variable{u:Ob}
theorem Az(h:S[i]?=some u)(n:j≠i):(S.set j o)[i]?=some u:=by rw[ud3 n];exact h
theorem B4(h:S[i]?=some o)(h':S[j]?=some u)(n:o≠u):i≠j:=λe=>by subst e;rw[h] at h';exact n (ui3 h')
theorem Rdr.ext{k:Nat}{W P:Nat}{side:Str}(x:List Nat)(R:Rdr n0 S k g vl vr h a b W P l r) :
 S[onS side l r]?=some (.lst (wD (onS side vl vr)))/\Rdr n0 (S.set (onS side l r) (.lst (wD (onS side vl vr)++wD x))) k g (onS side (vl++x) vl) (onS side vr (vr++x)) h a b W P l r:=by
 unfold onS
 split
 .refine⟨R.l,R.k0,R.l0,R.r0,R.ne,Az R.k (B4 R.l R.k (by simp)),Az R.w (B4 R.l R.w (by simp)),Az R.p (B4 R.l R.p (by simp)),?_,Az R.r R.ne⟩;rw[<-Gm];exact A4 R.l
 .refine⟨R.r,R.k0,R.l0,R.r0,R.ne,Az R.k (B4 R.r R.k (by simp)),Az R.w (B4 R.r R.w (by simp)),Az R.p (B4 R.r R.p (by simp)),Az R.l (Ne.symm R.ne),?_⟩;rw[<-Gm];exact A4 R.r
theorem Rdr.put{k:Nat}{h' a' b' W P Q:Nat}(R:Rdr n0 S k g vl vr h a b W P l r)(e:S[Q]?=some (.dct (dP a' b'))):Rdr n0 (S.set k (.ins "Reader" (rdF g h' W Q))) k g vl vr h' a' b' W Q l r:=
 ⟨R.k0,R.l0,R.r0,R.ne,A4 R.k,Az R.w (B4 R.k R.w (by simp)),Az e (B4 R.k e (by simp)),Az R.l (B4 R.k R.l (by simp)),Az R.r (B4 R.k R.r (by simp))⟩
def J8(f:Fn):Prop:=∀(S:List Ob) (k:Nat) (g:List GS),GOk g->S[k]?=some (.ins "Reader" [])->Wf f [.obj k,.lst (g.map GS.d)] S λq S'=>q=.non/\(∀i,i<S.length->i≠k->S'[i]?=S[i]?)/\S.length<=S'.length/\∃W P l r,Rdr k S' k g [] [] 0 0 0 W P l r
def Lf(f:Fn):Prop:=∀(S:List Ob) (k:Nat) (g:List GS),GOk g->S[k]?=some (.ins "Reader" [])->Wf f [.obj k,.lst (g.map GS.d),.tup [.str sL,.str sR]] S λq S'=>q=.non/\(∀i,i<S.length->i≠k->S'[i]?=S[i]?)/\S.length<=S'.length/\∃W P l r,Rdr k S' k g [] [] 0 0 0 W P l r
def Kp(k:Nat)(S S':List Ob):Prop:=S.length<=S'.length/\∀i,i<S.length->i≠k->S'[i]?=S[i]?
theorem Kp.refl{k:Nat}:Kp k S S:=⟨un4 _,λ_ _ _=>rfl⟩
theorem Kp.setk{k:Nat}(a:Kp k S S'):Kp k S (S'.set k o):=⟨by rw[uj8];exact a.1,λi h n=>by rw[ud3 (Ne.symm n)];exact a.2 i h n⟩
theorem Kp.set{k j:Nat}{S S':List Ob}{o:Ob}(a:Kp k S S')(h:S.length<=j):Kp k S (S'.set j o):=⟨by rw[uj8];exact a.1,λi hi n=>by rw[ud3 (by lia)];exact a.2 i hi n⟩
theorem Kp.app{k:Nat}(a:Kp k S S'):Kp k S (S'++[o]):=⟨by rw[ue8];exact um4 a.1 (uh4 _ _),λi hi n=>by rw[ub0 (ue3 hi a.1)];exact a.2 i hi n⟩
theorem Bw(h:S[i]?=some u):(S++[o])[i]?=some u:=by rw[ub0 (ua9.mp h).1];exact h
theorem B8(h:S[i]?=some u):i<S.length:=(ua9.mp h).1
theorem T8(hc:Pk c):Lf (fnOf 3 4 (EC c)):=by
 intro S k g hg hk;have hkl:=B8 hk;refine Ak rfl ?_;unfold EC;symm;refine(hc g hg).use ?_;symm;refine Fe hk (by show 0<1000;decide) ?_;have k1:Kp k S (S.set k (.ins "Reader" [("grammar",.lst (g.map GS.d))])):=Kp.refl.setk;have g1:(S.set k (.ins "Reader" [("grammar",.lst (g.map GS.d))]))[k]?=some (.ins "Reader" [("grammar",.lst (g.map GS.d))]):=A4 hk;show D5 _ _ Out.next ⟨_,S.set k (.ins "Reader" [("grammar",.lst (g.map GS.d))])⟩;generalize S.set k (.ins "Reader" [("grammar",.lst (g.map GS.d))])=S1 at k1 g1⊢;symm;refine Fe g1 (by show 1<1000;decide) ?_;have k2:Kp k S (S1.set k (.ins "Reader" [("grammar",.lst (g.map GS.d)),("standing",.int (0:Nat))])):=k1.setk;have g2:(S1.set k (.ins "Reader" [("grammar",.lst (g.map GS.d)),("standing",.int (0:Nat))]))[k]?=some (.ins "Reader" [("grammar",.lst (g.map GS.d)),("standing",.int (0:Nat))]):=A4 g1;show D5 _ _ Out.next ⟨_,S1.set k (.ins "Reader" [("grammar",.lst (g.map GS.d)),("standing",.int (0:Nat))])⟩;generalize S1.set k (.ins "Reader" [("grammar",.lst (g.map GS.d)),("standing",.int (0:Nat))])=S2 at k2 g2⊢;symm;refine Fe (Bw g2) (by show 2<1000;decide) ?_;obtain⟨W,hW⟩:∃W,W=S2.length:=⟨_,rfl⟩;have w3:((S2++[Ob.dct []]).set k (.ins "Reader" [("grammar",.lst (g.map GS.d)),("standing",.int (0:Nat)),("wires",.obj W)]))[W]?=some (.dct []):=by rw[hW];exact Az Dp (um3 (B8 g2))
 have k3:Kp k S ((S2++[Ob.dct []]).set k (.ins "Reader" [("grammar",.lst (g.map GS.d)),("standing",.int (0:Nat)),("wires",.obj W)])):=k2.app.setk;have g3:((S2++[Ob.dct []]).set k (.ins "Reader" [("grammar",.lst (g.map GS.d)),("standing",.int (0:Nat)),("wires",.obj W)]))[k]?=some (.ins "Reader" [("grammar",.lst (g.map GS.d)),("standing",.int (0:Nat)),("wires",.obj W)]):=A4 (Bw g2);have hSW:S.length<=W:=by rw[hW];exact k2.1
 show D5 _ _ Out.next ⟨_,(S2++[Ob.dct []]).set k (.ins "Reader" [("grammar",.lst (g.map GS.d)),("standing",.int (0:Nat)),("wires",.obj S2.length)])⟩;rw[<-hW];generalize (S2++[Ob.dct []]).set k (.ins "Reader" [("grammar",.lst (g.map GS.d)),("standing",.int (0:Nat)),("wires",.obj W)])=S3 at w3 k3 g3⊢;symm;refine Fe (Bw g3) (by show 3<1000;decide) ?_;obtain⟨P,hP⟩:∃P,P=S3.length:=⟨_,rfl⟩;have w4:((S3++[Ob.dct []]).set k (.ins "Reader" (rdF g 0 W P)))[W]?=some (.dct []):=Az (Bw w3) (B4 g3 w3 (by simp));have p4:((S3++[Ob.dct []]).set k (.ins "Reader" (rdF g 0 W P)))[P]?=some (.dct []):=by rw[hP];exact Az Dp (um3 (B8 g3))
 have k4:Kp k S ((S3++[Ob.dct []]).set k (.ins "Reader" (rdF g 0 W P))):=k3.app.setk;have g4:((S3++[Ob.dct []]).set k (.ins "Reader" (rdF g 0 W P)))[k]?=some (.ins "Reader" (rdF g 0 W P)):=A4 (Bw g3);have hWP:W<P:=by rw[hP];exact B8 w3
 show D5 _ _ Out.next ⟨_,(S3++[Ob.dct []]).set k (.ins "Reader" (rdF g 0 W S3.length))⟩;rw[<-hP];generalize (S3++[Ob.dct []]).set k (.ins "Reader" (rdF g 0 W P))=S4 at w4 p4 k4 g4⊢;symm;have hWk:W≠k:=λe=>by subst e;lia
 have hPk:P≠k:=λe=>by subst e;lia
 refine W_forL_cons.mpr ?_;symm;refine D9 (Bw g4) rfl ?_;symm;refine Ei (Bw w4) (by show 0<100000;decide) ?_;obtain⟨l,hl⟩:∃l,l=S4.length:=⟨_,rfl⟩;have hlk:k<l:=by rw[hl];exact B8 g4
 have hlW:W<l:=by rw[hl];exact B8 w4
 have hlP:P<l:=by rw[hl];exact B8 p4
 have k5:Kp k S ((S4++[Ob.lst []]).set W (.dct [(kL,.obj l)])):=k4.app.set hSW;have g5:((S4++[Ob.lst []]).set W (.dct [(kL,.obj l)]))[k]?=some (.ins "Reader" (rdF g 0 W P)):=Az (Bw g4) hWk;have w5:((S4++[Ob.lst []]).set W (.dct [(kL,.obj l)]))[W]?=some (.dct [(kL,.obj l)]):=A4 (Bw w4);have p5:((S4++[Ob.lst []]).set W (.dct [(kL,.obj l)]))[P]?=some (.dct []):=Az (Bw p4) (by lia);have l5:((S4++[Ob.lst []]).set W (.dct [(kL,.obj l)]))[l]?=some (.lst []):=by rw[hl];exact Az Dp (by lia)
 have n5:((S4++[Ob.lst []]).set W (.dct [(kL,.obj l)])).length=l+1:=by rw[uj8,ue8,hl];rfl
 show D5 _ _ Out.next ⟨_,(S4++[Ob.lst []]).set W (.dct [(kL,.obj S4.length)])⟩;rw[<-hl];generalize (S4++[Ob.lst []]).set W (.dct [(kL,.obj l)])=S5 at k5 g5 w5 p5 l5 n5⊢;symm;refine D9 g5 rfl ?_;symm;refine Ei p5 (by show 0<100000;decide) ?_;have k6:Kp k S (S5.set P (.dct [(kL,.int (0:Nat))])):=k5.set (by lia);have g6:(S5.set P (.dct [(kL,.int (0:Nat))]))[k]?=some (.ins "Reader" (rdF g 0 W P)):=Az g5 hPk;have w6:(S5.set P (.dct [(kL,.int (0:Nat))]))[W]?=some (.dct [(kL,.obj l)]):=Az w5 (by lia);have p6:(S5.set P (.dct [(kL,.int (0:Nat))]))[P]?=some (.dct [(kL,.int (0:Nat))]):=A4 p5;have l6:(S5.set P (.dct [(kL,.int (0:Nat))]))[l]?=some (.lst []):=Az l5 (by lia);have n6:(S5.set P (.dct [(kL,.int (0:Nat))])).length=l+1:=by rw[uj8];exact n5
 show L2.W (CS _ _ _) ⟨_,S5.set P (.dct [(kL,.int (0:Nat))])⟩ _;generalize S5.set P (.dct [(kL,.int (0:Nat))])=S6 at k6 g6 w6 p6 l6 n6⊢;refine W_forL_cons.mpr ?_;symm;refine D9 (Bw g6) rfl ?_;symm;refine Ei (Bw w6) (by show 1<100000;decide) ?_;have k7:Kp k S ((S6++[Ob.lst []]).set W (.dct (lr (.obj l) (.obj (l+1))))):=k6.app.set hSW;have g7:((S6++[Ob.lst []]).set W (.dct (lr (.obj l) (.obj (l+1)))))[k]?=some (.ins "Reader" (rdF g 0 W P)):=Az (Bw g6) hWk;have w7:((S6++[Ob.lst []]).set W (.dct (lr (.obj l) (.obj (l+1)))))[W]?=some (.dct (lr (.obj l) (.obj (l+1)))):=A4 (Bw w6);have p7:((S6++[Ob.lst []]).set W (.dct (lr (.obj l) (.obj (l+1)))))[P]?=some (.dct [(kL,.int (0:Nat))]):=Az (Bw p6) (by lia);have l7:((S6++[Ob.lst []]).set W (.dct (lr (.obj l) (.obj (l+1)))))[l]?=some (.lst []):=Az (Bw l6) (by lia);have r7:((S6++[Ob.lst []]).set W (.dct (lr (.obj l) (.obj (l+1)))))[l+1]?=some (.lst []):=by rw[<-n6];exact Az Dp (by lia)
 have hput:CG [(kL,D.obj l)] (.inr sR) (.obj S6.length)=lr (.obj l) (.obj (l+1)):=by rw[n6];rfl
 rw[hput];generalize (S6++[Ob.lst []]).set W (.dct (lr (.obj l) (.obj (l+1))))=S7 at k7 g7 w7 p7 l7 r7⊢;symm;refine D9 g7 rfl ?_;symm;refine Ei p7 (by show 1<100000;decide) ?_;show L2.W (CS _ _ []) ⟨_,S7.set P (.dct (dP 0 0))⟩ _;refine W_forL_nil.mpr ?_;refine⟨rfl,λi h n=>(k7.set (by lia)).2 i h n,(k7.set (by lia)).1,W,P,l,l+1,?_⟩;exact⟨un4 _,by lia,by lia,by lia,Az g7 hPk,Az w7 (by lia),A4 p7,Az l7 (by lia),Az r7 (by lia)⟩
theorem Wu(hc:Lf c):J8 (fnOf 2 2 (ED c)):=by
 intro S k g hg hk;refine Ak rfl ?_;unfold ED;symm;refine(hc S k g hg hk).mono λq S' z9=>?_;clear 5 z9 e h1 h2 h3;symm;exact⟨rfl,h1,h2,h3⟩
theorem Sv{k:Nat}{W P:Nat}(R:Rdr n0 S k g vl vr h a b W P l r):PureS S (fnOf 1 1 DT) [.obj k] (.int (h:Nat)):=by
 refine Ak rfl ?_;unfold DT;symm;refine D9 R.k rfl ?_;symm;exact⟨rfl,rfl⟩
local macro_rules | `(tactic| walk_at"y1")=>`(tactic| first
 |walk_at"x1" |clear 31 U3 L3 ST Op VI VH)
section
variable{n0:Nat}{S:List Ob}{k:Nat}{g:List GS}{vl vr:List Nat}{h a b W P l r:Nat}
theorem IJ(R:Rdr n0 S k g vl vr h a b W P l r){side:Str}(hs:side=sL\/side=sR):PureS S (fnOf 2 2 B3) [.obj k,.str side] (.int (((onS side vl vr).length:Nat)-((onS side a b:Nat):Int))):=by
 have hon:(onS side (D.int (a:Int)) (D.int (b:Int)))=.int ((onS side a b:Nat):Int):=by unfold onS;split<;>rfl
 have hon2:Wir S (onS side (D.obj l) (D.obj r)) (onS side vl vr):=by unfold onS;split;exact .inr ⟨l,rfl,R.l⟩;exact .inr ⟨r,rfl,R.r⟩
 refine Ak rfl ?_;unfold B3;symm;refine D9 R.k rfl ?_;symm;refine BJ R.w (BI hs) ?_;symm;refine La hon2 ?_;symm;refine D9 R.k rfl ?_;symm;refine BJ R.p (BI hs) ?_;rw[hon];symm;exact⟨rfl,rfl⟩
theorem SO(R:Rdr n0 S k g vl vr h a b W P l r):PureS S (fnOf 1 1 (Dv (fnOf 2 2 B3))) [.obj k] (.tup [.int ((vl.length:Nat)-(a:Int)),.int ((vr.length:Nat)-(b:Int))]):=by
 refine Ak rfl ?_;unfold Dv;symm;refine⟨k,_,rfl,R.k,?_⟩;symm;refine(IJ R (.inl rfl)).use ?_;symm;refine⟨k,_,rfl,R.k,?_⟩;symm;refine(IJ R (.inr rfl)).use ?_;symm;refine⟨?_,rfl⟩;rw[show onS sL vl vr=vl from jY rfl,show onS sR vl vr=vr from jZ (Ne.symm sLR),show onS sL a b=a from jY rfl,show onS sR a b=b from jZ (Ne.symm sLR)]
end
theorem dX{side:Str}(v x:List Nat):onS side (v++x) v=v++(if side=sL then x else []):=by
 unfold onS
 split
 .rfl
 .rw[ui6]
theorem dY{side:Str}(hs:side=sL\/side=sR)(v x:List Nat):onS side v (v++x)=v++(if side=sR then x else []):=by
 unfold onS;rcases hs with rfl|rfl
 .rw[jY rfl,jZ sLR,ui6]
 .rw[jZ (Ne.symm sLR),jY rfl]
mutual
noncomputable def Bz:Sh->Bool
 |.number lo hi=>decide (hi-lo<1000000000)
 |.list s _=>Bz s
 |.pair s r=>Bz s&&Bz r
 |.choice ss=>GR ss
 |_=>true
noncomputable def GR:List Sh->Bool
 |[]=>true
 |s::r=>Bz s&&GR r
end
theorem GI:∀{ss:List Sh},GR ss=true->∀s∈ss,Bz s=true
 |x::r,h,s,m=>by
   rw[GR,uh1] at h;rcases uk9.mp m with e|m
   .subst e;exact h.1
   .exact GI h.2 s m
mutual
noncomputable def Dj:Sh->Bool
 |.text m=>decide (m<=3)
 |.list s m=>decide (m<=3)&&Dj s
 |.pair s r=>Dj s&&Dj r
 |.choice ss=>K7 ss
 |_=>true
noncomputable def K7:List Sh->Bool
 |[]=>true
 |s::r=>Dj s&&K7 r
end
theorem Mt:∀{ss:List Sh},K7 ss=true->∀s∈ss,Dj s=true
 |x::r,h,s,m=>by
   rw[K7,uh1] at h;rcases uk9.mp m with e|m
   .subst e;exact h.1
   .exact Mt h.2 s m
noncomputable def bt:Nat->Nat
 |0=>4
 |d+1=>1+3*bt d
theorem M0:∀d,4<=bt d
 |0=>un4 _
 |d+1=>by have:=M0 d;rw[bt];lia
structure Dr(d:Nat)(s:Sh):Prop where
 ok:wf s=true
 dep:s.depth<=d+1
 nar:Bz s=true
 tin:Dj s=true
 few:∀v,Ah s v=true->(Av s v).length<=bt d
theorem Dr.nothing{d:Nat}:Dr d .nothing:=⟨rfl,by rw[Sh.depth];lia,rfl,rfl,λv h=>by
 have:v=.non:=by cases v<;>simp[Ah,Gp] at h<;>rfl
 subst this;exact un5 _⟩
theorem Dr.number{d:Nat}{lo w:Int}(h1 : -4<=lo)(h2:lo<=4)(h3:0<=w)(h4:w<=70000):Dr d (.number lo (lo+w)):=by
 refine⟨?_,by rw[Sh.depth];lia,?_,rfl,λv h=>?_⟩
 .simp only[wf,uh1,ug4];lia
 .simp only[Bz,ug4];lia
 .have hb:=M0 d;have hw:=IM 3 (lo+w-lo).toNat (by show _<16777216;lia)
  cases v with
  |int i=>rw[Av,NO];lia
  |_=>simp[Ah] at h
theorem Dr.text{d:Nat}{m:Int}(h1:0<=m)(h2:m<=3):Dr d (.text m):=by
 refine⟨?_,by rw[Sh.depth];lia,rfl,?_,λv h=>?_⟩
 .simp only[wf,uh1,ug4];lia
 .simp only[Dj,ug4];lia
 .have hb:=M0 d
  cases v with
  |str x=>
    simp only[Ah,uh1,ug4] at h;have h:=h.1;rw[Fr] at h;rw[Av,ug7,ui4];lia
  |_=>simp[Ah] at h
theorem OS{s:Sh}{n:Nat}:∀(ds:List D),(∀d∈ds,(Av s d).length<=n)->((ds.map λd=>Av s d).flatten).length<=ds.length*n
 |[],_=>un5 _
 |d::r,h=>by
   have h1:=OS r λx m=>h x (ud2 _ m);have h2:=h d ue4;rw[ul0,uf7,ue8,ug7,Nat.add_mul,Nat.one_mul];lia
theorem Dr.list{d:Nat}{s:Sh}{m:Int}(h:Dr d s)(h1:0<=m)(h2:m<=3):Dr (d+1) (.list s m):=by
 have:=h.dep;refine⟨?_,by rw[Sh.depth];lia,by rw[Bz];exact h.nar,?_,λv hf=>?_⟩
 .simp only[wf,uh1,ug4,h.ok];exact⟨⟨by lia,by lia⟩,trivial⟩
 .simp only[Dj,h.tin,ul6,ug4];lia
 .cases v with
  |lst ds=>
    rw[Ah,uh1,ug4,uh5] at hf;have h3:=OS ds λx m=>h.few x (hf.2 x m);have h4:ds.length*bt d<=3*bt d:=Nat.mul_le_mul_right _ (by lia);rw[Av,ug7,bt];lia
  |_=>simp[Ah] at hf
theorem Dr.pair{d:Nat}{s r:Sh}(h:Dr d s)(h':Dr d r):Dr (d+1) (.pair s r):=by
 have:=h.dep;have:=h'.dep;refine⟨by simp only[wf,h.ok,h'.ok,ul9],by rw[Sh.depth];lia,by simp only[Bz,h.nar,h'.nar,ul9],by simp only[Dj,h.tin,h'.tin,ul9],λv hf=>?_⟩;unfold Ah at hf
 split at hf
 .rw[uh1] at hf;have h1:=h.few _ hf.1;have h2:=h'.few _ hf.2;rw[Av,ue8,bt];lia
 .cases hf
theorem Dr.choice{d:Nat}{s r:Sh}(h:Dr d s)(h':Dr d r):Dr (d+1) (.choice [s,r]):=by
 have:=h.dep;have:=h'.dep;refine⟨?_,?_,by simp only[Bz,GR,h.nar,h'.nar,ul9],by simp only[Dj,K7,h.tin,h'.tin,ul9],λv hf=>?_⟩
 .simp only[wf,wfs,h.ok,h'.ok,ul9,ul6,uh1,ug4,ug7,uj2];lia
 .rw[Sh.depth,FL,FL,FL];lia
 .unfold Ah at hf
  split at hf
  .next o k x=>
   simp only[uh1,ug4] at hf;clear 5(ub6 hf.1.2.1)j rfl;have hj:j < [s,r].length:=by have:=hf.1.2.2;lia
   have e1:[s,r][j]?=some [s,r][j]:=ub3 hj;have h2:=hf.2;rw[uf6,Cc [s,r] _ _ _ e1] at h2;rw[Av,uf6,El [s,r] _ _ _ e1,ug7,bt];have hm:[s,r][j]=s\/[s,r][j]=r:=by
    match j,hj with
    |0,_=>exact .inl rfl
    |1,_=>exact .inr rfl
   rcases hm with e|e
   .rw[e] at h2⊢;have:=h.few x h2;lia
   .rw[e] at h2⊢;have:=h'.few x h2;lia
  .cases hf
theorem Zi(c:Int):c%7=0\/c%7=1\/c%7=2\/c%7=3\/c%7=4\/c%7=5\/c%7=6:=by lia
noncomputable def p4(k:Int):Int:=if k=0 then 1 else if k=1 then 4 else 16
theorem aJ{i:Int}(h:x.length<=LIM)(e:atI x.cps.toList i=some n)(p:P (.str ⟨#[n]⟩) t):W (ixD (.str x) (.int i)) t P:=W_ix_str.mpr ⟨h,n,e,p⟩
theorem Xk{d:D}(h:d∈rngL 0 n):∃k:Int,d=.int k/\0<=k/\k<n:=by
 clear 5(List.getElem_of_mem h)j hj e;have e1:d::(rngL 0 n).drop (j+1)=(rngL 0 n).drop j:=by rw[<-e];exact(ub1 hj).symm
 obtain⟨rfl,_,hlt⟩:=Di e1;exact⟨0+j,rfl,by lia,by lia⟩
theorem Fh{i j:Int}(h1 : -18446744073709551616<j)(h2:j<18446744073709551616)(h:P (.int (i*j)) t):W (Cu (.int i) (.int j)) t P:=Qz (O1 h1 h2) h
def Tin(x:GS):Prop:=∀w∈x.ws,Dr 2 w.2.1
theorem bU(i:Int):∃s:Str,atI [D.str (Str.ofString "left"),.str (Str.ofString "right")] (i%2)=some (.str s)/\(s=Str.ofString "left"\/s=Str.ofString "right"):=by
 have:i%2=0\/i%2=1:=by lia
 rcases this with h|h<;>rw[h]
 .exact⟨_,rfl,.inl rfl⟩
 .exact⟨_,rfl,.inr rfl⟩
theorem JJ(hq:q<g.length):An g q∈g:=by
 unfold An;rw[ua7,ub3 hq];exact uh7 hq
section
variable{α:Type}{o:Str}{x y z:α}
end
abbrev w1(g:List GS)(o:Str)(w:List Nat)(F h a:Nat)(t:List D):Rs:=AR g (onS o w []) (onS o [] w) F h (onS o a 0) (onS o 0 a) t
abbrev s1(g:List GS)(o:Str)(w:List Nat)(h a:Nat):Sr:=B1 g (onS o w []) (onS o [] w) h (onS o a 0) (onS o 0 a)
abbrev mbQ(g:List GS)(q p:Nat)(v:D):List D:=.int (p:Int)::Av (wdAt g q p).2.1 v
abbrev d1(o:Str)(d:D):List (Key×D):=[(.inr o,d)]
def Kx(F:List Nat)(S S':List Ob):Prop:=S.length<=S'.length/\∀i,i<S.length->i∉F->S'[i]?=S[i]?
section
variable{F:List Nat}{S S1 S2:List Ob}{k:Nat}{o:Ob}
theorem Kx.refl:Kx F S S:=⟨un4 _,λ_ _ _=>rfl⟩
theorem Kx.set(a:Kx F S S1)(h:k∈F):Kx F S (S1.set k o):=⟨by rw[uj8];exact a.1,λi hi n=>by rw[ud3 (λe=>n (by rw[<-e];exact h))];exact a.2 i hi n⟩
theorem Kx.gr(a:Kx F S S1)(b:Gr S1 S2):Kx F S S2:=⟨um4 a.1 b.1,λi h n=>(b.2 i (ue3 h a.1)).trans (a.2 i h n)⟩
theorem Kx.get(a:Kx F S S1)(n:k∉F)(h:S[k]?=some o):S1[k]?=some o:=by rw[a.2 k (B8 h) n];exact h
end
abbrev lsF(g:List GS)(x:Str)(h tk hd W P q:Nat):List (Str×D):=[("grammar",.lst (g.map GS.d)),("standing",.int (h:Nat)),("wires",.obj W),("places",.obj P),("side",.str x),("said",.obj q),("taken",.int (tk:Nat)),("handed",.int (hd:Nat))]
structure Lst(S:List Ob)(g:List GS)(x o:Str)(h a tk hd:Nat)(w sd:List Nat)(k l q W P:Nat):Prop where
 ik:S[k]?=some (.ins "Lasting" (lsF g x h tk hd W P q))
 iw:S[W]?=some (.dct (d1 o (.obj l)))
 ip:S[P]?=some (.dct (d1 o (.int (a:Nat))))
 il:S[l]?=some (.lst (wD w))
 iq:S[q]?=some (.lst (wD sd))
 ne:l≠q
section
variable{S S':List Ob}{g:List GS}{x o:Str}{h a tk hd:Nat}{w sd:List Nat}{k l q W P:Nat}
end
def Two(x o:Str):Prop:=(x=sL/\o=sR)\/(x=sR/\o=sL)
structure Hea(S S':List Ob)(k W P l:Nat)(o:Str)(fs:List (Str×D)):Prop where
 kp:Kp k S S'
 ik:S'[k]?=some (.ins "Lasting" fs)
 iw:S'[W]?=some (.dct (d1 o (.obj l)))
 ip:S'[P]?=some (.dct (d1 o (.int (0:Nat))))
 il:S'[l]?=some (.lst [])
 gw:S.length<=W
 gp:S.length<=P
 gl:S.length<=l
def Gw(S S':List Ob):Prop:=S.length<=S'.length/\∀i,i<S.length->S'[i]?=S[i]?
mutual
inductive Ow(S:List Ob):D->D->List Nat->Prop
 |non:Ow S .non .non []
 |int (i:Int):Ow S (.int i) (.int i) []
 |str (x:Str):Ow S (.str x) (.str x) []
 |tup {ds vs:List D}{fp:List Nat}:Ows S ds vs fp->Ow S (.tup ds) (.tup vs) fp
 |obj {k:Nat}{ds vs:List D}{fp:List Nat}:S[k]?=some (.lst ds)->Ows S ds vs fp->k∉fp->Ow S (.obj k) (.lst vs) (k::fp)
inductive Ows(S:List Ob):List D->List D->List Nat->Prop
 |nil:Ows S [] [] []
 |cons {d v:D}{fp fp':List Nat}{ds vs:List D}:Ow S d v fp->Ows S ds vs fp'->(∀k∈fp,k∉fp')->Ows S (d::ds) (v::vs) (fp++fp')
end
def prt(g:List GS)(mv:List Mv)(i:Nat):List D:=match mv[i]? with
 |some (p,v)=>.int (p:Int)::Av (wdAt g (Aj g 0 (mv.take i)) p).2.1 v
 |none=>[]
variable{mv:List Mv}
theorem Mx(sd:Str)(em:mv[j]?=some (p,v)):Ai g sd 0 (mv.take (j+1))=Ai g sd 0 (mv.take j)++(if (An g (Aj g 0 (mv.take j))).side=sd then prt g mv j else []):=by
 rw[show mv.take (j+1)=mv.take j++[(p,v)] by rw[jz,em];rfl,DO,Ai,Ai,ui6];unfold prt;rw[em]
structure Due(g:List GS)(mv:List Mv)(rl rr k:Nat):Prop where
 le:k<=mv.length
 a:(Ai g sL 0 (mv.take k)).length<=rl
 b:(Ai g sR 0 (mv.take k)).length<=rr
 z:k=mv.length\/(k<mv.length/\onS (An g (Aj g 0 (mv.take k))).side rl rr<onS (An g (Aj g 0 (mv.take k))).side (Ai g sL 0 (mv.take k)).length (Ai g sR 0 (mv.take k)).length+(prt g mv k).length)
theorem X3(w:List Nat)(r:Nat):wD (w.take r)=(wD w).take r:=by unfold wD;rw[ul4]
theorem QP{m:List Nat}{R:List D}(e:wD w=xs++R)(h:xs.length<=r):At (w.take r++m) 0 xs:=by
 refine⟨[],R.take (r-xs.length)++wD m,?_,rfl⟩;rw[uj0,Gm,X3,e,List.take_append,uc1 h,uf8]
theorem HU(sd:Str)(k:Nat):Ai g sd 0 mv=Ai g sd 0 (mv.take k)++Ai g sd (Aj g 0 (mv.take k)) (mv.drop k):=by
 have e:Ai g sd 0 mv=Ai g sd 0 (mv.take k++mv.drop k):=by rw[ud1]
 rw[e,DO]
theorem Zj{k:Nat}{sd:Str}(em:mv[k]?=some (p,v))(es:(An g (Aj g 0 (mv.take k))).side=sd)(e:wD w=Ai g sd 0 mv):At w (Ai g sd 0 (mv.take k)).length (prt g mv k):=by
 have hk:=(ua9.mp em).1;have ed:mv.drop k=(p,v)::mv.drop (k+1):=by
  rw[ub1 hk];rw[ub3 hk] at em;rw[ui3 em]
 refine⟨Ai g sd 0 (mv.take k),Ai g sd (nextQ g (Aj g 0 (mv.take k)) p) (mv.drop (k+1)),?_,rfl⟩;rw[e,HU sd k,ed,Ai,jY es];unfold prt;rw[em]
theorem To{k:Nat}{side:Str}{ws:List (Str×Sh×Int)}(hg:GOk g)(hok:okQ g 0 mv)(em:mv[k]?=some (p,v))(eg:An g (Aj g 0 (mv.take k))=.st side ws)(e:wD w=Ai g side 0 mv)(h:r<(Ai g side 0 (mv.take k)).length+(prt g mv k).length):(msgR side ws (w.take r) (Ai g side 0 (mv.take k)).length).1=.short:=by
 have hm:=GV hok em;have hw:=Fi hg hm.lt hm.pl;have hfit:=hm.fit;have hA:=Zj em (by rw[eg];rfl) e;have hp:prt g mv k=.int (p:Int)::Av (wdAt g (Aj g 0 (mv.take k)) p).2.1 v:=by unfold prt;rw[em]
 rw[hp] at hA h;rw[ug7] at h;clear 5(At.head hA)h1 h2;have hrun:=back 3 _ hw.dep hw.ok w v _ hfit h2;generalize (Ai g side 0 (mv.take k)).length=a at *;clear 5(Fg hm.pl)side' ws' eg' hpl ew;rw[eg] at eg'
 cases eg'
 unfold msgR
 by_cases hr:a<r
 .rw[show(w.take r)[a]?=some p by rw[uf1,jY hr];exact h1];dsimp only;rw[ew];dsimp only;exact UY _ _ hrun hr (by lia)
 .rw[show(w.take r)[a]?=none by rw[uf1,jZ hr]]
variable{rl rr:Nat}
theorem Va{ml mr:List Nat}{k:Nat}(hg:GOk g)(hok:okQ g 0 mv)(el:wD wl=Ai g sL 0 mv)(er:wD wr=Ai g sR 0 mv)(hrl:rl<=wl.length)(hrr:rr<=wr.length)(hD:Due g mv rl rr k)(hml:ml=[]\/(An g (Aj g 0 (mv.take k))).side≠sL)(hmr:mr=[]\/(An g (Aj g 0 (mv.take k))).side≠sR) :
 AR g (wl.take rl++ml) (wr.take rr++mr) ((wl.take rl++ml).length+(wr.take rr++mr).length+1) 0 0 0 []=(Ao g 0 (mv.take k),Aj g 0 (mv.take k),(Ai g sL 0 (mv.take k)).length,(Ai g sR 0 (mv.take k)).length,none):=by
 have hokk:=E7 hok k;have hlen:=NM hg 0 (mv.take k) hokk;have ha:=hD.a;have hb:=hD.b;have l1:(wl.take rl).length=rl:=by rw[ug9];lia
 have l2:(wr.take rr).length=rr:=by rw[ug9];lia
 obtain⟨F,hF⟩:∃F,(wl.take rl++ml).length+(wr.take rr++mr).length+1=F+(mv.take k).length:=⟨(wl.take rl++ml).length+(wr.take rr++mr).length+1-(mv.take k).length,by rw[ue8,ue8];lia⟩;rw[hF,IK hg (mv.take k) 0 0 0 F [] hokk (QP (el.trans (HU sL k)) ha) (QP (er.trans (HU sR k)) hb),un3,un3,uj0];refine Mw ?_ F;unfold B1
 cases eg:An g (Aj g 0 (mv.take k)) with
 |fin=>rfl
 |st side ws=>
   rw[eg] at hml hmr;have hz:=hD.z;rw[eg] at hz;have hs:side=sL\/side=sR:=by
    have hgs:=A9 hg (DR hg hg.ne hokk);rw[eg] at hgs
    cases hgs with
    |st h1 _ _ _ _=>exact h1
   dsimp only;have key:(msgR side ws (onS side (wl.take rl++ml) (wr.take rr++mr)) (onS side (Ai g sL 0 (mv.take k)).length (Ai g sR 0 (mv.take k)).length)).1=.short:=by
    have one:∀(w:List Nat) (r:Nat),wD w=Ai g side 0 mv->r<=w.length->(Ai g side 0 (mv.take k)).length<=r->(k=mv.length\/(k<mv.length/\r<(Ai g side 0 (mv.take k)).length+(prt g mv k).length))->(msgR side ws (w.take r) (Ai g side 0 (mv.take k)).length).1=.short:=λw r e h1 h2 h3=>by
     rcases h3 with h3|⟨h3,h4⟩
     .subst h3;rw[uh9] at h2⊢;rw[<-e,Bi] at h2⊢;unfold msgR;rw[show(w.take r)[w.length]?=none by rw[uf1];split<;>first|exact ud0 (un4 _)|rfl]
     .obtain⟨p,v,hpv⟩:∃p v,mv[k]?=some (p,v):=⟨mv[k].1,mv[k].2,ub3 h3⟩;exact To hg hok hpv eg e h4
    have hsd:(GS.st side ws).side=side:=rfl;rw[hsd] at hml hmr hz;unfold onS at hz⊢;rcases Pd hs with⟨q1,q2⟩|⟨q1,q2⟩
    .rw[jY q1,jY q1] at hz⊢;have hml:ml=[]:=by rcases hml with h|h;exact h;exact absurd q1 h
     rw[hml,ui6];subst q1;exact one wl rl el hrl ha hz
    .rw[jZ q1,jZ q1] at hz⊢;have hmr:mr=[]:=by rcases hmr with h|h;exact h;exact absurd q2 h
     rw[hmr,ui6];subst q2;exact one wr rr er hrr hb hz
   generalize msgR side ws (onS side (wl.take rl++ml) (wr.take rr++mr)) (onS side (Ai g sL 0 (mv.take k)).length (Ai g sR 0 (mv.take k)).length)=mr' at key;clear 5 mr' r0 c0;have key:r0=.short:=key;subst key;rfl
theorem Ou(h:Ah .nothing v=true):v=.non:=by cases v<;>simp[Ah,Gp] at h<;>rfl
theorem PU{lo hi:Int}(h:Ah (.number lo hi) v=true):∃i,v=.int i/\lo<=i/\i<=hi:=by
 cases v<;>simp[Ah] at h
 exact⟨_,rfl,h⟩
theorem TN{a b:Sh}(h:Ah (.pair a b) v=true):∃x y,v=.tup [x,y]/\Ah a x=true/\Ah b y=true:=by
 unfold Ah at h
 split at h
 .rw[uh1] at h;exact⟨_,_,rfl,h.1,h.2⟩
 .cases h
theorem PR(h:Ah (.choice ss) v=true):∃(k:Nat) (x:D) (hk:k<ss.length),v=.tup [.str ("of":Str),.int (k:Nat),x]/\Ah ss[k] x=true:=by
 unfold Ah at h
 split at h
 .next o k x=>
  simp only[uh1,ug4] at h;have hk:k.toNat<ss.length:=by lia
  have h2:=h.2;rw[Cc ss _ _ _ (ub3 hk)] at h2;have ho:o=("of":Str):=eq_of_beq h.1.1;subst ho;exact⟨k.toNat,x,hk,by rw[ue2 h.1.2.1],h2⟩
 .cases h
noncomputable def eI:List D->Bool
 |[_,_]=>true
 |[.str _,.int _,_]=>true
 |_=>false
mutual
def tm:D->Bool
 |.non=>true
 |.int _=>true
 |.str x=>decide (x.length<=90000)
 |.lst xs=>decide (xs.length<=1000)&&tms xs
 |.tup xs=>tms xs&&eI xs
 |_=>false
def tms:List D->Bool
 |[]=>true
 |d::r=>tm d&&tms r
end
abbrev bsF(g:List GS)(x:Str)(h W P:Nat)(E:List (Str×D)):List (Str×D):=("grammar",.lst (g.map GS.d))::("standing",.int (h:Nat))::("wires",.obj W)::("places",.obj P)::("side",.str x)::E
structure Ins(S:List Ob)(n:Str)(E:List (Str×D))(g:List GS)(x o:Str)(h a:Nat)(w:List Nat)(k l W P:Nat):Prop where
 ik:S[k]?=some (.ins n (bsF g x h W P E))
 iw:S[W]?=some (.dct (d1 o (.obj l)))
 ip:S[P]?=some (.dct (d1 o (.int (a:Nat))))
 il:S[l]?=some (.lst (wD w))
 el:E.length<=100
section
variable{S S':List Ob}{n:Str}{E:List (Str×D)}{g:List GS}{x o:Str}{h a:Nat}{w:List Nat}{k l W P:Nat}
end
structure HeaG(n:Str)(S S':List Ob)(k W P l:Nat)(o:Str)(fs:List (Str×D)):Prop where
 kp:Kp k S S'
 ik:S'[k]?=some (.ins n fs)
 iw:S'[W]?=some (.dct (d1 o (.obj l)))
 ip:S'[P]?=some (.dct (d1 o (.int (0:Nat))))
 il:S'[l]?=some (.lst [])
 gw:S.length<=W
 gp:S.length<=P
 gl:S.length<=l
theorem Zb{b:Bool}{m1 m2:M Out}{K:Out->T->Prop}(Pm:Out->T->Prop)(h1:b=true->L2.W m1 t Pm)(h2:b=false->L2.W m2 t Pm)(h:∀o t',Pm o t'->K o t'):E1 b (L2.W m1 t K) (L2.W m2 t K):=BB (λz=>(h1 z).mono h) λz=>(h2 z).mono h
def Nop(g:List GS)(q:Nat)(x nm:Str)(v:D):Prop:=match An g q with
 |.fin=>True
 |.st side ws=>x≠side\/match ws.findIdx? (λw=>w.1==nm) with
   |none=>True
   |some p=>∀w,ws[p]?=some w->Ah w.2.1 v=false
theorem RN(ht:∀x∈g,Tin x){q p:Nat}{v:D}(hm:MvOk g q p v):(mbQ g q p v).length<=41:=by
 have h1:=ht _ (JJ hm.lt);clear 5(Fg hm.pl)side ws e hpl ew;have h2:wdAt g q p∈(An g q).ws:=by rw[e];exact ud4 ew
 have h3:=(h1 _ h2).few v hm.fit;rw[ug7];exact Nat.succ_le_succ h3
theorem KL{x:GS}(h:P (.str x.side) t):W (ixD x.d (.int 0)) t P:=by
 cases x with
 |fin=>rw[GS.d];exact Fd Hk h
 |st s w=>rw[GS.d];exact Fd Hk h
def Ia(f:Fn)(d:Nat):Prop:=∀(cell:Int) (S:List Ob),Wf f [.int cell,.int d] S λr S'=>S'=S/\∃(s:Sh) (l:Int),r=.lst [s.d,.int l]/\Dr d s
theorem w6(i:Int):∃w:Int,atI [D.int 0,.int 1,.int 255,.int 256,.int 300,.int 70000] (i%6)=some (.int w)/\0<=w/\w<=70000:=by
 have:i%6=0\/i%6=1\/i%6=2\/i%6=3\/i%6=4\/i%6=5:=by lia
 rcases this with h|h|h|h|h|h<;>rw[h]<;>exact⟨_,rfl,by decide,by decide⟩
theorem US:Ia (fnOf 2 6 (Cl c)) 0:=by
 intro cell S;refine Ak rfl ?_;unfold Cl;clear 5(w6 (cell/7/9))w hw w0 w1;have num:Dr 0 (.number (cell/7%9-4) (cell/7%9-4+w)):=.number (by lia) (by lia) w0 w1;rcases Zi cell with h|h|h|h|h|h|h <;>
  (right
   rw[h];right;refine AM hw ?_;right;exact⟨rfl,_,_,rfl,num⟩)
theorem UT{d:Nat}(hc:Ia c d):Ia (fnOf 2 6 (Cl c)) (d+1):=by
 intro cell S;refine Ak rfl ?_;unfold Cl;clear 5(w6 (cell/7/9))w hw w0 w1;have num:Dr (d+1) (.number (cell/7%9-4) (cell/7%9-4+w)):=.number (by lia) (by lia) w0 w1;have hd0:(((d+1:Nat):Int)==0)=false:=by rw[ji];lia
 have hd1:((d+1:Nat):Int)-1=(d:Nat):=by lia
 rcases Zi cell with h|h|h|h|h|h|h
 .right;rw[h];right;refine AM hw ?_;right;exact⟨rfl,_,_,rfl,num⟩
 .right;rw[h];right;refine AM hw ?_;right;exact⟨rfl,_,_,rfl,num⟩
 .right;rw[h];right;exact⟨rfl,.nothing,_,rfl,.nothing⟩
 .right;rw[h];right;exact⟨rfl,.text (cell/7%4),_,rfl,.text (by lia) (by lia)⟩
 .right;rw[h];right;rw[hd1];refine(hc _ S).mono λr S' z9=>?_;clear 5 z9 e s l er hs;subst e er;right;exact⟨rfl,.list s (l%4),_,rfl,hs.list (by lia) (by lia)⟩
 .right;rw[h];right;rw[hd1];refine(hc _ S).mono λr S' z9=>?_;clear 5 z9 e s l er hs;subst e er;right;rw[hd1];refine(hc _ _).mono λr S' z9=>?_;clear 5 z9 e s2 l2 er hs2;subst e er;right;exact⟨rfl,.pair s s2,_,rfl,hs.pair hs2⟩
 .right;rw[h];right;rw[hd1];refine(hc _ S).mono λr S' z9=>?_;clear 5 z9 e s l er hs;subst e er;right;rw[hd1];refine(hc _ _).mono λr S' z9=>?_;clear 5 z9 e s2 l2 er hs2;subst e er;right;exact⟨rfl,.choice [s,s2],_,rfl,hs.choice hs2⟩
def MQ(f:Fn)(n:Nat):Prop:=∀(s:Sh),s.depth<=n->wf s=true->Bz s=true->Dj s=true->∀(cell:Int) (S:List Ob),Wf f [s.d,.int cell] S λr S'=>S'=S/\∃(v:D) (l:Int),r=.lst [v,.int l]/\Ah s v=true
theorem ae(i:Int):∃n,atI (Str.ofString " az~Q0").cps.toList (i%6)=some n/\Bs n=true:=by
 have e:(Str.ofString " az~Q0").cps.toList=[32,97,122,126,81,48]:=by decide +kernel
 rw[e];have:i%6=0\/i%6=1\/i%6=2\/i%6=3\/i%6=4\/i%6=5:=by lia
 rcases this with h|h|h|h|h|h<;>rw[h]<;>exact⟨_,rfl,by decide⟩
theorem SR{f:Fn}:MQ f 0:=λs h=>absurd s.depth_pos (by lia)
theorem XY(hc:MQ c n):MQ (fnOf 2 10 (Ef c)) (n+1):=by
 intro s hs hw hn ht cell S;have hL:LIM=100000:=rfl;refine Ak rfl ?_;unfold Ef
 cases s with
 |nothing=>
   rw[Sh.d];right;exact⟨rfl,_,_,rfl,rfl⟩
 |number lo hi=>
   simp only[wf,uh1,ug4] at hw;simp only[Bz,ug4] at hn;rw[Sh.d];right;refine HQ (by lia) ?_;right;refine JV (by lia) (by lia) ?_;right;refine⟨rfl,_,_,rfl,?_⟩;have h1:=uk0 cell (b:=hi-lo+1) (by lia);have h2:=uf2 cell (b:=hi-lo+1) (by lia);simp only[Ah,uh1,ug4];lia
 |text m=>
   simp only[wf,uh1,ug4] at hw;simp only[Dj,ug4] at ht;rw[Sh.d];right;refine HQ (by lia) ?_;have h1:=uk0 cell (b:=m+1) (by lia);have h2:=uf2 cell (b:=m+1) (by lia);clear 5(ae (cell/7))z hz hsg;right;refine aJ (by decide +kernel) hz ?_;right;refine VJ ⟨Be (by lia) (by lia),by show 1*_<=_;lia,by lia,by show 1<=_;lia⟩ ?_;right;refine JV (by lia) (by lia) ?_;right;refine⟨rfl,_,_,rfl,?_⟩;simp only[Ah,uh1,ug4];exact⟨by rw[ND];lia,Tf hsg⟩
 |list s m=>
   rw[Sh.depth] at hs;simp only[wf,uh1,ug4] at hw;rw[Bz] at hn;simp only[Dj,uh1,ug4] at ht;rw[Sh.d];right;refine HQ (by lia) ?_;have h1:=uk0 cell (b:=m+1) (by lia);have h2:=uf2 cell (b:=m+1) (by lia);right;refine JV (by lia) (by lia) ?_;right;refine FE (Be (by lia) (by lia)) ?_;refine BE (λr t=>∃(l:Int) (ds:List D) (e7 e8 e9:Option Sl),(∃j,r=(rngL 0 (cell%(m+1)).toNat).drop j)/\ds.length+r.length=(cell%(m+1)).toNat/\(∀d∈ds,Ah s d=true)/\t=⟨[vw (.tup [.str "list",s.d,.int m]),vw (.int l),vw (.str "list"),none,vw (.int (cell%(m+1))),none,some (.own ds),e7,e8,e9],S⟩) _ _ ⟨_,[],none,none,none,⟨0,rfl⟩,by rw[Cp];simp,by simp,rfl⟩ ?_ ?_
   .rintro d r t ⟨l,ds,e7,e8,e9,⟨j,hj⟩,hl,hf,rfl⟩ _;obtain⟨rfl,hj2,_⟩:=Di hj;rw[ug7] at hl;right;refine(hc s (by lia) hw.2 hn ht.2 _ S).mono λr' S' z9=>?_;clear 5 z9 e v l2 er hv;subst e er;right;refine AY (by rw[hL];lia) ?_;refine⟨l2,ds++[v],_,_,_,⟨j+1,hj2⟩,by rw[ue8];simp only[ug7,uj2];lia,?_,rfl⟩;intro d hd;rcases ui2.mp hd with h|h
    .exact hf d h
    .rw[uf0] at h;subst h;exact hv
   .rintro t ⟨l,ds,e7,e8,e9,_,hl,hf,rfl⟩;rw[uj2] at hl;right;refine⟨rfl,_,_,rfl,?_⟩;simp only[Ah,uh1,ug4,uh5];exact⟨by lia,hf⟩
 |pair s r=>
   rw[Sh.depth] at hs;simp only[wf,uh1] at hw;simp only[Bz,uh1] at hn;simp only[Dj,uh1] at ht;rw[Sh.d];right;refine(hc s (by lia) hw.1 hn.1 ht.1 cell S).mono λr' S' z9=>?_;clear 5 z9 e v l2 er hv;subst e er;right;refine(hc r (by lia) hw.2 hn.2 ht.2 l2 _).mono λr' S' z9=>?_;clear 5 z9 e v' l3 er hv';subst e er;right;exact⟨rfl,_,_,rfl,by rw[Ah,hv,hv'];rfl⟩
 |choice ss=>
   rw[Sh.depth] at hs;simp only[wf,uh1,ug4] at hw;rw[Bz] at hn;rw[Dj] at ht;have h1:=uk0 cell (b:=(ss.length:Int)) (by lia);have h2:=uf2 cell (b:=(ss.length:Int)) (by lia);have hk:(cell%(ss.length:Int)).toNat<ss.length:=by lia
   have e1:ss[(cell%(ss.length:Int)).toNat]?=some ss[(cell%(ss.length:Int)).toNat]:=ub3 hk;have ea:atI (shD ss) (cell%(ss.length:Int))=some (ss[(cell%(ss.length:Int)).toNat]).d:=by
    unfold atI;rw[Bm h1 (by rw[Ds];exact h2)];show(shD ss)[(cell%(ss.length:Int)).toNat]?=_;rw[FQ,e1];rfl
   rw[Sh.d];right;rw[Ds];refine HQ (by lia) ?_;right;refine Fd ea ?_;right;rw[Ds];refine JV (by lia) (by lia) ?_;right;refine(hc _ (um4 (Cd ss _ _ e1) (by lia)) (DZ hw.2 _ (uh7 hk)) (GI hn _ (uh7 hk)) (Mt ht _ (uh7 hk)) _ _).mono λr' S' z9=>?_;clear 5 z9 e v l2 er hv;subst e er;right;have ho:Hz (Str.ofString "of")=true:=by decide +kernel
   exact⟨rfl,_,_,rfl,by simp only[Ah,ho,h1,h2,decide_true,ul9,ul7,Cc ss _ _ _ e1,hv]⟩
theorem cR{Q:List D->T->Prop}(h:Q ds.reverse t):W (LM [.lst ds]) t Q:=⟨_,_,rfl,h⟩
theorem aF{g:M (List D)}{Q:D->T->Prop}(h:W f t λo t1=>W g t1 λas t2=>∃z y:Str,o=.str z/\as=[.str y]/\Q (.int (Txt.find z y)) t2):W (findM f g) t Q:=by
 refine CO (h.mono λo t1 h=>CO (h.mono λas t2 h=>?_));clear 5 h z y rfl rfl h;exact⟨_,_,rfl,h⟩
def NbN(f:Fn):Prop:=∀(n m:Nat),m<256 ^ 9->Pure1 f [.int (n:Nat),.int (m:Nat)] (.lst (nb (wid m) n))
theorem Zn:NbN (fnOf 2 3 Da):=by
 intro n m hb S;have hL:LIM=100000:=rfl;have hw:=IM 9 m hb;have hn:wid m<Hh:=Nat.lt_of_le_of_lt hw (by decide);refine Ak rfl ?_;unfold Da;right;refine FW (λk t=>∃(n1 m1:Nat) (acc:List D),k=wid m1/\t=⟨[vw (.int (n1:Nat)),vw (.int (m1:Nat)),some (.own acc)],S⟩/\acc.length+wid m1=wid m/\nb (wid m1) n1++acc.reverse=nb (wid m) n) ?_ Hh (wid m) _ hn ⟨n,m,[],rfl,rfl,un3 _,ui6 _⟩;rintro k t ⟨n1,m1,acc,rfl,rfl,hl,hacc⟩;right
 by_cases z:0<m1
 .rw[uk7 (by lia:(0:Int)<m1)];have hst:=HS z;refine⟨_,hst,?_⟩;rw[hst,nb,uf8] at hacc;right;refine AY (by rw[hL];lia) ?_;right;exact⟨n1/256,m1/256,acc++[.int ((n1%256:Nat):Int)],rfl,rfl,by rw[ue8];show _+1+_=_;lia,by rw[List.reverse_append];exact hacc⟩
 .have:m1=0:=by lia
  subst this;rw[uk1 (by lia)];right;refine cR ?_;right;have hacc:acc.reverse=nb (wid m) n:=hacc;exact⟨by rw[hacc],rfl⟩
noncomputable def sgN:Str:=Str.ofString " !\"#$&'()*+,-./0123456789:;<=>?@ABCDEFGHIJKLMNOPQRSTUVWXYZ[\\]^_`abcdefghijklmnopqrstuvwxyz{|}~"
noncomputable def cod(d:D):D:=match d with
 |.int k=>.int (32+k+(if decide (4<k)=true then 1 else 0))
 |_=>d
def Vh(c:Nat):Bool:=!Bs c||match atI ((rngL 0 94).map cod) (Txt.find sgN ⟨#[c]⟩) with
 |some (.int i)=>i==(c:Int)
 |_=>false
theorem VU:∀c:Nat,c<127->Vh c=true:=by decide +kernel
theorem YA{c:Nat}(h:Bs c=true):atI ((rngL 0 94).map cod) (Txt.find sgN ⟨#[c]⟩)=some (.int (c:Int)):=by
 have hc:c<127:=by simp only[Bs,uh1,ug4] at h;lia
 have:=VU c hc;rw[Vh,h,jD,ul5] at this
 split at this
 .next e=>rw[e,eq_of_beq this]
 .cases this
noncomputable def ZA(d:D):D:=match d with
 |.str y=>.int (y.cps.getD 0 0:Nat)
 |_=>d
theorem QW(x:Str):(x.cps.toList.map λc=>D.str ⟨#[c]⟩).map ZA=x.cps.toList.map λn=>D.int (n:Nat):=by
 rw[un0];exact ue0 λn _=>rfl
def Pj(f:Fn)(n:Nat):Prop:=∀(s:Sh),s.depth<=n->wf s=true->Bz s=true->∀d,Ah s d=true->(Av s d).length<=LIM->Pure1 f [s.d,d] (.lst (Av s d))
theorem VR(hc:Pj c n)(hn:NbN cn):Pj (fnOf 2 7 (Ee c cn)) (n+1):=by
 intro s hs hwf hna d hf hlen S;have hL:LIM=100000:=rfl;refine Ak rfl ?_;unfold Ee
 cases s with
 |nothing=>
   have:=Ou hf;subst this;rw[Sh.d];right;exact⟨rfl,rfl⟩
 |number lo hi=>
   simp only[Bz,ug4] at hna;clear 5(PU hf)i rfl h1 h2;rw[Sh.d];right;rw[show i-lo=((i-lo).toNat:Nat) by lia,show hi-lo=((hi-lo).toNat:Nat) by lia];refine(hn (i-lo).toNat (hi-lo).toNat (by show _<4722366482869645213696;lia)).use ?_;exact⟨by rw[Av],rfl⟩
 |text q=>
   simp only[wf,uh1,ug4] at hwf
   cases d<;>simp only[Ah,ue9] at hf
   rename_i x;simp only[uh1,ug4,uh5] at hf;have hl:x.cps.toList.length<=250:=by rw[<-Fr];lia
   rw[Sh.d];right;show L2.W (AO [.str sgN]) _ _;refine MJ (by decide +kernel) ?_;have e94:((sgN.length:Nat):Int)=94:=by decide +kernel
   rw[e94];right;refine(Fj (f:=cod) (fr:=[]) ?_).mono ?_
   .intro d m;obtain⟨k,rfl,_,_⟩:=Xk m;right;exact⟨rfl,rfl⟩
   rintro xs t' ⟨rfl,hS⟩;refine AY (by rw[ui4,Cp,hL];decide) ?_;right;refine MJ (by rw[hL];lia) ?_;right;refine(Fj (f:=ZA) (fr:=[vw (.lst ((rngL 0 94).map cod)),vw (.str sgN)]) ?_).mono ?_
   .intro d m;clear 5(um9.mp m)k hk rfl;right;refine aF ?_;right;refine⟨_,_,rfl,rfl,?_⟩;refine AM (YA (hf.2 k hk)) ?_;exact⟨rfl,rfl⟩
   rintro xs t2 ⟨rfl,hS2⟩;rw[QW];refine AY (by rw[ui4,hL];lia) ?_;right;refine AY (by simp only[ui4,ug7,uj2,hL];lia) ?_;right;exact⟨by rw[Av];rfl,hS2.trans hS⟩
 |list s q=>
   simp only[wf,uh1,ug4] at hwf;rw[Sh.depth] at hs;rw[Bz] at hna
   cases d<;>simp only[Ah,ue9] at hf
   rename_i ds;rw[uh1,ug4,uh5] at hf;rw[Av] at hlen⊢;rw[Sh.d];right;refine BE (λr t=>∃(z:Option Sl) (acc:List D),t=⟨[vw (.tup [.str "list",s.d,.int q]),vw (.lst ds),vw (.str "list"),none,none,some (.own acc),z],S⟩/\acc++(r.map λd=>Av s d).flatten=.int (ds.length:Nat)::(ds.map λd=>Av s d).flatten) _ _ ⟨_,_,rfl,rfl⟩ ?_ ?_
   .rintro d r t ⟨z,acc,rfl,hacc⟩ m;rw[ul0,uf7,<-uf8] at hacc;have hl:acc.length+(Av s d).length<=LIM:=by
     have:=jT List.length hacc;rw[ue8,ue8] at this;lia
    right;refine(hc s (by lia) hwf.2 hna d (hf.2 d m) (by lia)).use ?_;right;refine AY hl ?_;exact⟨_,_,rfl,hacc⟩
   .rintro t ⟨z,acc,rfl,hacc⟩;rw[um6,List.flatten_nil,ui6] at hacc;right;exact⟨by rw[hacc],rfl⟩
 |pair s r=>
   simp only[wf,uh1] at hwf;simp only[Bz,uh1] at hna;rw[Sh.depth] at hs;clear 5(TN hf)a b rfl ha hb;rw[Av] at hlen⊢;rw[ue8] at hlen;rw[Sh.d];right;refine(hc s (by lia) hwf.1 hna.1 a ha (by lia)).use ?_;right;refine(hc r (by lia) hwf.2 hna.2 b hb (by lia)).use ?_;right;refine AY (by lia) ?_;right;exact⟨rfl,rfl⟩
 |choice ss=>
   simp only[wf,uh1,ug4] at hwf;rw[Bz] at hna;rw[Sh.depth] at hs;clear 5(PR hf)k x hk rfl hx;have e1:ss[k]?=some ss[k]:=ub3 hk;rw[Av,uf6] at hlen⊢;rw[El ss _ _ _ e1] at hlen⊢;rw[ug7] at hlen;rw[Sh.d];right;refine Fd (bT hk) ?_;right;refine(hc _ (um4 (Cd ss _ _ e1) (by lia)) (DZ hwf.2 _ (uh7 hk)) (GI hna _ (uh7 hk)) x hx (by lia)).use ?_;right;refine AY (by simp only[ug7,uj2];lia) ?_;right;exact⟨rfl,rfl⟩
def He(f:Fn):Prop:=∀(ns:List Int) (k:Int),0<=k->k<=1000->∃c:Int,Pure1 f [.scr ns,.int k] (.int c)
theorem Ih:He (fnOf 2 2 Dw):=by
 intro ns k h0 h1
 by_cases z:k<ns.length
 .have hk:k.toNat<ns.length:=by lia
  refine⟨ns[k.toNat],λS=>Ak rfl ?_⟩;unfold Dw;right;refine HA (uk7 (by lia)) ?_;right;refine W_ix_scr.mpr ⟨ns[k.toNat],?_,?_⟩
  .unfold atI;rw[Bm h0 (by lia)];show ns[k.toNat]?=_;rw[ub3 hk]
  .exact⟨rfl,rfl⟩
 .refine⟨23*k*k+13*k+5,λS=>Ak rfl ?_⟩;unfold Dw;right;refine Ea (uk1 (by lia)) ?_;right;refine Fh (by lia) (by lia) ?_;right;refine Fh (by lia) (by lia) ?_;right;refine Fh (by lia) (by lia) ?_;right;exact⟨rfl,rfl⟩
def Yk(f:Fn):Prop:=∀(cell k:Int),0<=k->k<=10->∃c:Int,Pure1 f [.int cell,.int k] (.int c)
theorem bD:Yk (fnOf 2 3 Fy):=by
 intro cell k k0 k1;have b0:=uk0 (cell*48271+7919*k*k+104729*k+11) (b:=2147483647) (by decide);have b1:=uf2 (cell*48271+7919*k*k+104729*k+11) (b:=2147483647) (by decide);obtain⟨x,hx⟩:∃x,x=(cell*48271+7919*k*k+104729*k+11)%2147483647:=⟨_,rfl⟩;rw[<-hx] at b0 b1;have d0:=uk0 (x*x) (b:=2147483629) (by decide);have d1:=uf2 (x*x) (b:=2147483629) (by decide);obtain⟨y,hy⟩:∃y,y=x*x%2147483629:=⟨_,rfl⟩;rw[<-hy] at d0 d1;refine⟨y*y+y*1000003+cell,λS=>Ak rfl ?_⟩;unfold Fy;right;refine Fh (by decide) (by decide) ?_;right;refine Fh (by lia) (by lia) ?_;right;refine Fh (by lia) (by lia) ?_;right;refine Fh (by lia) (by lia) ?_;right;rw[<-hx];refine Fh (by lia) (by lia) ?_;right;rw[<-hy];refine Fh (by lia) (by lia) ?_;right;refine Fh (by lia) (by lia) ?_;right;exact⟨rfl,rfl⟩
noncomputable def nmN(r:Int)(j:Nat):Str:=Txt.mul ⟨#[97+j]⟩ r
theorem WN{r:Int}(h:1<=r){i j:Nat}(e:nmN r i=nmN r j):i=j:=by
 have e:(nmN r i).cps.toList=(nmN r j).cps.toList:=by rw[e]
 unfold nmN at e;rw[NL,NL] at e;obtain⟨m,hm⟩:∃m,r.toNat=m+1:=⟨r.toNat-1,by lia⟩;rw[hm,ud9,ud9] at e;injection e with e _
 lia
theorem Zo{r:Int}(h:1<=r)(n:Nat):((List.range n).map (nmN r)).Nodup:=List.pairwise_map.mpr (List.nodup_range.imp λh2 e=>h2 (WN h e))
def N9(x:GS):Prop:=∀w∈x.ws,w.1.length<=3/\∀c∈w.1.cps.toList,c<122
theorem Vo{r:Int}(h:r<=3){j:Nat}(hj:j<3):(nmN r j).length<=3/\∀c∈(nmN r j).cps.toList,c<122:=by
 unfold nmN;rw[ND,NL];refine⟨by lia,λc hc=>?_⟩;have:=iy hc;lia
theorem aT(h:j<3):atI (Str.ofString "abc").cps.toList (0+(j:Int))=some (97+j):=by
 have e:(Str.ofString "abc").cps.toList=[97,98,99]:=by decide +kernel
 rw[e]
 match j,h with
 |0,_=>rfl
 |1,_=>rfl
 |2,_=>rfl
def GrN(f:Fn):Prop:=∀(ns:List Int) (S:List Ob),Wf f [.scr ns,.int 2,.bl true] S λr S'=>S'=S/\∃g:List GS,r=.lst (g.map GS.d)/\GOk g/\g.length<=6/\∀x∈g,Tin x/\N9 x
def GB(ns:List Int)(many:Int)(gs:List GS)(e5 e6 e7 e8 e9 e10 e11:Option Sl):List (Option Sl):=[vw (.scr ns),vw (.int 2),vw (.bl true),vw (.int many),some (.own (gs.map GS.d)),e5,e6,e7,e8,e9,e10,e11]
theorem dO{cs:Fn}(hs:Ia cs 2)(hc:He cc)(hm:Yk cm):GrN (fnOf 3 12 (DH cs cc cm)):=by
 intro ns S;have hL:LIM=100000:=rfl;clear 5(hc ns 0 (by decide) (by decide))c0 hc0;have m0:=uk0 c0 (b:=6) (by decide);have m1:=uf2 c0 (b:=6) (by decide);refine Ak rfl ?_;unfold DH;right;refine(hc0).use ?_;right;obtain⟨many,hmany⟩:∃many,many=1+c0%6:=⟨_,rfl⟩;rw[<-hmany];refine FE (Be (by lia) (by lia)) ?_;refine BE (λr t=>∃(gs:List GS) (e5 e6 e7 e8 e9 e10 e11:Option Sl),r=(rngL 0 many.toNat).drop gs.length/\gs.length<=many.toNat/\(∀x∈gs,GSOk many x/\Tin x/\N9 x)/\t=⟨GB ns many gs e5 e6 e7 e8 e9 e10 e11,S⟩) _ _ ⟨[],none,none,none,none,none,none,none,rfl,un5 _,(λ_ h=>nomatch h),rfl⟩ ?_ ?_
 .rintro d r t ⟨gs,e5,e6,e7,e8,e9,e10,e11,hr,hle,hgs,rfl⟩ _;clear 5(Di hr)rfl hr2 hlt;unfold GB;clear 5(hc ns (2+(0+(gs.length:Int))) (by lia) (by lia))c1 hc1;right;refine hc1.use ?_;right;refine hc0.use ?_;right;refine Zb (λo t'=>o=.next/\∃c:Int,t'=⟨GB ns many gs (vw (.int (0+(gs.length:Int)))) (vw (.int c)) e7 e8 e9 e10 e11,S⟩) (λ_=>?_) (λ_=>?_) ?_
  .clear 5(hm c1 (0+(gs.length:Int)) (by lia) (by lia))c2 hc2;right;refine hc2.use ?_;right;exact⟨rfl,_,rfl⟩
  .right;exact⟨rfl,_,rfl⟩
  rintro o t' ⟨rfl,c,rfl⟩;unfold GB
  iterate 16 (walk_at"w1")
  refine wIf ?_;refine L2.W.mono (P:=λb t'=>t'=⟨GB ns many gs (vw (.int (0+(gs.length:Int)))) (vw (.int (c/5))) (vw (.int (c%5))) e8 e9 e10 e11,S⟩) ?_ ?_
  .right;refine BB (λ_=>?_) λ_=>?_
   .right;refine BB (λ_=>?_) λ_=>?_
    .right;rfl
    .right;rfl
   .right;rfl
  rintro b t' rfl;unfold GB;refine BB (λ_=>?_) λ_=>?_
  .right;refine AY (by rw [ui4,hL];lia) ?_;right;refine W_ret.mpr ?_;exact ⟨gs++[.fin],_,_,_,_,_,_,_,by rw [ue8];exact hr2,by rw [ue8];show _ + 1<=_;lia,λx hx=>by
    rcases ui2.mp hx with h|h
    .exact hgs x h
    .rw[uf0] at h;subst h;exact⟨.fin,(λ_ z=>nomatch z),λ_ z=>nomatch z⟩,by rw[uj6];rfl⟩
  .right;have q0:=uk0 (c/5) (b:=3) (by decide);have q1:=uf2 (c/5) (b:=3) (by decide);obtain⟨n3,hn3⟩:∃n3:Nat,1+c/5%3=n3:=⟨(1+c/5%3).toNat,by lia⟩;obtain⟨rr,hrr⟩:∃rr:Int,rr=1+(0+(gs.length:Int))%3:=⟨_,rfl⟩;have r1:1<=rr/\rr<=3:=by lia
   rw[hn3];refine FE (Be (by lia) (by lia)) ?_;rw[uf6];refine BE (λr t=>∃(ws:List (Str×Sh×Int)) (l:Int) (e9 e10 e11:Option Sl),r=(rngL 0 n3).drop ws.length/\ws.length<=n3/\ws.map (·.1)=(List.range ws.length).map (nmN rr)/\(∀w∈ws,WOk many w/\Dr 2 w.2.1)/\t=⟨GB ns many gs (vw (.int (0+(gs.length:Int)))) (vw (.int l)) (vw (.int (c%5))) (some (.own (ws.map wdD))) e9 e10 e11,S⟩) _ _ ⟨[],_,_,_,_,rfl,un5 _,rfl,(λ_ h=>nomatch h),rfl⟩ ?_ ?_
   .rintro d r t ⟨ws,l,e9,e10,e11,hw,hwl,hwn,hws,rfl⟩ _;clear 5(Di hw)rfl hw2 hwlt;unfold GB;right;refine HQ (by lia) ?_;right;refine JV (by lia) (by lia) ?_;right;refine(hs _ S).mono λr' S' z9=>?_;clear 5 z9 e s l2 er hd;subst e er;right;refine aJ (by decide +kernel) (aT (by lia)) ?_;right;rw[<-hrr];refine VJ ⟨Be (by lia) (by lia),by show 1*_<=_;lia,by lia,by show 1<=_;lia⟩ ?_;right;refine AY (by rw[ui4,hL];lia) ?_;refine⟨ws++[(nmN rr ws.length,s,l/3%many)],_,_,_,_,by rw[ue8];exact hw2,by rw[ue8];show _+1<=_;lia,by rw[ue8,uj6,hwn];show _=(List.range (ws.length+1)).map _;rw[uj5,uj6];rfl,λw hw'=>?_,by rw[uj6];rfl⟩;rcases ui2.mp hw' with h|h
    .exact hws w h
    .rw[uf0] at h;subst h;exact⟨⟨hd.ok,hd.dep,uk0 _ (by lia),uf2 _ (by lia),um4 (Vo r1.2 (by lia)).1 (by decide)⟩,hd⟩
   .rintro t ⟨ws,l,e9,e10,e11,hw,hwl,hwn,hws,rfl⟩;unfold GB;have hwe:ws.length=n3:=by
     have:=jT List.length hw;rw[uh0,Cp] at this;have:0=n3-ws.length:=this;lia
    clear 5(bU l)side hsd hside;right;refine AM hsd ?_;right;refine AY (by rw[ui4,hL];lia) ?_;refine⟨gs++[.st side ws],_,_,_,_,_,_,_,by rw[ue8];exact hr2,by rw[ue8];show _+1<=_;lia,λx hx=>?_,by rw[uj6];rfl⟩;rcases ui2.mp hx with h|h
    .exact hgs x h
    .rw[uf0] at h;subst h;refine⟨.st hside (by lia) (by lia) (by rw[hwn];exact Zo r1.1 _) λw h=>(hws w h).1,λw h=>(hws w h).2,λw h=>?_⟩;have:w.1∈ws.map (·.1):=List.mem_map_of_mem h;rw[hwn] at this;clear 5(um9.mp this)j hj ej;rw[uk2] at hj;rw[<-ej];exact Vo r1.2 (by lia)
 .rintro t ⟨gs,e5,e6,e7,e8,e9,e10,e11,hr,hle,hgs,rfl⟩;unfold GB;have he:gs.length=many.toNat:=by
   have:=jT List.length hr;rw[uh0,Cp] at this;have:0=many.toNat-gs.length:=this;lia
  right;exact⟨rfl,gs,rfl,⟨by lia,by lia,λx hx=>by rw[show(gs.length:Int)=many by lia];exact(hgs x hx).1⟩,by lia,λx hx=>(hgs x hx).2⟩
def Rd.tells(P:D->Prop):Rd->Prop
 |.done v=>P v
 |.need _ nx=>∀b,(nx b).tells P
local macro_rules | `(tactic| walk_at"y1")=>`(tactic| first
 |walk_at"x1" |clear 31 U3 L3 Op VI VH)
def KpR(k l r:Nat)(S S':List Ob):Prop:=S.length<=S'.length/\∀i,i<S.length->i≠k->i≠l->i≠r->S'[i]?=S[i]?
section
variable{n0:Nat}{S S1 S2:List Ob}{k:Nat}{g:List GS}{vl vr:List Nat}{h a b W P l r:Nat}{o:Ob}
end
def Bk(g:List GS)(vl vr:List Nat)(h a b c:Nat)(s:Str):Prop:=Pl g vl vr h a b/\∃t h' a' b',AR g vl vr (Fu vl vr) h a b []=(t,h',a',b',some (c,s))
def gg(g:List GS)(vl vr:List Nat)(k h a b W P l r:Nat):List (Nat×Ob):=[(k,.ins "Reader" (rdF g h W P)),(W,.dct (lr (.obj l) (.obj r))),(P,.dct (dP a b)),(l,.lst (wD vl)),(r,.lst (wD vr))]
section
variable{F:List (Nat×Ob)}{n0:Nat}{S S1:List Ob}{k:Nat}{g:List GS}{vl vr:List Nat}{h a b W P l r m R:Nat}
end
theorem Nn{g:List GS}{mv:List Mv}{rl rr:Nat}:∀(n k:Nat),n+k=mv.length->(Ai g sL 0 (mv.take k)).length<=rl->(Ai g sR 0 (mv.take k)).length<=rr->∃c,Due g mv rl rr c
 |0,k,h,a,b=>⟨k,by lia,a,b,.inl (by lia)⟩
 |n+1,k,h,a,b=>by
   by_cases z:onS (An g (Aj g 0 (mv.take k))).side rl rr<onS (An g (Aj g 0 (mv.take k))).side (Ai g sL 0 (mv.take k)).length (Ai g sR 0 (mv.take k)).length+(prt g mv k).length
   .exact⟨k,by lia,a,b,.inr ⟨by lia,z⟩⟩
   .have em:mv[k]?=some (mv[k].1,mv[k].2):=ub3 (by lia);refine Nn n (k+1) (by lia) ?_ ?_
    .rw[Mx sL em,ue8];unfold onS at z
     split
     .next q=>rw[jY q,jY q] at z;lia
     .rw[uj2];lia
    .rw[Mx sR em,ue8];unfold onS at z
     split
     .next q=>rw[jZ (by rw[q];decide),jZ (by rw[q];decide)] at z;lia
     .rw[uj2];lia
section
variable{g:List GS}{mv:List Mv}{wl wr:List Nat}
theorem Ht{c:Nat}(hg:GOk g)(hok:okQ g 0 mv)(el:wD wl=Ai g sL 0 mv)(er:wD wr=Ai g sR 0 mv)(h1:rl<=wl.length)(h2:rr<=wr.length)(hD:Due g mv rl rr c) :
 AR g (wl.take rl) (wr.take rr) (Fu (wl.take rl) (wr.take rr)) 0 0 0 []=(Ao g 0 (mv.take c),Aj g 0 (mv.take c),(Ai g sL 0 (mv.take c)).length,(Ai g sR 0 (mv.take c)).length,none):=by
 have:=Va (ml:=[]) (mr:=[]) hg hok el er h1 h2 hD (.inl rfl) (.inl rfl);rw[ui6,ui6] at this;exact this
theorem Tq{c c':Nat}(hg:GOk g)(hok:okQ g 0 mv)(el:wD wl=Ai g sL 0 mv)(er:wD wr=Ai g sR 0 mv)(h1:rl<=wl.length)(h2:rr<=wr.length)(hD:Due g mv rl rr c)(hD':Due g mv rl rr c'):c=c':=by
 have e:=(Ht hg hok el er h1 h2 hD).symm.trans (Ht hg hok el er h1 h2 hD');have e:=jT (λz:Rs=>z.1.length) e;dsimp only at e;rw[AN,AN,ug9,ug9] at e;have:=hD.le;have:=hD'.le;lia
theorem VW{c:Nat}(el:wD wl=Ai g sL 0 mv)(er:wD wr=Ai g sR 0 mv)(hg:GOk g)(hok:okQ g 0 mv)(hD:Due g mv wl.length wr.length c):c=mv.length:=by
 refine Tq hg hok el er (un4 _) (un4 _) hD ⟨un4 _,?_,?_,.inl rfl⟩
 .rw[uh9,<-el,Bi];exact un4 _
 .rw[uh9,<-er,Bi];exact un4 _
end
section
variable{g:List GS}{mv:List Mv}{wl wr:List Nat}{k l r W K:Nat}
structure F35(g:List GS)(mv:List Mv)(wl wr:List Nat)(k l r W K:Nat)(S:List Ob)(rl rr c P:Nat):Prop where
 hl:rl<=wl.length
 hr:rr<=wr.length
 du:Due g mv rl rr c
 ch:Rch g (wl.take rl) (wr.take rr) (Ao g 0 (mv.take c)) (Aj g 0 (mv.take c)) (Ai g sL 0 (mv.take c)).length (Ai g sR 0 (mv.take c)).length
 rd:Rdr 0 S k g (wl.take rl) (wr.take rr) (Aj g 0 (mv.take c)) (Ai g sL 0 (mv.take c)).length (Ai g sR 0 (mv.take c)).length W P l r
 kw:S[K]?=some (.dct (dW wl wr))
 nk:K≠k/\K≠l/\K≠r
theorem Xb(h:j<mv.length):0<(prt g mv j).length:=by
 unfold prt;rw[ub3 h];exact Nat.succ_pos _
end
theorem Gq{g:List GS}(hg:GOk g):∀{mv:List Mv}{q:Nat},okQ g q mv->∀x∈Ao g q mv,Rq 8 x
 |[],q,_,x,hx=>nomatch hx
 |(p,v)::r,q,hk,x,hx=>by
   rw[okQ] at hk;rw[Ao] at hx;rcases uk9.mp hx with e|hx
   .subst e;have hw:=Fi hg hk.1.lt hk.1.pl;unfold D3;exact G7 (n:=7) (Px Gh Gh ((YV hw.dep hw.ok hk.1.fit).rq.mono (by decide)))
   .exact Gq hg hk.2 x hx
theorem V1(hg:GOk g){mv:List Mv}(hk:okQ g 0 mv):eqN EQD (.lst (Ao g 0 mv)) (.lst (Ao g 0 mv))=some true:=G6 (Gq hg hk) EQD (by decide)
theorem Tt(hg:GOk g){mv:List Mv}(hk:okQ g 0 mv){i a b:Int}:eqN EQD (.tup [.lst (Ao g 0 mv),.int i,.tup [.int a,.int b]]) (.tup [.lst (Ao g 0 mv),.int i,.tup [.int a,.int b]])=some true:=by
 refine G7 (n:=20) (Px ((G6 (Gq hg hk)).mono (by decide)) G4 (G7 (n:=19) λd hd=>?_)) EQD (by decide);simp only[uk9,uh6,jV] at hd;rcases hd with rfl|rfl<;>exact G4
section
variable{g:List GS}{mv:List Mv}{wl wr:List Nat}
theorem aZ:Due g mv 0 0 0:=by
 refine⟨un5 _,un4 0,un4 0,?_⟩
 by_cases z:mv.length=0
 .exact .inl z.symm
 .refine .inr ⟨by lia,?_⟩;have:=Xb (g:=g) (mv:=mv) (j:=0) (by lia);have e:∀s:Str,onS s 0 0=0:=λs=>by unfold onS;split<;>rfl
  rw[e];exact ue3 this (uj7 _ _)
theorem Y7{ci:Fn}(hi:J8 ci)(hg:GOk g){S:List Ob}{K:Nat}(hK:S[K]?=some (.dct (dW wl wr))):Wf ci [.obj S.length,.lst (g.map GS.d)] (S++[.ins "Reader" []]) λq S'=>q=.non/\∃W P l r,F35 g mv wl wr S.length l r W K S' 0 0 0 P:=by
 have hKl:=B8 hK;refine(hi (S++[.ins "Reader" []]) S.length g hg Dp).mono ?_;rintro q S1 ⟨rfl,h1,h2,W,P,l,r,R⟩;have:=R.l0;have:=R.r0;exact⟨rfl,W,P,l,r,⟨un5 _,un5 _,aZ,Rch.start hg,⟨un5 _,un5 _,un5 _,R.ne,R.k,R.w,R.p,R.l,R.r⟩,(h1 K (by rw[ue8];lia) (by lia)).trans (Bw hK),⟨by lia,by lia,by lia⟩⟩⟩
end
theorem Nj:Bu (Ao g 0 mv) none (some (i:Int))=Ao g 0 (mv.take i):=by
 unfold Bu;rw[HT.G8,HT.JS,uk6,jM,<-KQ];exact(jf ..).symm
def MT(f:Fn):Prop:=∀(g:List GS) (mv:List Mv),GOk g->okQ g 0 mv->mv.length<=60000->Pure1 f [.lst (g.map GS.d),.lst (Ao g 0 mv)] (.bl (An g (Aj g 0 mv)).isFin)
theorem Yc{cb:Fn}(hb:GL cb)(he:Ej ce):MT (fnOf 2 2 (FA cb ce)):=by
 intro g mv hg hk hl S;refine Ak rfl ?_;unfold FA;have hlt:=DR hg hg.ne hk;symm;refine(hb g mv hg hk hl).use ?_;symm;refine AM (Bj hlt) ?_;refine⟨by cases An g (Aj g 0 mv)<;>rfl,?_⟩;symm;refine QE (by cases An g (Aj g 0 mv)<;>rfl) ?_;exact(he _ _ (A9 hg hlt)).use ⟨rfl,rfl,rfl⟩
inductive GRn(N:Nat)(S:List Ob):List D->List GS->Prop
 |nil:GRn N S [] []
 |fin {ds:List D}{g:List GS}:GRn N S ds g->GRn N S (.tup [.str (Str.ofString "end")]::ds) (.fin::g)
 |st {j:Nat}{side:Str}{ws:List (Str×Sh×Int)}{ds:List D}{g:List GS}:S[j]?=some (.lst (ws.map wdD))->N<=j->GRn N S ds g->GRn N S (.tup [.str side,.obj j]::ds) (.st side ws::g)
abbrev InS(S:List Ob)(g:List GS)(x o:Str)(h a:Nat)(w:List Nat)(k l W P:Nat):Prop:=Ins S "Side" [] g x o h a w k l W P
def k5S:Key:=.inr (Str.ofString "state")
def k5L:Key:=.inr (Str.ofString "left")
def k5W:Key:=.inr (Str.ofString "wait")
noncomputable def k5M:Key:=.inr (Str.ofString "message")
def k5H:Key:=.inr (Str.ofString "held")
def dD(a b c d e:D):List (Key×D):=[(k5S,a),(k5L,b),(k5W,c),(k5M,d),(k5H,e)]
section
variable{a b c d e z:D}
end
inductive Pend(g:List GS)(o:Str)(h a:Nat)(w lft:List Nat)(wt:Nat)(m:D):Prop
 |none:lft=[]->wt=0->a=w.length->Pend g o h a w lft wt m
 |some (p:Nat) (v:D) (y w0:List Nat):MvOk g h p v->(An g h).side=o->mbQ g h p v=wD y->m=.lst [D3 g h p v,.int (nextQ g h p:Nat)]->w=w0++y.take wt->w0.length=a->wt<y.length->lft=y.drop wt->Pend g o h a w lft wt m
structure J36(g:List GS)(x o:Str)(S:List Ob)(h a:Nat)(w:List Nat)(k l W P N Hd:Nat)(lft:List Nat)(wt:Nat)(m:D)(hs:List D):Prop where
 hh:h<g.length
 sd:InS S g x o h a w k l W P
 dn:S[N]?=some (.dct (dD (.int (h:Nat)) (.lst (wD lft)) (.int (wt:Nat)) m (.obj Hd)))
 dh:S[Hd]?=some (.lst hs)
 lh:l≠Hd
 pd:Pend g o h a w lft wt m
 hl:∀u∈hs,∃z,u=.lst [.lst z,.lst z]/\eqN EQD (.lst z) (.lst z)=some true
theorem bN(hg:GOk g)(hT:∀y∈g,Tin y){h:Nat}(hh:h<g.length){s:Str}(hs:s=sL\/s=sR)(hsd:(An g h).side=s)(cell:Int):∃(ws:List (Str×Sh×Int)) (p:Nat),An g h=.st s ws/\0<ws.length/\ws.length<=9/\cell%(ws.length:Int)=(p:Nat)/\ws[p]?=some (wdAt g h p)/\Dr 2 (wdAt g h p).2.1/\p<(An g h).ws.length/\((nextQ g h p:Nat):Int)=(wdAt g h p).2.2:=by
 have hgs:=A9 hg hh;have htn:=hT _ (JJ hh)
 cases e:An g h with
 |fin=>rw[e] at hsd;rcases hs with q|q<;>(rw[q] at hsd;exact absurd hsd (by decide +kernel))
 |st s' ws=>
   rw[e] at hgs htn hsd;have hsd:s'=s:=hsd;subst hsd;have hw0:0<ws.length/\ws.length<=9:=by cases hgs with|st _ h1 h2 _ _=>exact⟨h1,h2⟩
   have h1:=uk0 cell (b:=(ws.length:Int)) (by lia);have h2:=uf2 cell (b:=(ws.length:Int)) (by lia);clear 5(ub6 h1)p hp;have hpl:p<ws.length:=by lia
   have ew:ws[p]?=some ws[p]:=ub3 hpl;have hwd:wdAt g h p=ws[p]:=by unfold wdAt;rw[e];show ws.getD p _=_;rw[ua7,ew];rfl
   have hpl2:p<(An g h).ws.length:=by rw[e];exact hpl
   have hwo:=(Fi hg hh hpl2).lo;exact⟨ws,p,rfl,hw0.1,hw0.2,hp,by rw[hwd];exact ew,by rw[hwd];exact htn _ (uh7 hpl),hpl,by unfold nextQ;lia⟩
theorem Hc{g:List GS}(ht:∀x∈g,Tin x){sd:Str}:∀{mv:List Mv}{q:Nat},okQ g q mv->(Ai g sd q mv).length<=41*mv.length
 |[],q,_=>un5 _
 |(p,v)::r,q,h=>by
   rw[okQ] at h;have h1:=Hc ht (sd:=sd) h.2;have h2:=RN ht h.1;rw[Ai,ue8,ug7];have h3:(if (An g q).side=sd then D.int (p:Int)::Av (wdAt g q p).2.1 v else []).length<=41:=by
    split
    .exact h2
    .exact un5 _
   lia
theorem dU{a b:D}:AT (lr a b)=lr a b:=F4
theorem d7{e9 e10:Option Sl}{x:D}(h:X=Y)(h2:x=y):(⟨[a0,a1,some (.own X),a3,vw x,e5,e6,e7,e8,e9,e10],S⟩:T)=⟨[a0,a1,some (.own Y),a3,vw y,e5,e6,e7,e8,e9,e10],S⟩:=by subst h h2;rfl
def QN(f:Fn):Prop:=∀(ns:List Int) (g:List GS) (S:List Ob),GOk g->(∀x∈g,Tin x)->Wf f [.lst (g.map GS.d),.scr ns] S λr S'=>∃(mv:List Mv) (K:Nat) (wl wr:List Nat),okQ g 0 mv/\mv.length<=30/\r=.lst [.lst (Ao g 0 mv),.obj K,.int (Aj g 0 mv:Nat)]/\Gr S S'/\S.length<=K/\S'[K]?=some (.dct (dW wl wr))/\wD wl=Ai g sL 0 mv/\wD wr=Ai g sR 0 mv
theorem au{cb cv:Fn}(hb:Pj cb 3)(hv:MQ cv 3)(hc:He cc):QN (fnOf 2 11 (EG cb cv cc)):=by
 intro ns g S hg hT;have hL:LIM=100000:=rfl;refine Ak rfl ?_;unfold EG;symm;refine Jl ?_;refine Bt ?_;symm;refine Bt ?_;symm;refine Et ?_;refine⟨by simp,by show 2<=15;decide,?_⟩;have hA:Gr S ((S++[Ob.dct []]).set S.length (.dct (AT (dW [] [])))):=Gr.app.set (un4 _);have hB:((S++[Ob.dct []]).set S.length (.dct (AT (dW [] []))))[S.length]?=some (.dct (dW [] [])):=by rw[dU];exact A4 Dp
 show D5 _ _ Out.next ⟨_,(S++[Ob.dct []]).set S.length (.dct (AT (dW [] [])))⟩;generalize (S++[Ob.dct []]).set S.length (.dct (AT (dW [] [])))=S1 at hA hB⊢;obtain⟨K,hK⟩:∃K,K=S.length:=⟨_,rfl⟩;rw[<-hK] at hB⊢;symm;have hN:(if (if (41:Int)<(ns.length:Int) then(41:Int) else(ns.length:Int)) > 12 then(if (41:Int)<(ns.length:Int) then(41:Int) else(ns.length:Int)) else 12)<=41/\0<=(if (if (41:Int)<(ns.length:Int) then(41:Int) else(ns.length:Int)) > 12 then(if (41:Int)<(ns.length:Int) then(41:Int) else(ns.length:Int)) else 12):=by split<;>split<;>lia
 generalize (if (if (41:Int)<(ns.length:Int) then(41:Int) else(ns.length:Int)) > 12 then(if (41:Int)<(ns.length:Int) then(41:Int) else(ns.length:Int)) else 12)=N at hN⊢;refine U7 (by rw[Be (by lia) (by lia),Be (by lia) (by lia)];rfl) ?_;have hlen:(rngL 11 (N-11).toNat).length<=30:=by rw[Cp];lia
 have hmem:∀d∈rngL 11 (N-11).toNat,∃k:Int,d=.int k/\0<=k/\k<=1000:=λd hd=>by
  rw[G0] at hd;clear 5(um9.mp hd)i hi rfl;have:=uk2.mp hi;exact⟨11+i,rfl,by lia,by lia⟩
 generalize rngL 11 (N-11).toNat=ds at hlen hmem⊢;obtain⟨I,hI⟩:∃I:List D->T->Prop,∀r t,I r t<->∃(mv:List Mv) (wl wr:List Nat) (S':List Ob) (e5 e6 e7 e8 e9 e10:Option Sl),mv.length+r.length<=30/\okQ g 0 mv/\Gr S S'/\S'[K]?=some (.dct (dW wl wr))/\wD wl=Ai g sL 0 mv/\wD wr=Ai g sR 0 mv/\t=⟨[vw (.lst (g.map GS.d)),vw (.scr ns),some (.own (Ao g 0 mv)),vw (.obj K),vw (.int (Aj g 0 mv:Nat)),e5,e6,e7,e8,e9,e10],S'⟩:=⟨_,λ_ _=>.rfl⟩;refine BE I _ _ ((hI _ _).mpr ⟨[],[],[],S1,none,none,none,none,none,none,by show 0+_<=30;lia,trivial,hA,hB,rfl,rfl,rfl⟩) ?_ ?_
 .rintro d r t h0 hd;obtain⟨mv,wl,wr,S',e5,e6,e7,e8,e9,e10,hl,hk,hG,hKw,el,er,rfl⟩:=(hI _ _).mp h0;clear 5(hmem d hd)k rfl k0 k1;rw[ug7] at hl;have hlt:=DR hg hg.ne hk;have hgs:=A9 hg hlt;clear 5(hc ns k k0 k1)c hc1;symm;refine AM (Bj hlt) ?_;symm;refine KL ?_;symm;refine BB (λz=>?_) λz=>?_
  .refine W_ret.mpr ?_;show D5 _ _ Out.next _;symm;exact⟨mv,K,wl,wr,hk,by lia,rfl,hG,by lia,hKw,el,er⟩
  .have hnf:¬(An g (Aj g 0 mv)).side=Str.ofString "end":=by simpa using z
   obtain⟨side,ws,egs⟩:∃side ws,An g (Aj g 0 mv)=.st side ws:=by
    cases e:An g (Aj g 0 mv) with
    |fin=>rw[e] at hnf;exact absurd rfl hnf
    |st side ws=>exact⟨side,ws,rfl⟩
   have hws:(An g (Aj g 0 mv)).ws=ws:=by rw[egs];rfl
   have hside:(An g (Aj g 0 mv)).side=side:=by rw[egs];rfl
   have hpos:0<ws.length/\ws.length<=9/\(side=sL\/side=sR):=by
    rw[egs] at hgs
    cases hgs with
    |st h1 h2 h3 _ _=>exact⟨h2,h3,h1⟩
   clear 5(bN hg hT hlt hpos.2.2 hside c)ws' p e' w0 w9 hp ew hdr hpl hnx;rw[egs] at e'
   cases e'
   have hw:=Fi hg hlt hpl;have hm:∀{v:D},Ah (wdAt g (Aj g 0 mv) p).2.1 v=true->MvOk g (Aj g 0 mv) p v:=λh=>⟨hlt,hpl,h⟩;symm;refine hc1.use ?_;symm;refine AM (Bj hlt) ?_;rw[egs,GS.d];symm;rw[ui4];refine HQ (by lia) ?_;symm;rw[hp];refine AM (DP ew) ?_;unfold wdD;symm;refine(hv _ hdr.dep hdr.ok hdr.nar hdr.tin _ S').mono ?_;rintro r0 S0 ⟨e0,v,lf,rfl,hf⟩;subst e0;symm;have hml:=RN hT (hm hf);have hbl:(Av (wdAt g (Aj g 0 mv) p).2.1 v).length<=40:=by rw[ug7] at hml;lia
   have hll:=Hc hT (sd:=sL) hk;have hlr:=Hc hT (sd:=sR) hk;have hon2:onS side (D.lst (wD wl)) (D.lst (wD wr))=.lst (wD (onS side wl wr)):=by unfold onS;split<;>rfl
   have hol:(wD (onS side wl wr)).length<=1300:=by
    unfold onS
    split
    .rw[el];lia
    .rw[er];lia
   refine BJ hKw (BI hpos.2.2) ?_;rw[hon2];symm;refine AY (by rw[hL];show _+1<=_;lia) ?_;symm;refine AM (DP ew) ?_;unfold wdD;symm;refine(hb _ hdr.dep hdr.ok hdr.nar v hf (by rw[hL];lia)).use ?_;symm;refine AY (by rw[ue8,hL];show _+1+_<=_;lia) ?_;symm;refine Ei hKw (by rw[hL];show 2<100000;decide) ?_;rw[NF hpos.2.2];symm;refine AM (DP ew) ?_;unfold wdD;symm;refine AY (by rw[AN,hL];lia) ?_;symm;refine AM (DP ew) ?_;unfold wdD;symm;obtain⟨y,hy,_⟩:=Rp (F1 (x:=p) (by rw[hws] at hpl;lia) (FX 3 _ hw.dep hw.ok v hf));have hd:wD (onS side wl wr)++[D.int (p:Int)]++Av (wdAt g (Aj g 0 mv) p).2.1 v=wD (onS side wl wr++y):=by rw[uf8,Gm,<-hy];rfl
   have hq:∀(w:List Nat) (s:Str),wD w=Ai g s 0 mv->wD (if side=s then w++y else w)=Ai g s 0 (mv++[(p,v)]):=λw s e=>by
    rw[DO,Ai,Ai,hside,ui6,<-e]
    split
    .rw[Gm,<-hy]
    .rw[ui6]
   have hq1:onS side (wl++y) wl=if side=sL then wl++y else wl:=rfl;have hq2:onS side wr (wr++y)=if side=sR then wr++y else wr:=by
    unfold onS;rcases hpos.2.2 with h|h
    .rw[jY h,jZ (by rw[h];decide)]
    .rw[jZ (by rw[h];decide),jY h]
   refine(hI _ _).mpr ⟨mv++[(p,v)],onS side (wl++y) wl,onS side wr (wr++y),_,_,_,_,_,_,_,?_,?_,hG.set (by lia),(A4 hKw).trans ?_,?_,?_,d7 ?_ ?_⟩
   .rw[ue8,uc8];lia
   .rw[GU];exact⟨hk,hm hf,trivial⟩
   .rw[hd]
    congr 2
    unfold onS
    split<;>rfl
   .rw[hq1];exact hq wl sL el
   .rw[hq2];exact hq wr sR er
   .rw[Mm];show _=_++[D3 g (Aj g 0 mv) p _];unfold D3;rw[hside]
   .rw[Fp];show _=D.int (nextQ g (Aj g 0 mv) p:Nat);rw[hnx]
 .rintro t h0;obtain⟨mv,wl,wr,S',e5,e6,e7,e8,e9,e10,hl,hk,hG,hKw,el,er,rfl⟩:=(hI _ _).mp h0;symm;exact⟨mv,K,wl,wr,hk,by lia,rfl,hG,by lia,hKw,el,er⟩
local macro_rules | `(tactic| walk_at"y1")=>`(tactic| walk_at"x1")
def nbD(r:D):Prop:=∀a,r≠exB a
theorem EK:nbD exS:=λa h=>by injection h with h1;revert h1;decide
theorem NN{i:Int}:nbD (.int i):=λa h=>by cases h
theorem Zm:nbD (.str x):=λa h=>by cases h
theorem Ix:nbD (.tup xs):=λa h=>by cases h
def PureB(S:List Ob)(f:Fn)(ds:List D)(r:D):Prop:=nbD r->PureS S f ds r
theorem PureB.use{f:Fn}{ds:List D}{r:D}{S:List Ob}(h:PureB S f ds r)(n:nbD r){P:D->List Ob->Prop}(p:P r S):Wf f ds S P:=PureS.use (h n) p
def UXn(f:Fn):Prop:=∀(S:List Ob) (wv:D) (m:Int) (w:List Nat) (a:Nat),Wir S wv w->PureB S f [.int m,wv,.int (a:Int)] (upX m a w[a]?)
theorem az(hc:BXw c):UXn (fnOf 3 4 (EE c)):=by
 intro S wv m w a hv hnb;refine Ak rfl ?_;unfold EE;have hb:=hc S wv w a hv
 cases h:w[a]? with
 |none=>
   rw[h,byX] at hb;symm;refine hb.use ?_;symm;exact⟨rfl,rfl⟩
 |some b=>
   rw[h,byX] at hb;symm;refine hb.use ?_;symm;rw[h,upX] at hnb;rw[upX]
   by_cases q:(b:Int)<=m
   .rw[jY q];refine Ea (uk1 (by lia)) ?_;symm;exact⟨rfl,rfl,rfl⟩
   .rw[jZ q] at hnb;exact(hnb _ rfl).elim
def SXn(f:Fn):Prop:=∀(S:List Ob) (wv:D) (w:List Nat) (a:Nat),Wir S wv w->PureB S f [wv,.int (a:Int)] (sgX a w[a]?)
theorem al{cs cb:Fn}(hs:Kf cs)(hb:BXw cb):SXn (fnOf 2 3 (F9 cs cb)):=by
 intro S wv w a hv hnb;refine Ak rfl ?_;unfold F9;have hb:=hb S wv w a hv
 cases h:w[a]? with
 |none=>
   rw[h,byX] at hb;symm;refine hb.use ?_;symm;exact⟨rfl,rfl⟩
 |some c=>
   rw[h,byX] at hb;symm;rw[h,sgX] at hnb;refine hb.use ?_;symm;refine(hs c).use ?_;rw[sgX]
   by_cases q:Bs c=true
   .rw[jY q,q];symm;refine W_ix_str.mpr ⟨by decide +kernel,c,af q,?_⟩;exact⟨rfl,rfl,rfl⟩
   .have q':Bs c=false:=by simpa using q
    rw[jZ q] at hnb;exact(hnb _ rfl).elim
theorem Z8{cb:Fn}(hl:HY cl)(hb:BXw cb)(hw:Kj cw){lo hi:Int}(hwf:wf (.number lo hi)=true)(w:List Nat)(a:Nat){S:List Ob}{wv:D}(hv:Wir S wv w):PureB S (fnOf 3 7 (Dc cl cb cw)) [(Sh.number lo hi).d,wv,.int (a:Int)] (rrD ((HG lo (hi-lo).toNat (wid (hi-lo).toNat) 0).run w a)):=by
 intro hnb;have hsp:=Pe hwf;have hwd:=IM 9 _ hsp;refine Ak rfl ?_;unfold Dc;rw[Sh.d];have em:hi-lo=(((hi-lo).toNat:Nat):Int):=by
  simp only[wf,uh1,ug4] at hwf;lia
 have hww:=λS P p=>(hw (hi-lo).toNat hsp).use (S:=S) (P:=P) p;rw[<-em] at hww;generalize (hi-lo).toNat=M at *;generalize hW:wid M=n at *;symm;refine hww _ _ ?_;rw[em];symm;refine FE (Be (by lia) (by lia)) ?_;refine BE (λr t=>∃(j x:Nat) (e6:Option Sl),j<=n/\r=(rngL 0 ((n:Nat):Int).toNat).drop j/\(HG lo M n 0).run w a=(HG lo M (n-j) x).run w (a+j)/\t=⟨[vw (.tup [.str "number",.int lo,.int hi]),vw wv,vw (.int a),vw (.int M),vw (.int n),vw (.int x),e6],S⟩) _ _ ⟨0,0,none,un5 _,rfl,rfl,rfl⟩ ?_ ?_
 .rintro d r t ⟨j,x,e6,hj,hr,hrun,rfl⟩ _;clear 5(LL hr)rfl hr' hjn;rw[uf6] at hjn;rw[un1];obtain⟨e,he⟩:∃e,n-j=e+1:=⟨n-j-1,by lia⟩;rw[he,HG] at hrun;have hby:=hb S wv w (a+j) hv;symm;refine Qz (O1 (by decide) (by decide)) ?_;symm;rw[show((a:Int)+(j:Int))=((a+j:Nat):Int) by lia]
  cases h:w[a+j]? with
  |none=>
    rw[h,byX] at hby;rw[Cq h] at hrun;refine hby.use ?_;symm;exact⟨by rw[hrun];rfl,rfl⟩
  |some b=>
    rw[h,byX] at hby;rw[Bd h] at hrun;refine hby.use ?_;symm;refine⟨rfl,?_⟩;symm;rw[show((n:Int)-1-(j:Int))=((e:Nat):Int) by lia,show((x:Int)*256+(b:Int))=((x*256+b:Nat):Int) by lia];refine(hl M e (by lia)).use ?_;symm
    by_cases q:x*256+b<=M/2 ^ (8*e)
    .rw[jY (uk7 q)] at hrun;refine Ea (uk1 (by lia)) ?_;symm;exact⟨j+1,x*256+b,_,hjn,hr',by rw[show n-(j+1)=e by lia,hrun,ul8],rfl⟩
    .rw[jZ (by rw[ug4];exact q)] at hrun;rw[hrun] at hnb;exact(hnb _ rfl).elim
 .rintro t ⟨j,x,e6,hj,hr,hrun,rfl⟩;have hj':j=n:=by
   have:=jT List.length hr;rw[uj2,uh0,KY,uf6] at this;lia
  subst hj';rw[un2,HG,Rd.run] at hrun;symm;exact⟨rfl,by rw[hrun];rfl,rfl⟩
variable{cu:Fn}
theorem Xm{ca:Fn}(ha:SXn ca)(hu:UXn cu){q:Int}(hwf:wf (.text q)=true)(n:Nat)(w:List Nat)(a:Nat){S:List Ob}{wv:D}(hv:Wir S wv w):PureB S (fnOf 3 7 (DW ca cu)) [(Sh.text q).d,wv,.int (a:Int)] (rrD ((pSh (n+1) (.text q)).run w a)):=by
 intro hnb;have hL:LIM=100000:=rfl;refine Ak rfl ?_;unfold DW;rw[Sh.d,pSh];rw[pSh] at hnb;simp only[wf,uh1,ug4] at hwf;have hup:=hu S wv q w a hv;symm
 cases h:w[a]? with
 |none=>
   rw[h,upX] at hup;rw[Cq h];refine hup.use EK ?_;symm;exact⟨rfl,rfl⟩
 |some b=>
   rw[h,upX] at hup;rw[Bd h] at hnb⊢
   by_cases hb:(b:Int)<=q
   .rw[jY hb] at hup;rw[jY (uk7 hb)] at hnb⊢;refine hup.use NN ?_;symm;refine FE (Be (by lia) (by lia)) ?_;refine BE (λr t=>∃(j:Nat) (y:Str) (e6:Option Sl),j<=b/\r=(rngL 0 ((b:Nat):Int).toNat).drop j/\y.cps.toList.length=j/\(IB b []).run w (a+1)=(IB (b-j) y.cps.toList).run w (a+1+j)/\t=⟨[vw (.tup [.str "text",.int q]),vw wv,vw (.int a),vw (.int b),vw (.int ((a:Int)+1)),vw (.str y),e6],S⟩) _ _ ⟨0,Str.ofString "",none,un5 _,rfl,by decide +kernel,by rw[jM,um7,show(Str.ofString "").cps.toList=[] by decide +kernel],rfl⟩ ?_ ?_
    .rintro d r t ⟨j,y,e6,hj,hr,hyl,hrun,rfl⟩ _;clear 5(LL hr)rfl hr' hjn;rw[uf6] at hjn;rw[un1];obtain⟨e,he⟩:∃e,b-j=e+1:=⟨b-j-1,by lia⟩;rw[he,IB] at hrun;have hsg:=ha S wv w (a+1+j) hv;symm;rw[show((a:Int)+1+(j:Int))=((a+1+j:Nat):Int) by lia]
     cases h2:w[a+1+j]? with
     |none=>
       rw[h2,sgX] at hsg;rw[Cq h2] at hrun;refine hsg.use EK ?_;symm;exact⟨by rw[hrun];rfl,rfl⟩
     |some c=>
       rw[h2,sgX] at hsg;rw[Bd h2] at hrun
       by_cases hc:Bs c=true
       .rw[jY hc] at hsg hrun;refine hsg.use Zm ?_;symm;refine AY (by rw[Fr y,hyl,hL];show j+1<=_;lia) ?_;refine⟨rfl,?_⟩;symm;refine⟨j+1,_,_,hjn,hr',?_,?_,rfl⟩
        .rw[L5,ue8,hyl];rfl
        .rw[hrun,L5,show b-(j+1)=e by lia,ul8 (a+1)]
       .rw[jZ hc] at hsg hrun;rw[hrun] at hnb;exact(hnb _ rfl).elim
    .rintro t ⟨j,y,e6,hj,hr,hyl,hrun,rfl⟩;have hj':j=b:=by
      have:=jT List.length hr;rw[uj2,uh0,KY,uf6] at this;lia
     subst hj';rw[un2,IB,Rd.run] at hrun;have ey:(⟨y.cps.toList.toArray⟩:Str)=y:=XT (by simp);rw[ey] at hrun;symm;refine⟨rfl,?_,rfl⟩;rw[hrun,rrD,show((a:Int)+1+(j:Int))=((a+1+j:Nat):Int) by lia]
   .rw[jZ (by rw[ug4];exact hb)] at hnb;exact(hnb _ rfl).elim
def RXn(c:Fn)(s:Sh)(p:Rd):Prop:=∀(S:List Ob) (wv:D) (w:List Nat) (a:Nat),Wir S wv w->a<=w.length->PureB S c [s.d,wv,.int (a:Int)] (rrD (p.run w a))
theorem Xj{s:Sh}{p:Rd}{q:Int}(hu:UXn cu)(hq2:q<=250)(hc:RXn c s p)(w:List Nat)(a:Nat){S:List Ob}{wv:D}(hv:Wir S wv w):PureB S (fnOf 3 8 (DU c cu)) [(Sh.list s q).d,wv,.int (a:Int)] (rrD ((Rd.need (λb=>decide ((b:Int)<=q)) λb=>HF p b []).run w a)):=by
 intro hnb;have hL:LIM=100000:=rfl;refine Ak rfl ?_;unfold DU;rw[Sh.d];have hup:=hu S wv q w a hv;symm
 cases h:w[a]? with
 |none=>
   rw[h,upX] at hup;rw[Cq h];refine hup.use EK ?_;symm;exact⟨rfl,rfl⟩
 |some b=>
   have hal:=(ua9.mp h).1;rw[h,upX] at hup;rw[Bd h] at hnb⊢
   by_cases hb:(b:Int)<=q
   .rw[jY hb] at hup;rw[jY (uk7 hb)] at hnb⊢;refine hup.use NN ?_;symm;refine FE (Be (by lia) (by lia)) ?_;refine BE (λr t=>∃(j a':Nat) (ds:List D) (e6 e7:Option Sl),j<=b/\r=(rngL 0 ((b:Nat):Int).toNat).drop j/\ds.length=j/\a'<=w.length/\(HF p b []).run w (a+1)=(HF p (b-j) ds).run w a'/\t=⟨[vw (.tup [.str "list",s.d,.int q]),vw wv,vw (.int a),vw (.int b),vw (.int (a':Int)),some (.own ds),e6,e7],S⟩) _ _ ⟨0,a+1,[],none,none,un5 _,rfl,rfl,hal,rfl,rfl⟩ ?_ ?_
    .rintro d r t ⟨j,a',ds,e6,e7,hj,hr,hdl,ha',hrun,rfl⟩ _;clear 5(LL hr)rfl hr' hjn;rw[uf6] at hjn;obtain⟨e,he⟩:∃e,b-j=e+1:=⟨b-j-1,by lia⟩;rw[he,HF,DX] at hrun;have hcc:=hc S wv w a' hv ha'
     cases h2:p.run w a' with
     |short=>
       rw[h2] at hrun hcc;symm;refine hcc.use EK ?_;rw[rrD];symm;exact⟨by rw[hrun];rfl,rfl⟩
     |broken k=>
       rw[h2] at hrun hcc;rw[hrun] at hnb;exact(hnb _ rfl).elim
     |told v a2=>
       have hle:=Hb p a' ha' h2;rw[h2] at hrun hcc;symm;refine hcc.use Ix ?_;rw[rrD];symm;refine AY (by rw[hdl,hL];lia) ?_;symm;exact⟨j+1,a2,ds++[v],_,_,hjn,hr',by rw[ue8,hdl];rfl,hle.2,by rw[hrun,show b-(j+1)=e by lia];rfl,rfl⟩
    .rintro t ⟨j,a',ds,e6,e7,hj,hr,hdl,ha',hrun,rfl⟩;have hj':j=b:=by
      have:=jT List.length hr;rw[uj2,uh0,KY,uf6] at this;lia
     subst hj';rw[un2,HF,Rd.run] at hrun;symm;exact⟨rfl,by rw[hrun];rfl,rfl⟩
   .rw[jZ (by rw[ug4];exact hb)] at hnb;exact(hnb _ rfl).elim
theorem Xl{s r:Sh}{p p':Rd}(hs:RXn c s p)(hr:RXn c r p')(w:List Nat)(a:Nat){S:List Ob}{wv:D}(hv:Wir S wv w)(ha:a<=w.length):PureB S (fnOf 3 5 (DV c)) [(Sh.pair s r).d,wv,.int (a:Int)] (rrD ((p.bnd λv=>p'.bnd λu=>.done (.tup [v,u])).run w a)):=by
 intro hnb;refine Ak rfl ?_;unfold DV;rw[Sh.d,DX];rw[DX] at hnb;have h1:=hs S wv w a hv ha
 cases e1:p.run w a with
 |short=>
   rw[e1] at h1;symm;refine h1.use EK ?_;rw[rrD];symm;exact⟨rfl,rfl⟩
 |broken k=>
   rw[e1] at hnb;exact(hnb _ rfl).elim
 |told v a'=>
   have hle:=Hb p a ha e1;rw[e1] at h1 hnb;have h2:=hr S wv w a' hv hle.2;rw[RR.thn,DX] at hnb⊢;symm;refine h1.use Ix ?_;rw[rrD];symm
   cases e2:p'.run w a' with
   |short=>rw[e2] at h2;refine h2.use EK ?_;rw[rrD];symm;exact⟨rfl,rfl⟩
   |broken k=>rw[e2] at hnb;exact(hnb _ rfl).elim
   |told u a2=>rw[e2] at h2;refine h2.use Ix ?_;rw[rrD];symm;exact⟨rfl,rfl,rfl⟩
theorem So{p:Nat->Rd}(hu:UXn cu)(hc:∀(k:Nat) (h:k<ss.length),RXn c ss[k] (p k))(w:List Nat)(a:Nat){S:List Ob}{wv:D}(hv:Wir S wv w):PureB S (fnOf 3 5 (Db c cu)) [(Sh.choice ss).d,wv,.int (a:Int)] (rrD ((Rd.need (λb=>decide (b<ss.length)) λb=>(p b).bnd λv=>.done (.tup [.str "of",.int b,v])).run w a)):=by
 intro hnb;refine Ak rfl ?_;unfold Db;rw[Sh.d];have hup:=hu S wv ((ss.length:Int)-1) w a hv;symm;rw[Ds]
 cases h:w[a]? with
 |none=>
   rw[h,upX] at hup;rw[Cq h];refine hup.use EK ?_;symm;exact⟨rfl,rfl⟩
 |some b=>
   have hal:=(ua9.mp h).1;rw[h,upX] at hup;rw[Bd h] at hnb⊢
   by_cases hb:b<ss.length
   .rw[jY (show(b:Int)<=(ss.length:Int)-1 by lia)] at hup;rw[jY (uk7 hb),DX] at hnb⊢;refine hup.use NN ?_;have e0:ss[b]?=some ss[b]:=ub3 hb;have hsd:atI (shD ss) (b:Int)=some ss[b].d:=IT (by rw[FQ,e0];rfl);have h2:=hc b hb S wv w (a+1) hv hal;symm;refine Fd hsd ?_;symm;rw[show((a:Int)+1)=((a+1:Nat):Int) by lia]
    cases e2:(p b).run w (a+1) with
    |short=>rw[e2] at h2;refine h2.use EK ?_;rw[rrD];symm;exact⟨rfl,rfl⟩
    |broken k=>rw[e2] at hnb;exact(hnb _ rfl).elim
    |told u a2=>rw[e2] at h2;refine h2.use Ix ?_;rw[rrD];symm;exact⟨rfl,rfl,rfl⟩
   .rw[jZ (by rw[ug4];exact hb)] at hnb;exact(hnb _ rfl).elim
def H9(f:Fn)(n:Nat):Prop:=∀s:Sh,s.depth<=n->wf s=true->RXn f s (pSh n s)
theorem Sq(hn:∀lo hi,wf (.number lo hi)=true->RXn cn (.number lo hi) (pSh (n+1) (.number lo hi)))(ht:∀q,wf (.text q)=true->RXn ct (.text q) (pSh (n+1) (.text q)))
 (hl:∀s q,q<=250->s.depth<=n->wf s=true->RXn cl (.list s q) (pSh (n+1) (.list s q))) (hp:∀s r,s.depth<=n->r.depth<=n->wf s=true->wf r=true->RXn cp (.pair s r) (pSh (n+1) (.pair s r)))
 (hc:∀ss:List Sh,(∀(k:Nat) (h:k<ss.length),ss[k].depth<=n/\wf ss[k]=true)->RXn cc (.choice ss) (pSh (n+1) (.choice ss))):H9 (fnOf 3 4 (Dx cc cp cl ct cn)) (n+1):=by
 intro s hs hwf S wv w a hv ha hnb;refine Ak rfl ?_;unfold Dx
 cases s with
 |nothing=>
   rw[Sh.d,pSh,Rd.run,rrD];symm;exact⟨rfl,rfl,rfl⟩
 |number lo hi=>
   have h:=hn lo hi hwf S wv w a hv ha;rw[Sh.d] at h⊢;symm;exact h.use hnb ⟨rfl,rfl⟩
 |text q=>
   have h:=ht q hwf S wv w a hv ha;rw[Sh.d] at h⊢;symm;exact h.use hnb ⟨rfl,rfl⟩
 |list s q=>
   simp only[wf,uh1,ug4] at hwf;rw[Sh.depth] at hs;have h:=hl s q hwf.1.2 (by lia) hwf.2 S wv w a hv ha;rw[Sh.d] at h⊢;symm;exact h.use hnb ⟨rfl,rfl⟩
 |pair s r=>
   simp only[wf,uh1] at hwf;rw[Sh.depth] at hs;have h:=hp s r (by lia) (by lia) hwf.1 hwf.2 S wv w a hv ha;rw[Sh.d] at h⊢;symm;exact h.use hnb ⟨rfl,rfl⟩
 |choice ss=>
   simp only[wf,uh1,ug4] at hwf;rw[Sh.depth] at hs;have h:=hc ss (λk hk=>⟨um4 (Cd ss _ _ (ub3 hk)) (by lia),DZ hwf.2 _ (uh7 hk)⟩) S wv w a hv ha;rw[Sh.d] at h⊢;symm;exact h.use hnb ⟨rfl,rfl⟩
theorem Qn{ca cl' cb:Fn}(e1:cc=fnOf 3 5 (Db c cu))(e2:cp=fnOf 3 5 (DV c))(e3:cl=fnOf 3 8 (DU c cu))(e4:ct=fnOf 3 7 (DW ca cu))(e5:cn=fnOf 3 7 (Dc cl' cb cw))
 (hu:UXn cu) (ha:SXn ca) (hl':HY cl') (hb:BXw cb) (hw:Kj cw) (hc:H9 c n):H9 (fnOf 3 4 (Dx cc cp cl ct cn)) (n+1):=by
 subst e1 e2 e3 e4 e5;refine Sq (λlo hi h S wv w a hv _=>?_) (λq h S wv w a hv _=>Xm ha hu h n w a hv) (λs q h2 hd h S wv w a hv _=>?_) (λs r d1 d2 w1 w2 S wv w a hv ha=>?_) λss h S wv w a hv _=>?_
 .rw[pSh];exact Z8 hl' hb hw h w a hv
 .rw[pSh];exact Xj hu h2 (hc s hd h) w a hv
 .rw[pSh];exact Xl (hc s d1 w1) (hc r d2 w2) w a hv ha
 .rw[pSh];refine So hu (p:=λb=>pSh n (ss.getD b .nothing)) (λk hk=>?_) w a hv;show RXn c ss[k] (pSh n (ss.getD k .nothing));rw[ua7,ub3 hk,Option.getD_some];exact hc _ (h k hk).1 (h k hk).2
def Ta(f:Fn):Prop:=∀(S:List Ob) (wv:D) (n:Int) (side:Str) (ws:List (Str×Sh×Int)) (w:List Nat) (p:Nat),Wir S wv w->GSOk n (.st side ws)->p<=w.length->w.length<=50000->(∀j c,msgR side ws w p≠(.broken j,c))->PureS S f [(GS.st side ws).d,wv,.int p] (Iw side ws w p)
theorem WE(hc:H9 c 3):Ta (fnOf 3 6 (D2 c)):=by
 intro S wv n side ws w p hv hgs hp hwl hnb
 cases hgs with
 |@st _ _ hs1 hs2 hs3 hs4 hs5=>
 refine Ak rfl ?_;unfold D2;rw[GS.d]
 cases hb:w[p]? with
 |none=>
   have hpl:¬p<w.length:=by rw[ub2] at hb;lia
   rw[show Iw side ws w p=.non by unfold Iw msgR;rw[hb]];symm;refine La hv ?_;symm;refine HA (by simp;lia) ?_;symm;exact⟨rfl,rfl⟩
 |some cc=>
   obtain⟨hpl,_⟩:=ua9.mp hb;symm;refine La hv ?_;symm;refine Ea (by simp;lia) ?_;symm;refine U5 hv hb ?_;symm;rw[ui4]
   cases hw:ws[cc]? with
   |none=>exact(hnb p 0 (by unfold msgR;simp only[hb,hw])).elim
   |some wd=>
     obtain⟨hcl,_⟩:=ua9.mp hw;have hwo:=hs5 wd (ud4 hw);have hgd:ws.getD cc (Str.ofString "",.nothing,0)=wd:=by rw[ua7,hw];rfl
     have hrd:=hc wd.2.1 hwo.dep hwo.ok S wv w (p+1) hv hpl;refine Ea (by simp;lia) ?_;symm;refine U5 hv hb ?_;symm;refine AM (DP hw) ?_;unfold wdD;dsimp only;symm
     cases e:(pSh 3 wd.2.1).run w (p+1) with
     |told v b=>
       rw[show Iw side ws w p=.tup [.tup [.str side,.str wd.1,v],.int wd.2.2,.int b] by unfold Iw msgR;simp only[hb,hw,e,hgd]];rw[e,rrD] at hrd;refine hrd.use Ix ?_;symm;exact⟨rfl,rfl⟩
     |short=>
       rw[show Iw side ws w p=.non by unfold Iw msgR;simp only[hb,hw,e]];rw[e,rrD] at hrd;refine hrd.use EK ?_;symm;exact⟨rfl,rfl⟩
     |broken k=>exact(hnb k cc (by unfold msgR;simp only[hb,hw,e])).elim
def IR(f:Fn):Prop:=∀(g:List GS) (wl wr:List Nat) (dl dr:D) (h a b W P:Nat) (S:List Ob) (t0:List D) (h0 a0 b0:Nat),GOk g->Pl g wl wr h a b->wl.length<=25000->wr.length<=25000->Wir S dl wl->Wir S dr wr->S[W]?=some (.dct (lr dl dr))->S[P]?=some (.dct (dP a b))->AR g wl wr (wl.length+wr.length+1) h a b []=(t0,h0,a0,b0,none)->
 Wf f [.lst (g.map GS.d),.int h,.obj W,.obj P] S λr S'=>Gr S S'/\∃K,S.length<=K/\r=.tup [.lst t0,.int (h0:Nat),.obj K]/\S'[K]?=some (.dct (dP a0 b0))
theorem OC(hc:Ta c):IR (fnOf 4 9 (F8 c)):=by
 intro g wl wr dl dr h a b W P S t0 h0 a0 b0 hg p hl1 hl2 hvl hvr hW hP hR;have hL:LIM=100000:=rfl;refine Ak rfl ?_;unfold F8;symm;refine aC hP ?_;symm;obtain⟨R,hRe⟩:∃R:Rs,R=(t0,h0,a0,b0,none):=⟨_,rfl⟩;rw[<-hRe] at hR;obtain⟨K,hK⟩:∃K,K=S.length:=⟨_,rfl⟩;rw[<-hK];refine FW (λn t=>∃(h' a' b':Nat) (tk:List D) (S':List Ob) (e7 e8:Option Sl),Pl g wl wr h' a' b'/\wl.length+wr.length+1<=n+(a'+b')/\tk.length+n<=wl.length+wr.length+1/\AR g wl wr n h' a' b' tk=R/\Gr S S'/\S'[K]?=some (.dct (dP a' b'))/\t=⟨[vw (.lst (g.map GS.d)),vw (.int h),vw (.obj W),vw (.obj P),some (.own tk),vw (.int h'),vw (.obj K),e7,e8],S'⟩) ?_ Hh (wl.length+wr.length+1) _ ?_ ?_
 .rintro n t ⟨h',a',b',tk,S',e7,e8,p',hn,ht,hR',hG,hK',rfl⟩;have pa:=p'.a;have pb:=p'.b;obtain⟨m,rfl⟩:∃m,n=m+1:=iz (by lia);have hgs:=A9 hg p'.h;have hix:=Bj p'.h;have hW':=hG.get hW;unfold AR B1 at hR'
  cases eg:An g h' with
  |fin=>
    rw[eg] at hix hR';rw[GS.d] at hix;symm;refine AM hix ?_;symm;refine aG hW' ?_;rw[Ts];symm;show D5 _ _ Out.next _;symm;subst hR';simp only[jE] at hRe;obtain⟨rfl,rfl,rfl,rfl,_⟩:=hRe;exact⟨hG,K,by lia,rfl,hK'⟩
  |st side ws=>
    rw[eg] at hix hR' hgs;have hs:side=sL\/side=sR:=by cases hgs with|st hs1 _ _ _ _=>exact hs1
    have hix2:=hix;rw[GS.d] at hix2;symm;refine AM hix2 ?_;symm;refine aG hW' ?_;rw[BI hs];symm;refine⟨m,rfl,?_⟩;symm;refine AM hix2 ?_;symm;refine AM hix ?_;symm;refine BJ hW' (BI hs) ?_;symm;refine BJ hK' (BI hs) ?_;symm;have hon:(onS side (D.int (a':Int)) (D.int (b':Int)))=.int ((onS side a' b':Nat):Int):=by unfold onS;split<;>rfl
    have hon2:Wir S' (onS side dl dr) (onS side wl wr):=by unfold onS;split;exact hvl.gr hG;exact hvr.gr hG
    rw[hon];have hle:=Zs (s:=side) pa pb;have hms:=hc S' (onS side dl dr) g.length side ws (onS side wl wr) (onS side a' b') hon2 hgs hle (by unfold onS;split<;>lia)
    unfold Iw at hms;dsimp only at hR';generalize hmr:msgR side ws (onS side wl wr) (onS side a' b')=mr at hms hR';clear 5 mr r0 c0
    cases r0 with
    |short=>
      have hms:=hms λ_ _ h=>by cases h
      dsimp only at hms hR';refine hms.use ?_;symm;refine W_ret.mpr ?_;show D5 _ _ Out.next _;symm;subst hR';simp only[jE] at hRe;obtain⟨rfl,rfl,rfl,rfl,_⟩:=hRe;exact⟨hG,K,by lia,rfl,hK'⟩
    |broken k=>
      dsimp only at hR';subst hR'
      cases hRe
    |told v e=>
      have hms:=hms λ_ _ h=>by cases h
      dsimp only at hms hR';have hst:B1 g wl wr h' a' b'=.next (.tup [.str side,.str (ws.getD c0 (Str.ofString "",.nothing,0)).1,v]) (ws.getD c0 (Str.ofString "",.nothing,0)).2.2.toNat (onS side e a') (onS side b' e):=by
       unfold B1;rw[eg];dsimp only;rw[hmr]
      clear 5(II hg p' hst)p2 hlt;refine hms.use ?_;symm;refine AY (by rw[hL];lia) ?_;symm;refine Ei hK' (by show 2<100000;decide) ?_;rw[NF hs];have hwl:(0:Int)<=(ws.getD c0 (Str.ofString "",.nothing,0)).2.2:=by
       cases hgs with
       |st _ h2 _ _ h5=>
         cases hq:ws[c0]? with
         |none=>rw[ua7,hq];exact Int.le_refl _
         |some wd=>rw[ua7,hq];exact(h5 wd (ud4 hq)).lo
      have hd:lr (onS side (D.int (e:Int)) (D.int (a':Int))) (onS side (D.int (b':Int)) (D.int (e:Int)))=dP (onS side e a') (onS side b' e):=by unfold onS;split<;>rfl
      refine⟨_,_,_,tk++[_],_,_,_,p2,by lia,by rw[ue8,uc8];lia,hR',hG.set (by lia),(A4 hK').trans (jT (λl=>some (Ob.dct l)) hd),t9 rfl (jT D.int (ue2 hwl).symm)⟩
 .show _<1000000;lia
 .exact⟨h,a,b,[],_,none,none,p,by lia,by simp,hR,Gr.app,by rw[hK];exact Dp,rfl⟩
def Lh(f:Fn):Prop:=∀(g:List GS) (wl wr:List Nat) (S:List Ob) (t0:List D) (h0 a0 b0:Nat),GOk g->wl.length<=25000->wr.length<=25000->AR g wl wr (wl.length+wr.length+1) 0 0 0 []=(t0,h0,a0,b0,none)->Wf f [.lst (g.map GS.d),.lst (wD wl),.lst (wD wr)] S λr S'=>Gr S S'/\r=.tup [.lst t0,.int (h0:Nat),.tup [.int (a0:Nat),.int (b0:Nat)]]
theorem OD(hc:IR c):Lh (fnOf 3 4 (Gb c)):=by
 intro g wl wr S t0 h0 a0 b0 hg hl1 hl2 hw0;refine Ak rfl ?_;unfold Gb;symm;refine Jl ?_;refine Bt ?_;symm;refine Bt ?_;symm;refine Et ?_;refine⟨by simp,by show 2<=15;decide,?_⟩;have hA:Gr S ((S++[Ob.dct []]).set S.length (.dct (AT (dW wl wr)))):=Gr.app.set (un4 _);have hB:((S++[Ob.dct []]).set S.length (.dct (AT (dW wl wr))))[S.length]?=some (.dct (dW wl wr)):=by rw[F4];exact A4 Dp
 show W _ ⟨_,(S++[Ob.dct []]).set S.length (.dct (AT (dW wl wr)))⟩ _;generalize (S++[Ob.dct []]).set S.length (.dct (AT (dW wl wr)))=S1 at hA hB⊢;symm;refine Jl ?_;refine Bt ?_;symm;refine Bt ?_;symm;refine Et ?_;refine⟨by simp,by show 2<=15;decide,?_⟩;have hC:Gr S1 ((S1++[Ob.dct []]).set S1.length (.dct (AT (dP 0 0)))):=Gr.app.set (un4 _);have hD:((S1++[Ob.dct []]).set S1.length (.dct (AT (dP 0 0))))[S1.length]?=some (.dct (dP 0 0)):=by rw[F4];exact A4 Dp
 show W _ ⟨_,(S1++[Ob.dct []]).set S1.length (.dct (AT (dP 0 0)))⟩ _;generalize (S1++[Ob.dct []]).set S1.length (.dct (AT (dP 0 0)))=S2 at hC hD⊢;symm;refine(hc g wl wr _ _ 0 0 0 S.length S1.length S2 t0 h0 a0 b0 hg ⟨hg.ne,un5 _,un5 _⟩ hl1 hl2 (.inl rfl) (.inl rfl) (hC.get hB) hD hw0).mono ?_;rintro r S3 ⟨hG,K,_,rfl,hK⟩;symm;refine BJ hK Jc ?_;symm;refine BJ hK Jd ?_;symm;exact⟨hA.trans (hC.trans hG),rfl⟩
def FG(f:Fn):Prop:=∀(S:List Ob) (k:Nat) (g:List GS) (vl vr x:List Nat) (h a b W P l r:Nat) (side:Str) (t:List D) (h' a' b':Nat),GOk g->Pl g vl vr h a b->(onS side (vl++x) vl).length<=25000->(onS side vr (vr++x)).length<=25000->(side=sL\/side=sR)->Rdr 0 S k g vl vr h a b W P l r->
 AR g (onS side (vl++x) vl) (onS side vr (vr++x)) (Fu (onS side (vl++x) vl) (onS side vr (vr++x))) h a b []=(t,h',a',b',none)->
 Wf f [.obj k,.str side,.lst (wD x)] S λq S'=>q=.lst t/\Kx [k,l,r] S S'/\∃P',S.length<=P'/\Rdr 0 S' k g (onS side (vl++x) vl) (onS side vr (vr++x)) h' a' b' W P' l r
theorem Rk(hc:IR c):FG (fnOf 3 4 (Ec c)):=by
 intro S k g vl vr x h a b W P l r side t0 h0 a0 b0 hg hp hw1 hw2 hs R hwk;have hL:LIM=100000:=rfl;clear 5(R.ext (side:=side) x)hx R1;have hp1:Pl g (onS side (vl++x) vl) (onS side vr (vr++x)) h a b:=by
  have:=hp.a;have:=hp.b;refine⟨hp.h,?_,?_⟩<;>(unfold onS;split<;>(try rw[ue8])<;>lia)
 have hlw:(onS side vl vr).length+x.length<=50000:=by
  unfold onS at hw1 hw2⊢
  split
  .next q=>rw[jY q,ue8] at hw1;lia
  .next q=>rw[jZ q,ue8] at hw2;lia
 refine Ak rfl ?_;unfold Ec;symm;refine VL (k:=onS side l r) ?_;symm;refine D9 R.k rfl ?_;symm;refine BJ R.w (BI hs) ?_;refine⟨by unfold onS;split<;>rfl,_,hx,?_⟩
 symm;refine⟨_,wD (onS side vl vr)++wD x,hx,by simp only[EW];rw[jY (by rw[Bi,Bi,hL];lia)],?_⟩;have K1:Kx [k,l,r] S (S.set (onS side l r) (.lst (wD (onS side vl vr)++wD x))):=Kx.refl.set (by unfold onS;split<;>simp)
 generalize hS1:S.set (onS side l r) (.lst (wD (onS side vl vr)++wD x))=S1 at R1 K1⊢;generalize onS side (vl++x) vl=ul at *;generalize onS side vr (vr++x)=ur at *;symm;refine D9 R1.k rfl ?_;symm;refine D9 R1.k rfl ?_;symm;refine D9 R1.k rfl ?_;symm;refine D9 R1.k rfl ?_;symm;refine(hc g ul ur (.obj l) (.obj r) h a b W P S1 t0 h0 a0 b0 hg hp1 hw1 hw2 (.inr ⟨l,rfl,R1.l⟩) (.inr ⟨r,rfl,R1.r⟩) R1.w R1.p hwk).mono ?_;rintro q S2 ⟨hG,K,hK0,rfl,hK⟩;have R2:=R1.gr hG;have K2:=K1.gr hG;symm;refine Fe R2.k (by show 4<1000;decide) ?_;symm;refine Fe (A4 R2.k) (by show 4<1000;decide) ?_;symm;refine⟨rfl,(K2.set (by simp)).set (by simp),K,by have:=K1.1;lia,?_⟩;show Rdr 0 ((S2.set k (.ins "Reader" (rdF g h0 W P))).set k (.ins "Reader" (rdF g h0 W K))) k g ul ur h0 a0 b0 W K l r;rw[List.set_set];exact R2.put hK
theorem TH(hc:FG c):FG (fnOf 3 3 (Fw c)):=by
 intro S k g vl vr x h a b W P l r side t0 h0 a0 b0 hg hp hl1 hl2 hs R hw;refine Ak rfl ?_;unfold Fw;symm;refine⟨k,_,rfl,R.k,?_⟩;symm;exact hc S k g vl vr x h a b W P l r side t0 h0 a0 b0 hg hp hl1 hl2 hs R hw
section
variable{g:List GS}{mv:List Mv}{wl wr:List Nat}
theorem YR(hf:FG cf)(hg:GOk g)(hok:okQ g 0 mv)(el:wD wl=Ai g sL 0 mv)(er:wD wr=Ai g sR 0 mv)(l1:wl.length<=25000)(l2:wr.length<=25000){k l r W:Nat}{S:List Ob}{rl rr c P m c' rl' rr':Nat}{x:List Nat}{side:Str}(hs:side=sL\/side=sR)
 (ch:Rch g (wl.take rl) (wr.take rr) (Ao g 0 (mv.take c)) (Aj g 0 (mv.take c)) (Ai g sL 0 (mv.take c)).length (Ai g sR 0 (mv.take c)).length) (rd:Rdr 0 S k g (wl.take rl) (wr.take rr) (Aj g 0 (mv.take c)) (Ai g sL 0 (mv.take c)).length (Ai g sR 0 (mv.take c)).length W P l r) (hc:c<=mv.length)
 (hx:((onS side wl wr).drop (onS side rl rr)).take m=x) (e3:onS side (rl+m) rl=rl') (e4:onS side rr (rr+m)=rr') (h1:rl'<=wl.length) (h2:rr'<=wr.length) (hD:Due g mv rl' rr' c') :
 Wf cf [.obj k,.str side,.lst (wD x)] S λq S'=>Kx [k,l,r] S S'/\∃P',S.length<=P'/\q=.lst ((Ao g 0 (mv.take c')).drop c)/\Ao g 0 (mv.take c)++(Ao g 0 (mv.take c')).drop c=Ao g 0 (mv.take c')/\Rch g (wl.take rl') (wr.take rr') (Ao g 0 (mv.take c')) (Aj g 0 (mv.take c')) (Ai g sL 0 (mv.take c')).length (Ai g sR 0 (mv.take c')).length/\Rdr 0 S' k g (wl.take rl') (wr.take rr') (Aj g 0 (mv.take c')) (Ai g sL 0 (mv.take c')).length (Ai g sR 0 (mv.take c')).length W P' l r:=by
 subst hx e3 e4;have e1:onS side (wl.take rl++((onS side wl wr).drop (onS side rl rr)).take m) (wl.take rl)=wl.take (onS side (rl+m) rl):=by
  unfold onS
  split
  .rw[<-List.take_add]
  .rfl
 have e2:onS side (wr.take rr) (wr.take rr++((onS side wl wr).drop (onS side rl rr)).take m)=wr.take (onS side rr (rr+m)):=by
  unfold onS
  split
  .rfl
  .rw[<-List.take_add]
 have ch2:=ch.more (if side=sL then((onS side wl wr).drop (onS side rl rr)).take m else []) (if side=sR then((onS side wl wr).drop (onS side rl rr)).take m else []);rw[<-dX,<-dY hs,e1,e2] at ch2;have hw:=Ht hg hok el er h1 h2 hD;have ha:=ch2.all;rw[hw] at ha;generalize hZ:AR g (wl.take (onS side (rl+m) rl)) (wr.take (onS side rr (rr+m))) (Fu (wl.take (onS side (rl+m) rl)) (wr.take (onS side rr (rr+m)))) (Aj g 0 (mv.take c)) (Ai g sL 0 (mv.take c)).length (Ai g sR 0 (mv.take c)).length []=Z at ha;clear 5 Z t h' a' b' o;simp only[jE] at ha;clear 5 ha at1 rfl rfl rfl rfl;have ht:(Ao g 0 (mv.take c')).drop c=t:=by
  rw[at1];have:(Ao g 0 (mv.take c)).length=c:=by rw[AN,ug9];lia
  rw[List.drop_append_of_le_length (by lia),uc4 (by lia)];rfl
 refine(hf S k g (wl.take rl) (wr.take rr) (((onS side wl wr).drop (onS side rl rr)).take m) _ _ _ W P l r side t _ _ _ hg ch.1 (by rw[e1,ug9];lia) (by rw[e2,ug9];lia) hs rd (by rw[e1,e2];exact hZ)).mono ?_;rintro q S' ⟨rfl,KK,P',hP,R'⟩;rw[e1,e2] at R';have st:=ch2.step hg hZ;rw[<-at1] at st;exact⟨KK,P',hP,by rw[ht],by rw[ht];exact at1.symm,st,R'⟩
end
theorem YC:Bu (wD w) (some (a:Int)) (some ((a:Int)+(b:Int)))=wD ((w.drop (min a w.length)).take (min (a+b) w.length-min a w.length)):=by
 rw[<-Int.natCast_add];unfold Bu;rw[HT.G8,HT.G8,Bi];unfold wD;rw[ul4,jC]
theorem OO:w.drop a=(w.drop (min a w.length)).take (w.length-min a w.length):=by
 rw[uc1 (by rw[uh0];exact un4 _)]
 by_cases h:a<=w.length
 .rw[uj9 h]
 .rw[Nat.min_eq_right (by lia),uc4 (by lia),uc4 (un4 _)]
section
variable{g:List GS}{mv:List Mv}{wl wr:List Nat}{k l r W K C:Nat}
structure F96(g:List GS)(mv:List Mv)(wl wr:List Nat)(k l r W K C:Nat)(S:List Ob)(ca cb rl rr c P:Nat):Prop where
 hl:rl<=wl.length
 hr:rr<=wr.length
 du:Due g mv rl rr c
 ch:Rch g (wl.take rl) (wr.take rr) (Ao g 0 (mv.take c)) (Aj g 0 (mv.take c)) (Ai g sL 0 (mv.take c)).length (Ai g sR 0 (mv.take c)).length
 rd:Rdr 0 S k g (wl.take rl) (wr.take rr) (Aj g 0 (mv.take c)) (Ai g sL 0 (mv.take c)).length (Ai g sR 0 (mv.take c)).length W P l r
 kw:S[K]?=some (.dct (dW wl wr))
 cm:S[C]?=some (.dct (dP ca cb))
 nk:K≠k/\K≠l/\K≠r/\K≠C
 nc:C≠k/\C≠l/\C≠r/\C≠W/\C≠P
theorem F96.put{cb c P ca' cb':Nat}(J:F96 g mv wl wr k l r W K C S ca cb rl rr c P):F96 g mv wl wr k l r W K C (S.set C (.dct (dP ca' cb'))) ca' cb' rl rr c P:=
 ⟨J.hl,J.hr,J.du,J.ch,⟨J.rd.k0,J.rd.l0,J.rd.r0,J.rd.ne,by rw[ud3 J.nc.1];exact J.rd.k,by rw[ud3 J.nc.2.2.2.1];exact J.rd.w,by rw[ud3 J.nc.2.2.2.2];exact J.rd.p,by rw[ud3 J.nc.2.1];exact J.rd.l,by rw[ud3 J.nc.2.2.1];exact J.rd.r⟩,by rw[ud3 (Ne.symm J.nk.2.2.2)];exact J.kw,A4 J.cm,J.nk,J.nc⟩
theorem F96.feed(hf:FG cf)(hg:GOk g)(hok:okQ g 0 mv)(el:wD wl=Ai g sL 0 mv)(er:wD wr=Ai g sR 0 mv)(l1:wl.length<=25000)(l2:wr.length<=25000){S:List Ob}{ca cb rl rr m c P:Nat}{x:List Nat}{side:Str}(hs:side=sL\/side=sR)(J:F96 g mv wl wr k l r W K C S ca cb rl rr c P)(hx:((onS side wl wr).drop (onS side rl rr)).take m=x)(hm:onS side rl rr+m<=(onS side wl wr).length) :
 Wf cf [.obj k,.str side,.lst (wD x)] S λz S'=>∃c' P',z=.lst ((Ao g 0 (mv.take c')).drop c)/\Ao g 0 (mv.take c)++(Ao g 0 (mv.take c')).drop c=Ao g 0 (mv.take c')/\F96 g mv wl wr k l r W K C S' ca cb (onS side (rl+m) rl) (onS side rr (rr+m)) c' P':=by
 have hL:=J.hl;have hR:=J.hr;have h1:onS side (rl+m) rl<=wl.length:=by
  revert hm hL;unfold onS
  split
  .exact λh _=>h
  .exact λ_ h=>h
 have h2:onS side rr (rr+m)<=wr.length:=by
  revert hm hR;unfold onS
  split
  .exact λ_ h=>h
  .exact λh _=>h
 clear 5(Nn (g:=g) (mv:=mv) (rl:=onS side (rl+m) rl) (rr:=onS side rr (rr+m)) mv.length 0 (um7 _) (un5 _) (un5 _))c' hD;refine(YR (m:=m) hf hg hok el er l1 l2 hs J.ch J.rd J.du.le hx rfl rfl h1 h2 hD).mono ?_;rintro z S' ⟨KK,P',hP,rfl,e1,e2,e3⟩;have hC:=B8 J.cm;exact⟨c',P',rfl,e1,⟨h1,h2,hD,e2,e3,KK.get (by simpa using ⟨J.nk.1,J.nk.2.1,J.nk.2.2.1⟩) J.kw,KK.get (by simpa using ⟨J.nc.1,J.nc.2.1,J.nc.2.2.1⟩) J.cm,J.nk,⟨J.nc.1,J.nc.2.1,J.nc.2.2.1,J.nc.2.2.2.1,by lia⟩⟩⟩
end
def Vd(f:Fn):Prop:=∀(ns:List Int) (g:List GS) (mv:List Mv) (wl wr:List Nat) (K:Nat) (S:List Ob),GOk g->okQ g 0 mv->mv.length<=30->wD wl=Ai g sL 0 mv->wD wr=Ai g sR 0 mv->wl.length<=1300->wr.length<=1300->S[K]?=some (.dct (dW wl wr))->Wf f [.lst (g.map GS.d),.obj K,.scr ns] S λr _=>r=.lst [.lst (Ao g 0 mv),.int (Aj g 0 mv:Nat),.tup [.int 0,.int 0]]
theorem Vn(i:Int):∃sd:Str,atI [D.str "left",D.str "right"] (i%2)=some (.str sd)/\(sd=sL\/sd=sR):=by
 rcases (show i%2=0\/i%2=1 by lia) with h|h<;>rw[h]
 .exact⟨sL,rfl,.inl rfl⟩
 .exact⟨sR,rfl,.inr rfl⟩
theorem Jg:onS s (D.int (a:Int)) (D.int (b:Int))=.int ((onS s a b:Nat):Int):=by unfold onS;split<;>rfl
theorem R7{a b:List Nat}:onS s (D.lst (wD a)) (D.lst (wD b))=.lst (wD (onS s a b)):=by unfold onS;split<;>rfl
def RJ(cf cc:Fn):M Out:=
 (Ae (Ap 9 (Ac (Ac (Ag cc (Ab (Aa 2) (Ab (Ac (gh 11) (Ac (Aa 7) (gh 50) A3) Ay) Ad))) (Ac (gh 1) (Ac (Aa 7) (gh 7) A3) Ay) Ba) (gh 5) A3))
 (Ae (Ap 4 (Ac (Aa 4) (CB "Reader" cf (Aa 3) (Ab (Aa 8) (Ab (fSl (Ac (Aa 1) (Aa 8) A6) (Ct (Ac (Aa 5) (Aa 8) A6)) (Ct (Ac (Ac (Aa 5) (Aa 8) A6) (Aa 9) Ay)) Cr) Ad))) Ay))
 (CJ (Ac (Ac (Aa 5) (Aa 8) A6) (Aa 9) Ay) (Gu (Aa 5) (Aa 8)))))
section
variable{g:List GS}{mv:List Mv}{wl wr:List Nat}{k l r W K C:Nat}
theorem F96.lim{cb c c' P:Nat}(J:F96 g mv wl wr k l r W K C S ca cb rl rr c P)(hml:mv.length<=30)(e1:Ao g 0 (mv.take c')++(Ao g 0 (mv.take c)).drop c'=Ao g 0 (mv.take c)):(Ao g 0 (mv.take c')).length+((Ao g 0 (mv.take c)).drop c').length<=LIM:=by
 have:=jT List.length e1;rw[ue8] at this;rw[this,AN,ug9];show _<=100000;lia
theorem JG(hf:FG cf)(hc:He cc)(hg:GOk g)(hok:okQ g 0 mv)(hml:mv.length<=30)(el:wD wl=Ai g sL 0 mv)(er:wD wr=Ai g sR 0 mv)(l1:wl.length<=1300)(l2:wr.length<=1300){ns:List Int}{j:Int}(j0:0<=j)(j1:j<400){sd:Str}(hs:sd=sL\/sd=sR){S':List Ob}{ca cb c P:Nat}{a6 e9:Option Sl}(J:F96 g mv wl wr k l r W K C S' ca cb (min ca wl.length) (min cb wr.length) c P) :
 L2.W (RJ cf cc) ⟨[vw (.lst (g.map GS.d)),vw (.obj K),vw (.scr ns),vw (.obj k),vw (.lst (Ao g 0 (mv.take c))),vw (.obj C),a6,vw (.int j),vw (.str sd),e9],S'⟩ λo t=>o=.next/\∃(ca' cb' c' P':Nat) (S2:List Ob) (e9':Option Sl),F96 g mv wl wr k l r W K C S2 ca' cb' (min ca' wl.length) (min cb' wr.length) c' P'/\t=⟨[vw (.lst (g.map GS.d)),vw (.obj K),vw (.scr ns),vw (.obj k),vw (.lst (Ao g 0 (mv.take c'))),vw (.obj C),a6,vw (.int j),vw (.str sd),e9'],S2⟩:=by
 have hL:LIM=100000:=rfl;clear 5(hc ns (11+j%50) (by lia) (by lia))c2 hc2;unfold RJ;symm;refine hc2.use ?_;symm;refine JV (by lia) (by lia) ?_;symm;obtain⟨n,hn⟩:∃n:Nat,c2/(1+j%7)%5=n:=⟨(c2/(1+j%7)%5).toNat,by lia⟩;rw[hn];refine⟨k,_,rfl,J.rd.k,?_⟩;symm;refine BJ J.kw (BI hs) ?_;rw[R7];symm;refine BJ J.cm (BI hs) ?_;rw[Jg];symm;refine BJ J.cm (BI hs) ?_;rw[Jg];symm;rw[YC];have m1:onS sd (min ca wl.length) (min cb wr.length)=min (onS sd ca cb) (onS sd wl wr).length:=by unfold onS;split<;>rfl
 refine(J.feed hf hg hok el er (by lia) (by lia) hs (m:=min (onS sd ca cb+n) (onS sd wl wr).length-min (onS sd ca cb) (onS sd wl wr).length) (by rw[m1]) (by rw[m1];lia)).mono ?_;rintro z S'' ⟨c3,P2,rfl,e1,J2⟩;symm;refine AY (J2.lim hml e1) ?_;rw[e1];symm;refine BJ J2.cm (BI hs) ?_;rw[Jg];symm;refine Ei J2.cm (by rw[hL];show 2<100000;decide) ?_;rw[NF hs];have J3:=J2.put (ca':=onS sd (ca+n) ca) (cb':=onS sd cb (cb+n));have m2:onS sd (min ca wl.length+(min (onS sd ca cb+n) (onS sd wl wr).length-min (onS sd ca cb) (onS sd wl wr).length)) (min ca wl.length)=min (onS sd (ca+n) ca) wl.length:=by
  unfold onS
  split
  .lia
  .rfl
 have m3:onS sd (min cb wr.length) (min cb wr.length+(min (onS sd ca cb+n) (onS sd wl wr).length-min (onS sd ca cb) (onS sd wl wr).length))=min (onS sd cb (cb+n)) wr.length:=by
  unfold onS
  split
  .rfl
  .lia
 rw[m2,m3] at J3;have m4:lr (onS sd (D.int (((onS sd ca cb:Nat):Int)+(n:Int))) (.int (ca:Int))) (onS sd (.int (cb:Int)) (D.int (((onS sd ca cb:Nat):Int)+(n:Int))))=dP (onS sd (ca+n) ca) (onS sd cb (cb+n)):=by
  unfold onS
  split<;>rfl
 rw[m4];exact⟨rfl,_,_,c3,P2,_,vw (.int (n:Int)),J3,rfl⟩
end
theorem onL{a b:α}:onS sL a b=a:=jY rfl
theorem onR{a b:α}:onS sR a b=b:=jZ (by decide)
theorem bC{ci:Fn}(hf:FG cf)(hc:He cc)(hi:J8 ci):Vd (fnOf 3 10 (E4 (fnOf 1 1 (Dv (fnOf 2 2 B3))) (fnOf 1 1 DT) cf cc ci)):=by
 intro ns g mv wl wr K S hg hok hml el er l1 l2 hK;have hL:LIM=100000:=rfl;have hgl:=hg.le;refine Ak rfl ?_;unfold E4;symm;refine(Y7 (mv:=mv) hi hg hK).mono ?_;rintro q S1 ⟨rfl,W,P,l,r,J0⟩;refine⟨rfl,?_⟩;symm;refine Jl ?_;refine Bt ?_;symm;refine Bt ?_;symm;refine Et ?_;refine⟨by simp,by show 2<=15;decide,?_⟩;have hA:Gr S1 ((S1++[Ob.dct []]).set S1.length (.dct (AT (dP 0 0)))):=Gr.app.set (un4 _);have hB:((S1++[Ob.dct []]).set S1.length (.dct (AT (dP 0 0))))[S1.length]?=some (.dct (dP 0 0)):=by rw[F4];exact A4 Dp
 show D5 _ _ Out.next ⟨_,(S1++[Ob.dct []]).set S1.length (.dct (AT (dP 0 0)))⟩;generalize (S1++[Ob.dct []]).set S1.length (.dct (AT (dP 0 0)))=S2 at hA hB⊢;obtain⟨C,hC⟩:∃C,C=S1.length:=⟨_,rfl⟩;rw[<-hC] at hB⊢;obtain⟨k,hk⟩:∃k,k=S.length:=⟨_,rfl⟩;rw[<-hk] at J0;have J:F96 g mv wl wr k l r W K C S2 0 0 0 0 0 P:=by
  have q1:=B8 J0.kw;have q2:=B8 J0.rd.k;have q3:=B8 J0.rd.l;have q4:=B8 J0.rd.r;have q5:=B8 J0.rd.w;have q6:=B8 J0.rd.p;exact⟨J0.hl,J0.hr,J0.du,J0.ch,J0.rd.gr hA,hA.get J0.kw,hB,⟨J0.nk.1,J0.nk.2.1,J0.nk.2.2,by lia⟩,⟨by lia,by lia,by lia,by lia,by lia⟩⟩
 show D5 _ _ Out.next ⟨[vw (.lst (g.map GS.d)),vw (.obj K),vw (.scr ns),vw (.obj S.length),vw (.lst []),vw (.obj C),none,none,none,none],S2⟩;rw[<-hk];clear 5(hc ns 1 (by decide) (by decide))c1 hc1;clear 5(Vn c1)ah e6 hah;symm;refine hc1.use ?_;symm;refine AM e6 ?_;symm;refine BE (λrs t=>∃(ca cb c P:Nat) (S':List Ob) (e7 e8 e9:Option Sl),F96 g mv wl wr k l r W K C S' ca cb (min ca wl.length) (min cb wr.length) c P/\t=⟨[vw (.lst (g.map GS.d)),vw (.obj K),vw (.scr ns),vw (.obj k),vw (.lst (Ao g 0 (mv.take c))),vw (.obj C),vw (.str ah),e7,e8,e9],S'⟩) _ _ ⟨0,0,0,P,S2,none,none,none,by rw[Nat.zero_min,Nat.zero_min];exact J,rfl⟩ ?_ ?_
 .rintro d rs t ⟨ca,cb,c,P,S',e7,e8,e9,J,rfl⟩ hd;obtain⟨j,rfl,j0,j1⟩:∃j:Int,d=.int j/\0<=j/\j<400:=by
   rw[G0] at hd;clear 5(um9.mp hd)i hi rfl;have:=uk2.mp hi;exact⟨0+i,rfl,by lia,by lia⟩
  clear 5(Vn j)sd e8' hsd;clear 5(hc ns (11+j%50) (by lia) (by lia))c2 hc2;symm;refine AM e8' ?_;symm;refine hc1.use ?_;symm;refine BB (λ_=>?_) λ_=>?_
  .symm;refine BJ J.cm (BI hah) ?_;rw[Jg];symm;refine BJ J.kw (BI hah) ?_;rw[R7];symm;refine BB (λ_=>?_) λ_=>?_
   .iterate 3 (walk_at"y1")
    refine(JG hf hc hg hok hml el er l1 l2 j0 j1 hah J).mono ?_;rintro o t ⟨rfl,ca',cb',c',P',S3,e9',J',rfl⟩;exact⟨ca',cb',c',P',S3,_,_,_,J',rfl⟩
   .iterate 2 (walk_at"y1")
    refine(JG hf hc hg hok hml el er l1 l2 j0 j1 hsd J).mono ?_;rintro o t ⟨rfl,ca',cb',c',P',S3,e9',J',rfl⟩;exact⟨ca',cb',c',P',S3,_,_,_,J',rfl⟩
  .iterate 3 (walk_at"y1")
   refine(JG hf hc hg hok hml el er l1 l2 j0 j1 hsd J).mono ?_;rintro o t ⟨rfl,ca',cb',c',P',S3,e9',J',rfl⟩;exact⟨ca',cb',c',P',S3,_,_,_,J',rfl⟩
 .rintro t ⟨ca,cb,c,P,S',e7,e8,e9,J,rfl⟩;symm;refine W_forL_cons.mpr ?_;refine On ?_;symm;refine⟨k,_,rfl,J.rd.k,?_⟩;symm;refine BJ J.kw (BI (.inl rfl)) ?_;rw[onL];symm;refine BJ J.cm (BI (.inl rfl)) ?_;rw[onL];symm;rw[QZ,OO];refine(J.feed (side:=sL) hf hg hok el er (by lia) (by lia) (.inl rfl) (m:=wl.length-min ca wl.length) (by rw[onL,onL]) (by rw[onL,onL];lia)).mono ?_;rintro z S3 ⟨c3,P3,rfl,e1,J3⟩;rw[onL,onL,show min ca wl.length+(wl.length-min ca wl.length)=wl.length by lia] at J3;symm;refine AY (J3.lim hml e1) ?_;rw[e1];refine W_forL_cons.mpr ?_;refine On ?_;symm;refine⟨k,_,rfl,J3.rd.k,?_⟩;symm;refine BJ J3.kw (BI (.inr rfl)) ?_;rw[onR];symm;refine BJ J3.cm (BI (.inr rfl)) ?_;rw[onR];symm;rw[QZ,OO];refine(J3.feed (side:=sR) hf hg hok el er (by lia) (by lia) (.inr rfl) (m:=wr.length-min cb wr.length) (by rw[onR,onR]) (by rw[onR,onR];lia)).mono ?_;rintro z S4 ⟨c4,P4,rfl,e1,J4⟩;rw[onR,onR,show min cb wr.length+(wr.length-min cb wr.length)=wr.length by lia] at J4;symm;refine AY (J4.lim hml e1) ?_;rw[e1];refine W_forL_nil.mpr ?_;symm;refine⟨k,_,rfl,J4.rd.k,?_⟩;symm;refine(J4.feed (side:=sL) (x:=[]) hf hg hok el er (by lia) (by lia) (.inl rfl) (m:=0) rfl (by rw[onL,onL];exact un4 _)).mono ?_;rintro z S5 ⟨c5,P5,rfl,e1,J5⟩;rw[onL,onL,um7] at J5;symm;refine AY (J5.lim hml e1) ?_;rw[e1];have hc5:=VW el er hg hok J5.du;subst hc5;have hrd:=J5.rd;rw[uh9,uh9,uh9,<-el,<-er,Bi,Bi] at hrd;rw[uh9];symm;refine⟨k,_,rfl,hrd.k,W_ret.mpr ?_⟩;refine(Sv hrd).use ?_;symm;refine⟨k,_,rfl,hrd.k,W_ret.mpr ?_⟩;refine(SO hrd).use ?_;symm;rw[Int.sub_self,Int.sub_self]
theorem VM{f:M (List D)}{P:List D->T->Prop}(h:W f t λds t1=>W (N7 ds) t1 P):W (KB f) t P:=W_bnd.mpr h
theorem fx{a b c:Int}{P:List D->T->Prop}(h0:c≠0)(h1:c.natAbs<1073741824)(h2:Builtin.Range.small a b c=true)(h3:0<=Builtin.Range.rangeSize a b c)(h:P ((List.range (rngS a b c)).map λi:Nat=>D.int (a+i*c)) t):W (N7 [.int a,.int b,.int c]) t P:=
 ⟨_,_,by show(if _ then _ else _)=_;rw[jY ⟨⟨h0,h1⟩,h2,h3⟩],h⟩
noncomputable def EA:Nat->List D
 |0=>[]
 |m+1=>.int m::EA m
theorem OL:∀n:Nat,(List.range n).map (λi:Nat=>D.int (((n:Int)-1)+i*(-1)))=EA n
 |0=>rfl
 |n+1=>by
   rw[jb,ul0,un0,EA,<-OL n]
   congr 1
   .congr 1;lia
   .refine ue0 λi _=>?_;show D.int _=D.int _
    congr 1;simp only[Nat.succ_eq_add_one];lia
theorem VD{P:List D->T->Prop}(hn:n<=1000)(h:P (EA n) t):W (N7 [.int ((n:Int)-1),.int (-1),.int (-1)]) t P:=by
 have e:Builtin.Range.rangeSize ((n:Int)-1) (-1) (-1)=n:=by
  unfold Builtin.Range.rangeSize;rw[jZ (by decide)]
  split
  .show((n:Int)-1 - -1-1)/1+1=n;rw[Int.ediv_one];lia
  .lia
 refine fx (by decide) (by decide) ?_ (by rw[e];lia) ?_
 .unfold Builtin.Range.small Builtin.Range.rangeFitsLong;rw[e,jZ (by decide)];simp only[uh1,uj4,ug4];refine⟨⟨⟨⟨⟨?_,?_⟩,?_⟩,?_⟩,?_⟩,.inr ?_⟩<;>(try decide)<;>lia
 .have:rngS ((n:Int)-1) (-1) (-1)=n:=by unfold rngS;rw[e];lia
  rw[this,OL];exact h
theorem fD{ns:List Int}(e:GQ ds=some ns)(h:P (.int ns.sum) t):W (LX [.lst ds]) t P:=⟨_,_,by simp only[LX,e],h⟩
theorem Hi{l:List α}{ι f:α->D}{fr:List (Option Sl)}{elt:M D}{z:Option Sl}(h:∀a∈l,W elt ⟨vw (ι a)::fr,S⟩ λx t'=>x=f a/\t'=⟨vw (ι a)::fr,S⟩) :
 W (Cs (Aw 0) Eh elt (l.map ι)) ⟨z::fr,S⟩ λxs t'=>xs=l.map f/\t'.S=S:=by
 induction l generalizing z with
 |nil=>exact W_compL_nil.mpr ⟨rfl,rfl⟩
 |cons a r ih=>
   rw[ul0,FV];refine On (U8 ?_);rw[jY rfl];refine(h a ue4).mono λx t' z9=>?_;clear 5 z9 e1 e2;subst e1 e2;refine(ih (z:=vw (ι a)) λb hb=>h b (ud2 _ hb)).mono λxs t' z9=>?_;clear 5 z9 e1 e2;subst e1;exact⟨rfl,e2⟩
noncomputable def sq(b:Bool)(ds:List D):D:=if b then .tup ds else .lst ds
theorem cG{b:Bool}{Q:List D->T->Prop}(h:Q ds t):W (DG (sq b ds)) t Q:=by cases b;exact aH h;exact aI h
theorem QA{b:Bool}{lo hi:Option Int}(h:P (sq b (Bu ds lo hi)) t):W (Cr (sq b ds) lo hi) t P:=by cases b;exact aM h;exact aN h
theorem VF{b:Bool}{i:Int}{d:D}(e:atI ds i=some d)(h:P d t):W (ixD (sq b ds) (.int i)) t P:=by cases b;exact AM e h;exact Fd e h
theorem J6(x:GS):x.words=sq x.isFin (x.ws.map wdD):=by cases x<;>rfl
theorem Su{row:List Int}{i:Int}(h0:0<=i)(h1:i<row.length):atI (row.map D.int) i=some (.int (row.getD i.toNat 0)):=by
 have hl:i.toNat<row.length:=by lia
 unfold atI;rw[Bm h0 (by rw[ui4];lia)];show(row.map D.int)[i.toNat]?=_;rw[uf5,ua7,ub3 hl];rfl
abbrev Wd:=Str×Sh×Int
def Cb(g:List GS):Nat->Nat->List (List Str)
 |0,s=>if (An g s).isFin then [[]] else []
 |n+1,s=>((An g s).ws.map λw=>(Cb g n w.2.2.toNat).map (w.1 :: ·)).flatten
def fan(g:List GS)(n:Nat)(ws:List Wd):List (List Str):=(ws.map λw=>(Cb g n w.2.2.toNat).map (w.1 :: ·)).flatten
theorem Gv(g:List GS)(n s:Nat):Cb g (n+1) s=fan g n (An g s).ws:=by rw[Cb,fan]
theorem Hv(g:List GS)(n:Nat)(w:Wd)(r:List Wd):fan g n (w::r)=(Cb g n w.2.2.toNat).map (w.1 :: ·)++fan g n r:=by rw[fan,ul0,uf7];rfl
theorem V5(g:List GS)(n:Nat):fan g n []=[]:=rfl
theorem OR(g:List GS)(n:Nat)(a b:List Wd):fan g n (a++b)=fan g n a++fan g n b:=by unfold fan;rw[uj6,List.flatten_append]
noncomputable def cb(ws:List Wd)(row:List Int):Int:=(ws.map λw=>row.getD w.2.2.toNat 0).sum
def N8(g:List GS):List Int:=g.map λx=>if x.isFin then 1 else 0
def LP(g:List GS)(row:List Int):List Int:=g.map λx=>cb x.ws row
def Cv(g:List GS):Nat->List Int
 |0=>N8 g
 |n+1=>LP g (Cv g n)
theorem Fa(g:List GS)(n:Nat):(Cv g n).length=g.length:=by cases n<;>simp[Cv,N8,LP]
def LH(g:List GS)(ws:List Wd):Prop:=∀w∈ws,0<=w.2.2/\w.2.2<(g.length:Int)
theorem Ld(hg:GOk g){s:Nat}(hs:s<g.length):LH g (An g s).ws:=by
 have:=A9 hg hs;intro w hw
 cases e:An g s with
 |fin=>rw[e] at hw;cases hw
 |st side ws=>
   rw[e] at this hw
   cases this with
   |st _ _ _ _ h5=>exact⟨(h5 w hw).lo,(h5 w hw).hi⟩
theorem SZ(hg:GOk g){s:Nat}(hs:s<g.length):(An g s).ws.length<=9:=by
 have:=A9 hg hs
 cases e:An g s with
 |fin=>exact un5 _
 |st side ws=>
   rw[e] at this
   cases this with
   |st _ _ h3 _ _=>exact h3
theorem FP{ws:List Wd}(h:LH g ws)(p:Nat):LH g (ws.take p):=λw hw=>h w (List.mem_of_mem_take hw)
theorem RM{β:Type}{f:GS->β}{d:β}{s:Nat}(hs:s<g.length):(g.map f).getD s d=f (An g s):=by
 unfold An;rw[ua7,uf5,ua7,ub3 hs];rfl
theorem Nd{g:List GS}{n:Nat}(ih:∀s,s<g.length->(Cv g n).getD s 0=((Cb g n s).length:Int)):∀{ws:List Wd},LH g ws->cb ws (Cv g n)=((fan g n ws).length:Int)
 |[],_=>rfl
 |w::r,h=>by
   have h1:=h w ue4;have h2:=Nd ih (ws:=r) λx m=>h x (ud2 _ m);unfold cb at h2⊢;rw[ul0,List.sum_cons,h2,ih _ (by lia),Hv,ue8,ui4];lia
theorem JR{g:List GS}(hg:GOk g):∀(n s:Nat),s<g.length->(Cv g n).getD s 0=((Cb g n s).length:Int)
 |0,s,hs=>by
   rw[Cv,N8,RM hs,Cb]
   split<;>rfl
 |n+1,s,hs=>by
   rw[Cv,LP,RM hs,Gv];exact Nd (JR hg n) (Ld hg hs)
theorem Lu(hg:GOk g){n:Nat}{ws:List Wd}(h:LH g ws):cb ws (Cv g n)=((fan g n ws).length:Int):=Nd (JR hg n) h
theorem Np(g:List GS)(n:Nat):∀(ws:List Wd) (k:Nat) (x:List Str),(fan g n ws)[k]?=some x->∃(p j:Nat) (w:Wd) (y:List Str),ws[p]?=some w/\(Cb g n w.2.2.toNat)[j]?=some y/\k=(fan g n (ws.take p)).length+j/\x=w.1::y
 |[],k,x,h=>by simp[fan] at h
 |w::r,k,x,h=>by
   rw[Hv] at h
   by_cases hk:k<((Cb g n w.2.2.toNat).map (w.1 :: ·)).length
   .rw[ub0 hk,uf5] at h;clear 5(uc0.mp h)y e1 e2;exact⟨0,k,w,y,rfl,e1,by simp[fan],e2.symm⟩
   .rw[ua6 (by lia)] at h;clear 5(Np g n r _ x h)p j w' y e1 e2 e3 e4;refine⟨p+1,j,w',y,e1,e2,?_,e4⟩;rw[ue1,Hv,ue8];lia
theorem Tw{ws:List Wd}(h:q<=p):(fan g n (ws.take q)).length<=(fan g n (ws.take p)).length:=by
 have e:ws.take p=ws.take q++(ws.take p).drop q:=by
  conv=>lhs;rw[<-ud1 q (ws.take p)]
  rw[List.take_take,uj9 h]
 rw[e,OR,ue8];lia
theorem Tv{ws:List Wd}{w:Wd}(e:ws[p]?=some w):(fan g n (ws.take (p+1))).length=(fan g n (ws.take p)).length+(Cb g n w.2.2.toNat).length:=by
 rw[List.take_add_one,e,OR,ue8];show _+(fan g n [w]).length=_;rw[Hv,V5,ui6,ui4]
inductive Tr(g:List GS):Nat->List Str->List (Nat×Nat)->Nat->Prop
 |nil {s:Nat}:s<g.length->Tr g s [] [] s
 |cons {s p:Nat}{w:Wd}{r:List Str}{st:List (Nat×Nat)}{e:Nat}:s<g.length->(An g s).ws[p]?=some w->Tr g w.2.2.toNat r st e->Tr g s (w.1::r) ((s,p)::st) e
def N3(g:List GS):List (Nat×Nat)->Int
 |[]=>0
 |(s,p)::r=>N3 g r+cb ((An g s).ws.take p) (Cv g r.length)
theorem VB{g:List GS}(hg:GOk g):∀(n s k:Nat) (x:List Str),s<g.length->(Cb g n s)[k]?=some x->∃st e,Tr g s x st e/\(An g e).isFin=true/\N3 g st=k/\st.length=n/\e<g.length
 |0,s,k,x,hs,h=>by
   rw[Cb] at h
   split at h
   .next hf=>
    cases k with
    |zero=>cases h;exact⟨[],s,.nil hs,hf,rfl,rfl,hs⟩
    |succ k=>simp at h
   .simp at h
 |n+1,s,k,x,hs,h=>by
   rw[Gv] at h;clear 5(Np g n _ k x h)p j w y e1 e2 e3 e4;have hw:=Ld hg hs w (ud4 e1);clear 5(VB hg n w.2.2.toNat j y (by lia) e2)st e t1 t2 t3 t4 t5;subst e4;refine⟨(s,p)::st,e,.cons hs e1 t1,t2,?_,by rw[ug7,t4],t5⟩;rw[N3,t3,t4,Lu hg (FP (Ld hg hs) p),e3];lia
theorem JZ{g:List GS}:∀{n s:Nat}{x:List Str},x∈Cb g n s->x.length=n
 |0,s,x,h=>by
   rw[Cb] at h
   split at h
   .rw[uf0] at h;subst h;rfl
   .cases h
 |n+1,s,x,h=>by
   rw[Cb] at h;clear 5(ui0.mp h)l hl hx;obtain⟨w,_,rfl⟩:=um9.mp hl;clear 5(um9.mp hx)y hy rfl;rw[ug7,JZ hy]
def Le(f:Fn):Prop:=∀(ws:List Wd) (b:Bool) (row:List Int),ws.length<=9->(∀w∈ws,0<=w.2.2/\w.2.2<(row.length:Int))->Pure1 f [sq b (ws.map wdD),.lst (row.map .int)] (.int (cb ws row))
theorem Kw:Le (fnOf 2 2 E2):=by
 intro ws b row hl hn S;have hL:LIM=100000:=rfl;refine Ak rfl ?_;unfold E2;right;refine cG ?_;refine(Hi (f:=λw=>.int (row.getD w.2.2.toNat 0)) (fr:=[vw (.lst (row.map .int))]) ?_).mono ?_
 .intro w hw;clear 5(hn w hw)h0 h1;unfold wdD;right;exact AM (Su h0 h1) ⟨rfl,rfl⟩
 .rintro xs t' ⟨rfl,hS⟩;refine AY (by rw[ui4,hL];lia) ?_;right;refine fD (ns:=ws.map λw=>row.getD w.2.2.toNat 0) ?_ ⟨rfl,hS⟩;rw[<-KM,un0];rfl
abbrev gD(g:List GS):D:=.lst (g.map GS.d)
abbrev E9(row:List Int):D:=.lst (row.map .int)
def IP(f:Fn):Prop:=∀g,GOk g->Pure1 f [gD g] (E9 (N8 g))
theorem Lx(he:Ej ce):IP (fnOf 1 1 (Ed ce)):=by
 intro g hg S;have hL:LIM=100000:=rfl;have hle:=hg.le;refine Ak rfl ?_;unfold Ed;right;refine(Hi (f:=λx:GS=>.int (if x.isFin then 1 else 0)) (fr:=[]) ?_).mono ?_
 .intro x hx;right;refine(he _ x (hg.all x hx)).use ?_
  cases x.isFin
  .right;exact⟨rfl,rfl⟩
  .right;exact⟨rfl,rfl⟩
 .rintro xs t' ⟨rfl,hS⟩;refine AY (by rw[ui4,hL];lia) ?_;exact⟨by rw[E9,N8,un0];rfl,hS⟩
def Ka(f:Fn):Prop:=∀g row,GOk g->row.length=g.length->Pure1 f [gD g,E9 row] (E9 (LP g row))
theorem Lw(hw:ER cw)(hc:Le cc):Ka (fnOf 2 2 (C9 cw cc)):=by
 intro g row hg hr S;have hL:LIM=100000:=rfl;have hle:=hg.le;refine Ak rfl ?_;unfold C9;right;refine(Hi (f:=λx:GS=>.int (cb x.ws row)) (fr:=[vw (E9 row)]) ?_).mono ?_
 .intro x hx;right;refine(hw _ x (hg.all x hx)).use ?_;right;rw[J6];have hx':x.ws.length<=9/\∀w∈x.ws,0<=w.2.2/\w.2.2<(row.length:Int):=by
   rw[hr]
   cases hg.all x hx with
   |fin=>exact⟨un5 _,λw z=>nomatch z⟩
   |st _ _ h3 _ h5=>exact⟨h3,λw hw=>⟨(h5 w hw).lo,(h5 w hw).hi⟩⟩
  exact(hc x.ws x.isFin row hx'.1 hx'.2).use ⟨rfl,rfl⟩
 .rintro xs t' ⟨rfl,hS⟩;refine AY (by rw[ui4,hL];lia) ?_;exact⟨by rw[E9,LP,un0];rfl,hS⟩
def EM(g:List GS)(n:Nat):List D:=(List.range n).map λm=>E9 (Cv g m)
theorem Mp(g:List GS)(n:Nat):(EM g n).length=n:=by simp[EM]
theorem HK(h:m<n):atI (EM g n) (m:Int)=some (E9 (Cv g m)):=by
 unfold atI;rw[Bm (by lia) (by rw[Mp];lia)];show(EM g n)[(m:Int).toNat]?=_;rw[uf6];unfold EM;rw[uf5,List.getElem?_range h];rfl
def Ki(f:Fn):Prop:=∀g (n:Nat),GOk g->n<=100->Pure1 f [gD g,.int n] (.lst (EM g (n+1)))
theorem Ni(hm:Ka cm)(hn:IP cn):Ki (fnOf 2 4 (E3 cm cn)):=by
 intro g n hg hn1 S;have hL:LIM=100000:=rfl;refine Ak rfl ?_;unfold E3;right;refine(hn g hg).use ?_;right;refine FE (Be (by lia) (by lia)) ?_;refine BE (λr t=>∃(j:Nat) (e3:Option Sl),j<=n/\r=(rngL 0 (n:Int).toNat).drop j/\t=⟨[vw (gD g),vw (.int n),some (.own (EM g (j+1))),e3],S⟩) _ _ ⟨0,none,by lia,rfl,rfl⟩ ?_ ?_
 .rintro d r t ⟨j,e3,hj,hr,rfl⟩ _;clear 5(Di hr)rfl hr' hjn;rw[uf6] at hjn;rw[un1];right;refine aL rfl ?_;right;refine⟨_,_,_,rfl,rfl,HK (by lia),?_⟩;right;refine(hm g (Cv g j) hg (Fa g j)).use ?_;right;refine AY (by rw[Mp,hL];lia) ?_;refine⟨j+1,vw (.int j),hjn,hr',?_⟩;have:EM g (j+1+1)=EM g (j+1)++[E9 (LP g (Cv g j))]:=by
   unfold EM;rw[uj5,uj6];rfl
  rw[this];rfl
 .rintro t ⟨j,e3,hj,hr,rfl⟩;have hj':j=n:=by
   have:=jT List.length hr;rw[uj2,uh0,Cp,uf6] at this;lia
  subst hj';right;exact⟨rfl,rfl⟩
def MM(f:Fn):Prop:=∀g (n:Nat),GOk g->n<=100->Pure1 f [gD g,.int n] (.int ((Cb g n 0).length:Nat))
theorem Ov(hu:Ki cu):MM (fnOf 2 2 (HB cu)):=by
 intro g n hg hn S;refine Ak rfl ?_;unfold HB;right;refine(hu g n hg hn).use ?_;right;refine AM (HK (by lia)) ?_;right;refine AM (Su (Int.le_refl 0) (by rw[Fa];have:=hg.ne;lia)) ?_;refine⟨?_,rfl⟩;rw[<-JR hg n 0 hg.ne];rfl
def Jz(f:Fn):Prop:=∀(g:List GS) (n:Nat) (ws:List Wd) (b:Bool) (p j:Nat) (w:Wd),GOk g->ws.length<=9->LH g ws->ws[p]?=some w->j<(Cb g n w.2.2.toNat).length->Pure1 f [sq b (ws.map wdD),E9 (Cv g n),.int (((fan g n (ws.take p)).length:Nat)+j)] (.int p)
theorem LY{b:Bool}{ws:List Wd}(h:q<=ws.length):sq b (Bu (ws.map wdD) none (some (q:Int)))=sq b ((ws.take q).map wdD):=by
 rw[Tp (by lia) (by rw[ui4];lia),uf6,ul4]
theorem Jp(hc:Le cc):Jz (fnOf 3 4 (Eg cc)):=by
 intro g n ws b p j w hg hl hx ew hj S;obtain⟨hp,_⟩:=ua9.mp ew;refine Ak rfl ?_;unfold Eg;right;have hcb:∀q,q<=ws.length->Pure1 cc [sq b ((ws.take q).map wdD),E9 (Cv g n)] (.int ((fan g n (ws.take q)).length:Nat)):=λq hq=>by
  have:=hc (ws.take q) b (Cv g n) (by rw[ug9];lia) (by rw[Fa];exact FP hx q);rw[Lu hg (FP hx q)] at this;exact this
 refine FW (λm t=>∃q:Nat,q+m=p/\t=⟨[vw (sq b (ws.map wdD)),vw (E9 (Cv g n)),vw (.int (((fan g n (ws.take p)).length:Nat)+j)),vw (.int q)],S⟩) ?_ Hh p _ (by show p<1000000;lia) ⟨0,by lia,rfl⟩;rintro m t ⟨q,hq,rfl⟩;right;refine QA ?_;rw[show((q:Int)+1)=((q+1:Nat):Int) by lia,LY (by lia)];right;refine(hcb (q+1) (by lia)).use ?_;right
 by_cases z:q<p
 .have h1:=Tw (g:=g) (n:=n) (ws:=ws) (p:=p) (q:=q+1) (by lia);have e:decide ((((fan g n (ws.take (q+1))).length:Nat):Int)<=((fan g n (ws.take p)).length:Nat)+(j:Int))=true:=by rw[ug4];lia
  rw[e];refine⟨m-1,by lia,?_⟩;right;exact⟨q+1,by lia,rfl⟩
 .have:q=p:=by lia
  subst this;have h1:=Tv (g:=g) (n:=n) ew;have e:decide ((((fan g n (ws.take (q+1))).length:Nat):Int)<=((fan g n (ws.take q)).length:Nat)+(j:Int))=false:=by rw[iY];lia
  rw[e];show D5 _ _ _ _;right;exact⟨rfl,rfl⟩
abbrev JY(x:List Str):D:=.lst (x.map .str)
def Pv(f:Fn):Prop:=∀(g:List GS) (n k:Nat) (x:List Str),GOk g->n<=100->(Cb g n 0)[k]?=some x->Pure1 f [gD g,.int n,.int k] (JY x)
theorem Mc{d:D}{r:List D}(h:d::r=EA m):∃q,m=q+1/\d=.int q/\r=EA q:=by
 cases m with
 |zero=>cases h
 |succ q=>rw[EA] at h;injection h with h1 h2;exact⟨q,rfl,h1,h2⟩
theorem Nm(h:[]=EA m):m=0:=by
 cases m with
 |zero=>rfl
 |succ q=>rw[EA] at h;cases h
theorem d6{e9:Option Sl}{p q i j:D}(h:X=Y)(h1:p=q)(h2:i=j):(⟨[a0,a1,a2,a3,some (.own X),vw p,vw i,e7,e8,e9],S⟩:T)=⟨[a0,a1,a2,a3,some (.own Y),vw q,vw j,e7,e8,e9],S⟩:=by subst h h1 h2;rfl
theorem SU{ch:Fn}(hc:Le cc)(hp:Jz cp)(hw:ER cw)(hu:Ki cu)(hh:MM ch):Pv (fnOf 3 10 (JM cc cp cw cu ch)):=by
 intro g n k x hg hn hx S;have hL:LIM=100000:=rfl;obtain⟨hk,_⟩:=ua9.mp hx;have hxl:=JZ (ud4 hx);refine Ak rfl ?_;unfold JM;right;refine(hh g n hg (by lia)).use ?_;right;refine Ea (by rw[Bool.not_eq_false',ug4];lia) ?_;right;refine(hu g n hg (by lia)).use ?_;right;refine VM ?_;right;refine VD (by lia) ?_;refine BE (λr t=>∃(m s j:Nat) (y acc:List Str) (e7 e8 e9:Option Sl),r=EA m/\m<=n/\s<g.length/\(Cb g m s)[j]?=some y/\acc++y=x/\t=⟨[vw (gD g),vw (.int n),vw (.int k),vw (.lst (EM g (n+1))),some (.own (acc.map .str)),vw (.int s),vw (.int j),e7,e8,e9],S⟩) _ _ ⟨n,0,k,x,[],none,none,none,rfl,un4 _,hg.ne,hx,rfl,rfl⟩ ?_ ?_
 .rintro d r t ⟨m,s,j,y,acc,e7,e8,e9,hr,hm,hs,hy,ha,rfl⟩ _;clear 5(Mc hr)q rfl rfl rfl;rw[Gv] at hy;clear 5(Np g q _ j y hy)p i w z e1 e2 e3 e4;obtain⟨hi,_⟩:=ua9.mp e2;obtain⟨hpl,_⟩:=ua9.mp e1;have hnx:=Ld hg hs;have hw9:=SZ hg hs;have hwn:=hnx w (ud4 e1);have ej:(j:Int)=((fan g q ((An g s).ws.take p)).length:Nat)+(i:Int):=by lia
  have hcb:=hc ((An g s).ws.take p) (An g s).isFin (Cv g q) (by rw[ug9];lia) (by rw[Fa];exact FP hnx p);rw[Lu hg (FP hnx p)] at hcb;rw[ej];right;refine AM (Bj hs) ?_;right;refine(hw _ _ (A9 hg hs)).use ?_;rw[J6];right;refine AM (HK (by lia)) ?_;right;refine(hp g q (An g s).ws (An g s).isFin p i w hg hw9 hnx e1 hi).use ?_;right;refine QA ?_;rw[LY (by lia)];right;refine AM (HK (by lia)) ?_;right;refine hcb.use ?_;right;refine VF (DP e1) ?_;unfold wdD;right;refine AY ?_ ?_
  .have:=jT List.length ha;rw[ue8,e4] at this;rw[ui4,hL];simp only[ug7] at this;lia
  right;refine VF (DP e1) ?_;unfold wdD;right;refine⟨q,w.2.2.toNat,i,z,acc++[w.1],_,_,_,rfl,by lia,by lia,e2,?_,d6 ?_ ?_ ?_⟩
  .rw[uf8,<-ha,e4];rfl
  .rw[uj6];rfl
  .rw[ue2 hwn.1]
  .congr 1;lia
 .rintro t ⟨m,s,j,y,acc,e7,e8,e9,hr,hm,hs,hy,ha,rfl⟩;have:=Nm hr;subst this;have hy0:y=[]:=ua3 (JZ (ud4 hy));subst hy0;rw[ui6] at ha;subst ha;refine Ep ?_;refine Pg rfl ?_;exact⟨rfl,rfl⟩
noncomputable def IH(x:Nat×Nat):D:=.tup [.int x.1,.int x.2]
def JA(f:Fn):Prop:=∀(g:List GS) (x:List Str) (st:List (Nat×Nat)) (e:Nat),GOk g->Tr g 0 x st e->(An g e).isFin=true->st.length<=1000->Pure1 f [gD g,JY x] (.lst (st.map IH))
theorem bF(hg:GOk g){s:Nat}(hs:s<g.length):((An g s).ws.map (·.1)).Nodup:=by
 have:=A9 hg hs
 cases e:An g s with
 |fin=>exact List.nodup_nil
 |st side ws=>
   rw[e] at this
   cases this with
   |st _ _ _ h4 _=>exact h4
theorem cZ{s:Nat}{w:Wd}(e:(An g s).ws[p]?=some w):wdAt g s p=w:=by
 unfold wdAt;rw[ua7,e];rfl
theorem t7w{e4:Option Sl}{p q:D}(h:X=Y)(h1:p=q):(⟨[a0,a1,vw p,some (.own X),e4,e5,e6],S⟩:T)=⟨[a0,a1,vw q,some (.own Y),e4,e5,e6],S⟩:=by subst h h1;rfl
theorem LV(he:Ej ce)(hn:GM cn)(hp:FU cp):JA (fnOf 2 7 (FB ce cn cp)):=by
 intro g x st e hg ht hf hl S;have hL:LIM=100000:=rfl;refine Ak rfl ?_;unfold FB;right;refine BE (λr t=>∃(s:Nat) (y:List Str) (a b:List (Nat×Nat)) (e4 e5 e6:Option Sl),r=y.map .str/\Tr g s y b e/\a++b=st/\t=⟨[vw (gD g),vw (JY x),vw (.int s),some (.own (a.map IH)),e4,e5,e6],S⟩) _ _ ⟨0,x,[],st,none,none,none,rfl,ht,rfl,rfl⟩ ?_ ?_
 .rintro d r t ⟨s,y,a,b,e4,e5,e6,hr,htr,hab,rfl⟩ _
  cases htr with
  |nil _=>cases hr
  |@cons _ p w r' st' _ hs e1 t'=>
    rw[ul0] at hr;injection hr with h1 h2
    subst h1 h2;obtain⟨hpl,_⟩:=ua9.mp e1;have hfi:=KF (bF hg hs) e1;have hpn:=hp _ (An g s) w.1 (A9 hg hs);rw[hfi] at hpn;have hnx:=hn g s p hg hs hpl;have hw:=cZ e1;right;refine AM (Bj hs) ?_;right;refine hpn.use ?_;rw[GW];right;refine AY ?_ ?_
    .have:=jT List.length hab;rw[ue8] at this;rw[ui4,hL];simp only[ug7] at this;lia
    right;refine hnx.use ?_;right;refine⟨w.2.2.toNat,r',a++[(s,p)],st',_,_,_,rfl,t',by rw[uf8,<-hab];rfl,t7w (by rw[uj6];rfl) ?_⟩;unfold nextQ;rw[hw]
 .rintro t ⟨s,y,a,b,e4,e5,e6,hr,htr,hab,rfl⟩
  cases htr with
  |cons _ _ _=>cases hr
  |nil hs=>
    rw[ui6] at hab;subst hab;right;refine AM (Bj hs) ?_;right;refine(he _ _ (A9 hg hs)).use ?_;rw[hf];right;exact⟨rfl,rfl⟩
theorem SK{g:List GS}:∀{s:Nat}{x:List Str}{st:List (Nat×Nat)}{e:Nat},Tr g s x st e->∀(i:Nat) (sp:Nat×Nat),st[i]?=some sp->sp.1<g.length/\sp.2<(An g sp.1).ws.length
 |_,_,_,_,.nil _,i,sp,h=>by simp at h
 |_,_,_,_,.cons hs e1 t,0,sp,h=>by
   cases h
   obtain⟨hpl,_⟩:=ua9.mp e1;exact⟨hs,hpl⟩
 |_,_,_,_,.cons hs e1 t,i+1,sp,h=>SK t i sp (by simpa using h)
def Pq(f:Fn):Prop:=∀(g:List GS) (n k:Nat) (x:List Str),GOk g->n<=100->(Cb g n 0)[k]?=some x->Pure1 f [gD g,JY x] (.int k)
theorem Vx{st:List (Nat×Nat)}{sp:Nat×Nat}(e:st[i]?=some sp):atI (st.map IH) (i:Int)=some (IH sp):=by
 obtain⟨hp,_⟩:=ua9.mp e;unfold atI;rw[Bm (by lia) (by rw[ui4];lia)];show(st.map IH)[(i:Int).toNat]?=_;rw[uf6,uf5,e];rfl
theorem u7{p q i j:D}(h:p=q)(h1:i=j):(⟨[a0,a1,a2,vw p,vw i,e5,e6],S⟩:T)=⟨[a0,a1,a2,vw q,vw j,e5,e6],S⟩:=by subst h h1;rfl
theorem NU{cs:Fn}(hm:Ka cm)(hc:Le cc)(hw:ER cw)(hn:IP cn)(hs:JA cs):Pq (fnOf 2 7 (GH cm cc cw cn cs)):=by
 intro g n k x hg hn5 hx S;clear 5(VB hg n 0 k x hg.ne hx)st e t1 t2 t3 t4 t5;refine Ak rfl ?_;unfold GH;right;refine(hs g x st e hg t1 t2 (by lia)).use ?_;right;refine(hn g hg).use ?_;right;refine VM ?_;right;rw[ui4];refine VD (by lia) ?_;refine BE (λr t=>∃(m:Nat) (e5 e6:Option Sl),r=EA m/\m<=n/\t=⟨[vw (gD g),vw (JY x),vw (.lst (st.map IH)),vw (E9 (Cv g (n-m))),vw (.int (N3 g (st.drop m))),e5,e6],S⟩) _ _ ⟨n,none,none,by rw[t4],un4 _,?_⟩ ?_ ?_
 .rw[un2,<-t4,uh3];rfl
 .rintro d r t ⟨m,e5,e6,hr,hm',rfl⟩ _;clear 5(Mc hr)q rfl rfl rfl;have hq:q<st.length:=by lia
  have eq1:st[q]?=some st[q]:=ub3 hq;have hsp:=SK t1 q _ eq1;have hdrop:st.drop q=st[q]::st.drop (q+1):=ub1 hq;generalize st[q]=sp at eq1 hsp hdrop;clear 5 sp s p;have hnx:=Ld hg hsp.1;have hw9:=SZ hg hsp.1;have hpl:p<(An g s).ws.length:=hsp.2;right;refine AM (Vx eq1) ?_;unfold IH;right;refine AM (Bj hsp.1) ?_;right;refine(hw _ _ (A9 hg hsp.1)).use ?_;rw[J6];right;refine AM (Vx eq1) ?_;unfold IH;right;refine QA ?_;rw[LY (by show p<=_;lia)];right;refine(hc ((An g s).ws.take p) (An g s).isFin (Cv g (n-(q+1))) (by rw[ug9];lia) (by rw[Fa];exact FP hnx p)).use ?_;right;refine(hm g _ hg (Fa g _)).use ?_;right;refine⟨q,_,_,rfl,by lia,u7 ?_ ?_⟩
  .have:n-q=n-(q+1)+1:=by lia
   rw[this,Cv]
  .rw[hdrop,N3,uh0,t4]
 .rintro t ⟨m,e5,e6,hr,hm',rfl⟩;have:=Nm hr;subst this;right;exact⟨by rw[uk6,t3],rfl⟩
theorem Up{nm:Str}(h:(An g q).side≠x):Nop g q x nm v:=by
 unfold Nop
 cases e:An g q with
 |fin=>trivial
 |st side ws=>rw[e] at h;exact .inl (λz=>h z.symm)
theorem bG{nm:Str}(h:N9 (An g q)):Nop g q x (nm++Str.ofString "z") v:=by
 unfold Nop
 cases e:An g q with
 |fin=>trivial
 |st side ws=>
   rw[e] at h;refine .inr ?_;have:(ws.findIdx? λw=>w.1==nm++Str.ofString "z")=none:=by
    rw[im];intro w hw;rw[ji];intro z;have h1:=(h w hw).2 122;rw[z] at h1;have h2:122∈(nm++Str.ofString "z").cps.toList:=by
     show 122∈(nm.cps++(Str.ofString "z").cps).toList;rw[Array.toList_append,show(Str.ofString "z").cps.toList=[122] by decide +kernel];simp
    exact absurd (h1 h2) (by decide)
   rw[this];trivial
def Pi(f:Fn):Prop:=∀(g:List GS) (mv:List Mv) (d:D) (tl:List D),GOk g->okQ g 0 mv->mv.length+tl.length<=500->Odd (An g (Aj g 0 mv)) d->Pure1 f [.lst (g.map GS.d),.lst (Ao g 0 mv++d::tl)] (.exc "NoTalk" [.int mv.length])
theorem aU{cs:Fn}(hs:Kg cs):Pi (fnOf 2 3 (B9 cn cs)):=by
 intro g mv d tl hg hk hl ho S;have hst:=hs g mv (d::tl) hg hk (by rw[ug7];lia) (λd' r z=>by cases z;exact ho);refine Ak rfl ?_;unfold B9;symm;refine hst.use ?_;symm;exact⟨rfl,rfl⟩
theorem WG{d:D}{tl:List D}:atI (Ao g 0 mv++d::tl) (mv.length:Nat)=some d:=by
 unfold atI;rw[Bm (by lia) (by rw[ue8,AN,ug7];lia)];show(Ao g 0 mv++d::tl)[mv.length]?=_;rw[ua6 (by rw[AN];exact un4 _),AN,un2];rfl
def S9(f:Fn):Prop:=∀(g:List GS) (mv:List Mv),GOk g->okQ g 0 mv->mv.length<=500->Pure1 f [.lst (g.map GS.d),.lst (Ao g 0 mv)] (if (An g (Aj g 0 mv)).isFin=true then .tup [.str "over"] else .tup [.str "turn",.str (An g (Aj g 0 mv)).side])
theorem bA{cb:Fn}(he:Ej ce)(hb:GL cb):S9 (fnOf 2 4 (F6 ce cb)):=by
 intro g mv hg hk hl S;have hlt:=DR hg hg.ne hk;refine Ak rfl ?_;unfold F6;symm;refine(hb g mv hg hk (by lia)).use ?_;symm;refine AM (Bj hlt) ?_;symm;have hx:A2 (An g (Aj g 0 mv)).d=false:=by cases An g (Aj g 0 mv)<;>rfl
 refine⟨hx,QE hx ?_⟩;symm;refine(he _ _ (A9 hg hlt)).use ?_;symm;refine BB (λz=>?_) λz=>?_
 .symm;exact⟨by rw[jY z],rfl⟩
 .symm;refine KL ?_;symm;exact⟨by rw[jZ (by rw[z];decide)],rfl⟩
def Pn(f:Fn):Prop:=∀(g:List GS) (mv:List Mv) (x:Str) (b c:D) (tl:List D),GOk g->okQ g 0 mv->mv.length+tl.length<=500->Odd (An g (Aj g 0 mv)) (.tup [.str x,b,c])->Pure1 f [.lst (g.map GS.d),.lst (Ao g 0 mv++.tup [.str x,b,c]::tl)] (.tup [.str "broke",.int mv.length,.str x])
theorem bz{cb:Fn}(hb:Pi cb):Pn (fnOf 2 4 (F6 ce cb)):=by
 intro g mv x b c tl hg hk hl ho S;refine Ak rfl ?_;unfold F6;symm;refine(hb g mv _ tl hg hk hl ho).use ?_;symm;refine AM WG ?_;symm;exact⟨rfl,rfl⟩
def LNo(f:Fn):Prop:=∀(g:List GS) (mv:List Mv) (d:D) (tl:List D) (i:Int) (S:List Ob),GOk g->okQ g 0 mv->mv.length+tl.length<=500->Odd (An g (Aj g 0 mv)) d->Wf f [.int i,.lst (g.map GS.d),.lst (Ao g 0 mv++d::tl)] S λr _=>r=.lst [.str "no",.int mv.length]
theorem Zg{cb:Fn}(hb:Pi cb)(hw:MU [] cw):LNo (fnOf 3 5 (EF cb cw)):=by
 intro g mv d tl i S hg hk hl ho;refine Ak rfl ?_;unfold EF;symm;refine BB (λz=>?_) λz=>?_
 .symm;refine(hb g mv d tl hg hk hl ho).use ?_;symm;rfl
 .symm;refine(hw g mv d tl S hg hk (by rw[ug7];lia) ho (λ_ h=>nomatch h)).mono ?_;rintro r S' ⟨rfl,_⟩;symm;rfl
theorem WO{nm:Str}{side:Str}{ws:List (Str×Sh×Int)}(e:An g q=.st side ws)(hv:okD v=true)(h:Nop g q x nm v):Odd (An g q) (.tup [.str x,.str nm,v]):=by
 unfold Nop at h;rw[e] at h⊢;dsimp only at h;rcases h with h|h
 .exact .side h
 .cases ei:ws.findIdx? (λw=>w.1==nm) with
  |none=>exact .nm ei
  |some p=>
    rw[ei] at h;have hp:p<ws.length:=by
     rw[ua0] at ei;exact ei.1
    exact .val ei (ub3 hp) hv (h _ (ub3 hp))
theorem XV{s:Sh}(h:Dj s=true){v:D}:Ah s (.lst [v,.str (Str.ofString "spoilt value")])=false:=by
 have h5:(Str.ofString "spoilt value").length=12:=by decide +kernel
 have hno:∀s:Sh,Dj s=true->Ah s (.str (Str.ofString "spoilt value"))=false:=by
  intro s h
  cases s with
  |text m=>
    simp only[Dj,ug4] at h;simp only[Ah,h5,Bool.and_eq_false_iff,iY];exact .inl (by lia)
  |_=>rfl
 cases s with
 |list s m=>
   simp only[Dj,uh1] at h;simp only[Ah,ul3,hno s h.2,uk5,uk3]
 |_=>rfl
theorem Zp{nm:Str}(h:Tin (An g q)):Nop g q x nm (.lst [v,.str (Str.ofString "spoilt value")]):=by
 unfold Nop
 cases e:An g q with
 |fin=>trivial
 |st side ws=>
   rw[e] at h;refine .inr ?_
   split
   .trivial
   .intro w hw;exact XV (h w (ud4 hw)).tin
theorem a8(n:Nat):eqN EQD (.lst [.str (Str.ofString "no"),.int (n:Int)]) (.lst [.str (Str.ofString "no"),.int (n:Int)])=some true:=G6 (n:=1) (λd hd=>by simp only[uk9,uh6,jV] at hd;rcases hd with rfl|rfl;exact Gh;exact G4) EQD (by decide)
theorem a7(n:Nat)(x:Str):eqN EQD (.tup [.str (Str.ofString "broke"),.int (n:Int),.str x]) (.tup [.str (Str.ofString "broke"),.int (n:Int),.str x])=some true:=G7 (n:=1) (Px Gh G4 Gh) EQD (by decide)
def P6(Fk Ey:Fn):M Out:=
 (Ae (Ap 9 (Ac (Ac (fSl (Aa 1) fNo (Ct (Aa 3)) Cr) (Ar (AG (Ab (Aa 8) Ad))) Ay) (fSl (Aa 1) (Ct (Ac (Aa 3) (gh 1) Ay)) fNo Cr) Ay))
 (Ae (Bn (BV (Ab (gh 2) Ad)) (Aw 10)
   (ifS (Am (Ac (Ag Ey (Ab (Aa 10) (Ab (Ar (fBF (Ab (Aa 0) Ad) Bo)) (Ab (Ar (fBF (Ab (Aa 9) Ad) Bo)) Ad)))) (Ar (AG (Ab (fC (.str "no")) (Ab (Aa 3) Ad)))) (eqS λb=>!b)))
   (Al (fC (.bl false)))
   As))
 (Al (Ac (Ag Fk (Ab (Ar (fBF (Ab (Aa 0) Ad) Bo)) (Ab (Ar (fBF (Ab (Aa 9) Ad) Bo)) Ad))) (AQ (Ab (fC (.str "broke")) (Ab (Aa 3) (Ab (Ac (Aa 8) (gh 0) ixD) Ad)))) (eqS id)))))
variable{cj:Fn}
theorem XQ(hj:Pn cj)(hn:LNo cn){g:List GS}{mv:List Mv}(hg:GOk g)(hok:okQ g 0 mv)(hml:mv.length<=30){i:Nat}(hi:i<mv.length){x:Str}{b c:D}(ho:Odd (An g (Aj g 0 (mv.take i))) (.tup [.str x,b,c])){S:List Ob}{e2 e4 e5 e6 e7 e9 e10:Option Sl} :
 L2.W (P6 cj cn) ⟨[vw (.lst (g.map GS.d)),vw (.lst (Ao g 0 mv)),e2,vw (.int (i:Nat)),e4,e5,e6,e7,vw (.tup [.str x,b,c]),e9,e10],S⟩ λo _=>o=.ret (.bl true):=by
 have hL:LIM=100000:=rfl;have hgl:=hg.le;have hti:(mv.take i).length=i:=by rw[ug9];lia
 have hk:=E7 hok i;unfold P6;symm;rw[Nj];refine AY (by rw[AN,hti,hL];show i+1<=_;lia) ?_;symm;obtain⟨tl,htl⟩:∃tl,tl=Bu (Ao g 0 mv) (some ((i:Int)+1)) none:=⟨_,rfl⟩;have htn:tl.length<=30:=by
  rw[htl];unfold Bu;refine um4 (List.length_take_le' ..) ?_;rw[uh0,AN];lia
 rw[<-htl];refine AY (by rw[ue8,AN,hti,hL];show i+1+_<=_;lia) ?_;rw[uf8,jg];symm;refine BE (λrs t=>∃(e10:Option Sl) (S1:List Ob),t=⟨[vw (.lst (g.map GS.d)),vw (.lst (Ao g 0 mv)),e2,vw (.int (i:Nat)),e4,e5,e6,e7,vw (.tup [.str x,b,c]),vw (.lst (Ao g 0 (mv.take i)++.tup [.str x,b,c]::tl)),e10],S1⟩) _ _ ⟨_,_,rfl⟩ ?_ ?_
 .rintro d rs t ⟨e10,S1,rfl⟩ hd;obtain⟨j,rfl⟩:∃j:Int,d=.int j:=by
   rw[G0] at hd;clear 5(um9.mp hd)i hi rfl;exact⟨_,rfl⟩
  symm;refine(hn g (mv.take i) _ tl j S1 hg hk (by lia) ho).mono ?_;rintro r S2 rfl;rw[hti];symm;refine Es rfl (a8 i) ?_;symm;exact⟨_,_,rfl⟩
 .rintro t ⟨e10,S1,rfl⟩;symm;refine(hj g (mv.take i) x b c tl hg hk (by lia) ho).use ?_;rw[hti];symm;refine Es rfl (a7 i x) ?_;rfl
def LSp(f:Fn):Prop:=∀(ns:List Int) (g:List GS) (mv:List Mv) (S:List Ob),GOk g->(∀x∈g,Tin x/\N9 x)->okQ g 0 mv->mv.length<=30->mv≠[]->Wf f [.lst (g.map GS.d),.lst (Ao g 0 mv),.scr ns] S λr _=>r=.bl true
theorem Zh(hj:Pn cj)(hn:LNo cn)(hc:He cc):LSp (fnOf 3 11 (D1 cj cn cc)):=by
 intro ns g mv S hg hT hok hml hne;have hL:LIM=100000:=rfl;have hpos:0<mv.length:=List.length_pos_iff.mpr hne;clear 5(hc ns 10 (by decide) (by decide))c0 hc0;have q0:=uk0 c0 (b:=(mv.length:Int)) (by lia);have q1:=uf2 c0 (b:=(mv.length:Int)) (by lia);obtain⟨i,hi⟩:∃i:Nat,c0%(mv.length:Int)=i:=⟨(c0%(mv.length:Int)).toNat,by lia⟩;have hil:i<mv.length:=by lia
 obtain⟨p,v,em⟩:∃p v,mv[i]?=some (p,v):=⟨mv[i].1,mv[i].2,ub3 hil⟩;have hm:=GV hok em;have hmg:=Fs g 0 mv i p v em;have hlt:=DR hg hg.ne (E7 hok i);obtain⟨side,ws,egs,_,ew⟩:=Fg hm.pl;have hside:(An g (Aj g 0 (mv.take i))).side=side:=by rw[egs];rfl
 have hgs:=A9 hg hlt;have hw:=Fi hg hm.lt hm.pl;have hTN:=hT _ (JJ hlt);have hvo:okD v=true:=EZ 3 _ hw.dep hw.ok v hm.fit;have hat:atI (Ao g 0 mv) (i:Nat)=some (.tup [.str side,.str (wdAt g (Aj g 0 (mv.take i)) p).1,v]):=by
  unfold atI;rw[Bm (by lia) (by rw[AN];lia)];show(Ao g 0 mv)[i]?=_;rw[hmg];unfold D3;rw[hside]
 have hs2:side=sL\/side=sR:=by
  rw[egs] at hgs
  cases hgs with
  |st h1 _ _ _ _=>exact h1
 refine Ak rfl ?_;unfold D1;symm;refine hc0.use ?_;symm;rw[AN];refine HQ (by lia) ?_;rw[hi];symm;refine AM hat ?_;symm;refine hc0.use ?_;symm;have tail:∀{x nm:Str}{u:D}{e4 e5 e6 e7 e9 e10:Option Sl},okD u=true->Nop g (Aj g 0 (mv.take i)) x nm u->L2.W (P6 cj cn) ⟨[vw (.lst (g.map GS.d)),vw (.lst (Ao g 0 mv)),vw (.scr ns),vw (.int (i:Nat)),e4,e5,e6,e7,vw (.tup [.str x,.str nm,u]),e9,e10],S⟩ λo _=>o=.ret (.bl true):=λh1 h2=>XQ hj hn hg hok hml hil (WO egs h1 h2);have hn3:=(hTN.2 (wdAt g (Aj g 0 (mv.take i)) p) (by rw[egs];exact ud4 ew)).1;obtain⟨ot,hot,hne2⟩:∃ot:Str,atI [D.str (Str.ofString "left"),D.str (Str.ofString "right")] (if id (side==Str.ofString "left")=true then 1 else 0)=some (.str ot)/\side≠ot:=by
  rcases hs2 with h|h
  .exact⟨sR,by rw[h,jY (by decide +kernel)];rfl,by rw[h];decide⟩
  .exact⟨sL,by rw[h,jZ (by decide +kernel)];rfl,by rw[h];decide⟩
 refine BB (λz=>?_) λz=>?_
 .have z1:c0/31%3=1:=by simpa using z
  symm;refine AY (by rw[hL];show _+1<=_;lia) ?_;symm;refine Ea (by rw[z1];rfl) ?_
  iterate 2 (walk_at"y1")
  exact(tail hvo (bG hTN.2)).mono λo t h=>by subst h;rfl
 .symm;refine BB (λz=>?_) λz=>?_
  .symm;refine AM hot ?_
   iterate 6 (walk_at"y1")
   exact(tail hvo (Up (by rw[hside];exact hne2))).mono λo t h=>by subst h;rfl
  .iterate 2 (walk_at"y1")
   exact(tail (by simp only[okD,oks,hvo];rfl) (Zp hTN.1)).mono λo t h=>by subst h;rfl
def LG(g:List GS):Nat->List Mv->List Str
 |_,[]=>[]
 |q,(p,v)::r=>(wdAt g q p).1::LG g (nextQ g q p) r
theorem Je(g:List GS):∀(mv:List Mv) (q:Nat),(LG g q mv).length=mv.length
 |[],q=>rfl
 |(p,v)::r,q=>by rw[LG,ug7,ug7,Je g r]
theorem NP{g:List GS}(hg:GOk g):∀(mv:List Mv) (q:Nat),okQ g q mv->(An g (Aj g q mv)).isFin=true->LG g q mv∈Cb g mv.length q
 |[],q,_,h=>by
   rw[Aj] at h;show []∈Cb g 0 q;rw[Cb,jY h];exact uf0.mpr rfl
 |(p,v)::r,q,hk,h=>by
   rw[okQ] at hk;rw[Aj] at h;have ih:=NP hg r _ hk.2 h;rw[ug7,Gv,LG];unfold fan;obtain⟨side,ws,egs,_,ew⟩:=Fg hk.1.pl;refine ui0.mpr ⟨_,um9.mpr ⟨wdAt g q p,?_,rfl⟩,um9.mpr ⟨_,ih,rfl⟩⟩;rw[egs];exact ud4 ew
theorem JE{g:List GS}{S:List Ob}:∀(mv:List Mv) (q:Nat) (a b c:Option Sl),W (Cs (unS 3 (AI (Aw 0) (AI (Aw 1) (AI (Aw 2) Cm)))) Eh (Aa 1) (Ao g q mv)) ⟨[a,b,c],S⟩ λxs t'=>xs=(LG g q mv).map .str/\t'.S=S
 |[],q,a,b,c=>W_compL_nil.mpr ⟨rfl,rfl⟩
 |(p,v)::r,q,a,b,c=>by
   rw[Ao,FV];unfold D3;symm;rw[jY rfl];symm;refine(JE r _ _ _ _).mono ?_;rintro xs t' ⟨rfl,h⟩;symm;exact⟨rfl,h⟩
theorem fv{f:M (List D)}{P:Out->T->Prop}(h:W f t λds t1=>∃d e,ds=[d,e]/\P .next ⟨(t1.env.set i (vw d)).set j (vw e),t1.S⟩):W (NY i j f) t P:=by
 unfold NY;refine W_bnd.mpr (h.mono ?_);rintro ds t1 ⟨d,e,rfl,p⟩;exact⟨_,_,rfl,p⟩
theorem Nz(w:List Nat):J9 (wD w):=λx hx=>by
 obtain⟨n,_,rfl⟩:=um9.mp hx;exact⟨_,rfl⟩
theorem Q1(hg:GOk g){mv:List Mv}(hk:okQ g 0 mv){i a b:Int}:eqN EQD (.lst [.lst (Ao g 0 mv),.int i,.tup [.int a,.int b]]) (.lst [.lst (Ao g 0 mv),.int i,.tup [.int a,.int b]])=some true:=by
 refine G6 (n:=20) (Px ((G6 (Gq hg hk)).mono (by decide)) G4 (G7 (n:=19) λd hd=>?_)) EQD (by decide);simp only[uk9,uh6,jV] at hd;rcases hd with rfl|rfl<;>exact G4
theorem TM(hg:GOk g){q:Nat}(hq:q<g.length):id ((An g q).side==Str.ofString "end")=(An g q).isFin:=by
 have h:=A9 hg hq
 cases e:An g q with
 |fin=>decide +kernel
 |st s ws=>
   rw[e] at h
   cases h with
   |st h1 _ _ _ _=>
     show(s==Str.ofString "end")=false;rcases h1 with rfl|rfl<;>decide +kernel
theorem V2(x:Str):eqN EQD (.tup [.str (Str.ofString "turn"),.str x]) (.tup [.str (Str.ofString "turn"),.str x])=some true:=G7 (n:=1) (λd hd=>by simp only[uk9,uh6,jV] at hd;rcases hd with rfl|rfl<;>exact Gh) EQD (by decide)
theorem Yb(x:List Str):eqN EQD (JY x) (JY x)=some true:=G6 (n:=0) (λd hd=>by
 obtain⟨y,_,rfl⟩:=um9.mp hd;exact Gh) EQD (by decide)
set_option maxHeartbeats 9000000 in
theorem bB{csp cwy cnm cwh ctb cfd cb cwo ctk cg:Fn}(hsp:LSp csp)(hwy:Pv cwy)(hnm:Pq cnm)(hwh:MT cwh)(hj:S9 cj)(htb:Lh ctb)(hc:He cc)(hfd:Vd cfd)(hb:GL cb)(hwo:MV cwo)(htk:QN ctk)(hgr:GrN cg){ns:List Int} :
 Wf (fnOf 1 13 (F7 csp cwy cnm cwh cj ctb cc cfd cb cwo ctk cg)) [.scr ns] [] λr _=>r=.bl true:=by
 have hL:LIM=100000:=rfl;refine Ak rfl ?_;unfold F7;symm;refine(hgr ns _).mono ?_;rintro r0 S0 ⟨e0,g,rfl,hg,hg6,hT⟩;subst e0;have hT1:∀x∈g,Tin x:=λx h=>(hT x h).1;symm;refine(htk ns g _ hg hT1).mono ?_;rintro r1 S1 ⟨mv,K,wl,wr,hok,hml,rfl,G1,hK0,hK,el,er⟩;have hlt:=DR hg hg.ne hok;have b1:wl.length<=1300:=by have h:=Hc hT1 (sd:=sL) hok;rw[<-el,Bi] at h;lia
 have b2:wr.length<=1300:=by have h:=Hc hT1 (sd:=sR) hok;rw[<-er,Bi] at h;lia
 symm;refine fv ?_;symm;refine BJ hK (BI (.inl rfl)) ?_;rw[onL];symm;refine BJ hK (BI (.inr rfl)) ?_;rw[onR];symm;refine⟨_,_,rfl,?_⟩;symm;refine ME ?_;refine(hwo g mv S1 hg hok (by lia) (by rw[<-el,Bi];lia) (by rw[<-er,Bi];lia)).mono ?_;rintro r2 S2 ⟨K2,A,B,rfl,w,G2,_,_⟩;refine⟨rfl,?_⟩;rw[<-el,<-er] at w;have hK2:=G2.get hK;symm;refine eQ (d:=.tup [.lst (wD wl),.lst (wD wr)]) (Xi w.a w.b) (by simp only[FD,ul0,um6,DL]) (by simp only[B7,GK,Mn (Nz _),ul9]) (V0 (Nz _) (Nz _)) ?_;symm;refine ME ?_;refine(hb g mv hg hok (by lia)).use ?_;refine⟨rfl,?_⟩;symm;refine Ea (by simp) ?_;symm;have hwa:=U9 hg hok [] [] el er (.inl ⟨rfl,rfl⟩);rw[ui6,ui6] at hwa;refine(htb g wl wr S2 _ _ _ _ hg (by lia) (by lia) hwa).mono ?_;rintro r3 S3 ⟨G3,rfl⟩;have hK3:=G3.get hK2;symm;rw[Bi,Bi];refine Es rfl (Tt hg hok) ?_;symm;refine(hfd ns g mv wl wr K S3 hg hok hml el er b1 b2 hK3).mono ?_;rintro r4 S4 rfl;symm;refine Es rfl (Q1 hg hok) ?_;clear 5(hc ns 9 (by decide) (by decide))c9 hc9;symm;refine hc9.use ?_;symm;rw[Bi];refine HQ (by lia) ?_;have q0:=uk0 c9 (b:=(wl.length:Int)+1) (by lia);have q1:=uf2 c9 (b:=(wl.length:Int)+1) (by lia);obtain⟨m,hm⟩:∃m:Nat,c9%((wl.length:Int)+1)=m:=⟨(c9%((wl.length:Int)+1)).toNat,by lia⟩;rw[hm];symm;rw[YB];clear 5(Nn (g:=g) (mv:=mv) (rl:=m) (rr:=wr.length) mv.length 0 (um7 _) (un5 _) (un5 _))c hD;have hdw:=Ht hg hok el er (by lia) (un4 _) hD;rw[uh9] at hdw;refine(htb g (wl.take m) wr S4 _ _ _ _ hg (by rw[ug9];lia) (by lia) hdw).mono ?_;rintro r5 S5 ⟨G5,rfl⟩;symm;have hcl:(Ao g 0 (mv.take c)).length=c:=by rw[AN,ug9];have:=hD.le;lia
 rw[hcl,Nj];refine Es rfl (V1 hg (E7 hok c)) ?_;symm;refine AM (Bj hlt) ?_;symm;refine KL ?_;symm;have hf:=TM hg hlt;rw[hf];refine BB (λz=>?_) λz=>?_
 .symm;refine ME ?_;refine(hwh g mv hg hok (by lia)).use ?_;refine⟨rfl,?_⟩;symm;refine Ea (by simp) ?_;symm;refine(hj g mv hg hok (by lia)).use ?_;rw[jY z];symm;refine Es rfl (by decide +kernel) ?_;symm;refine(JE mv 0 _ _ _).mono ?_;rintro xs t' ⟨rfl,hS⟩;have hS:t'.S=S5:=hS;refine AY (by rw[ui4,Je,hL];lia) ?_;rw[hS];symm;refine HA z ?_;clear 5(List.getElem?_of_mem (NP hg mv 0 hok z))kk hkk;symm;refine(hnm g mv.length kk _ hg (by lia) hkk).use ?_;symm;refine Gk ?_;symm;rw[ui4,Je];refine(hwy g mv.length kk _ hg (by lia) hkk).use ?_;refine⟨_,rfl,?_⟩;symm;refine Es rfl (Yb _) ?_;symm;refine BB (λ_=>rfl) λy=>?_;have hne:mv≠[]:=λh=>by subst h;cases y
  symm;refine(hsp ns g mv _ hg hT hok hml hne).mono ?_;rintro r6 S6 rfl;symm;rfl
 .symm;refine AM (Bj hlt) ?_;symm;refine KL ?_;symm;refine ME ?_;refine(hwh g mv hg hok (by lia)).use ?_;refine⟨rfl,?_⟩;symm;refine Ea (by simp) ?_;symm;refine(hj g mv hg hok (by lia)).use ?_;rw[jZ (by rw[z];decide)];symm;refine Es rfl (V2 _) ?_;symm;refine(JE mv 0 _ _ _).mono ?_;rintro xs t' ⟨rfl,hS⟩;have hS:t'.S=S5:=hS;refine AY (by rw[ui4,Je,hL];lia) ?_;rw[hS];symm;refine Ea z ?_;symm;refine BB (λ_=>rfl) λy=>?_;have hne:mv≠[]:=λh=>by subst h;cases y
  symm;refine(hsp ns g mv _ hg hT hok hml hne).mono ?_;rintro r6 S6 rfl;symm;rfl
end LW
namespace L2
open PySem PySem.Spec PySem.W
theorem Ur{k:Kd}{P:gq}{w:gu}{K:gi}{mg:Str->Option gk}{base:Heap}{n:Nat}{fa:gm}{fd:gy}{ps:List Str}:okK k P w K mg base n fa fd ps (λ_ _=>none):=by
 cases k<;>exact⟨λvs H Q E h=>(by obtain⟨c,ds,S,_,_,r,S',e,_⟩:=h;cases e),λA' outer s H args us vs Q E _ _ _ _ h=>(by obtain⟨c,ds,S,_,_,r,S',e,_⟩:=h;cases e)⟩
theorem us0{n:Nat}:∀{us:List gk},us.length=n+1->∃a vs,us=a::vs/\vs.length=n
 |_::_,h=>⟨_,_,rfl,Nat.succ.inj h⟩
section
variable{us:List gk}
theorem us1(h:us.length=1):∃a,us=[a]:=by
 clear 5(us0 h)a vs rfl q;exact⟨a,by rw[ua3 q]⟩
theorem us2(h:us.length=2):∃a b,us=[a,b]:=by
 obtain⟨_,vs,rfl,q⟩:=us0 h;obtain⟨_,rfl⟩:=us1 q;exact⟨_,_,rfl⟩
theorem us3(h:us.length=3):∃a b c,us=[a,b,c]:=by
 obtain⟨_,vs,rfl,q⟩:=us0 h;obtain⟨_,_,rfl⟩:=us2 q;exact⟨_,_,_,rfl⟩
theorem us4(h:us.length=4):∃a b c d,us=[a,b,c,d]:=by
 obtain⟨_,vs,rfl,q⟩:=us0 h;obtain⟨_,_,_,rfl⟩:=us3 q;exact⟨_,_,_,_,rfl⟩
theorem us5(h:us.length=5):∃a b c d e,us=[a,b,c,d,e]:=by
 obtain⟨_,vs,rfl,q⟩:=us0 h;obtain⟨_,_,_,_,rfl⟩:=us4 q;exact⟨_,_,_,_,_,rfl⟩
theorem us6(h:us.length=6):∃a b c d e f,us=[a,b,c,d,e,f]:=by
 obtain⟨_,vs,rfl,q⟩:=us0 h;obtain⟨_,_,_,_,_,rfl⟩:=us5 q;exact⟨_,_,_,_,_,_,rfl⟩
theorem us7(h:us.length=7):∃a b c d e f g,us=[a,b,c,d,e,f,g]:=by
 obtain⟨_,vs,rfl,q⟩:=us0 h;obtain⟨_,_,_,_,_,_,rfl⟩:=us6 q;exact⟨_,_,_,_,_,_,_,rfl⟩
end
end L2
namespace K96
open PySem L2 LW
inductive Fx where
 |CF|AZ|EB|CD|C6|C4|C5|Ck|A0|Ce|BD|B0|Bp|B6|Bx|CY|BO|Bf|BK|BP|C8|Bq|CK|BC|Co|Dh|DM|De|Dg|Cn|Cg|By|DN|Df|BQ|Dq|CW|Br|A8|AS|A5|Eu|Bl|CH|B5|BH|CN|BX|BY|Bc|BW|BM|C3|DF|BN|Cj|law_|AB|AJ|AK|Ax|AD|AL|AF
noncomputable def top(i:Nat):Stmt:=PySem.Challenge.pw_wireparley_k96_whole_one_talk_everywhere.main.body.getD i (.Pass ⟨0,0,0,0⟩)
noncomputable abbrev nm:Fx->Str
 |.CF=>"is_number"
 |.AZ=>"is_number_within"
 |.EB=>"fits"
 |.CD=>"fits_text"
 |.C6=>"is_sign"
 |.C4=>"fits_list"
 |.C5=>"fits_pair"
 |.Ck=>"fits_choice"
 |.A0=>"state_behind"
 |.Ce=>"steps_of"
 |.BD=>"state_next"
 |.B0=>"place_said"
 |.Bp=>"place_named"
 |.B6=>"words_of"
 |.Bx=>"is_end"
 |.CY=>"is_whole"
 |.BO=>"grammar_copy"
 |.Bf=>"fitting_bytes"
 |.BK=>"width_up_to"
 |.BP=>"number_bytes"
 |.C8=>"leading"
 |.Bq=>"read_value"
 |.CK=>"byte_at"
 |.BC=>"byte_up_to"
 |.Co=>"read_number"
 |.Dh=>"read_text"
 |.DM=>"sign_at"
 |.De=>"read_list"
 |.Dg=>"read_pair"
 |.Cn=>"read_choice"
 |.Cg=>"wires_of"
 |.By=>"message_bytes"
 |.DN=>"talk_by"
 |.Df=>"read_on"
 |.BQ=>"read_message"
 |.Dq=>"judged"
 |.CW=>"how_many"
 |.Br=>"counts_up_to"
 |.A8=>"counts_of_none"
 |.AS=>"counts_of_one_more"
 |.A5=>"count_behind"
 |.Eu=>"way_of"
 |.Bl=>"place_numbered"
 |.CH=>"number_of"
 |.B5=>"steps_named"
 |.BH=>"_law_cell"
 |.CN=>"_law_mixed"
 |.BX=>"_law_shape"
 |.BY=>"_law_value"
 |.Bc=>"_law_number_bytes"
 |.BW=>"_law_bytes"
 |.BM=>"_law_grammar"
 |.C3=>"_law_talk"
 |.DF=>"_law_fed"
 |.BN=>"_law_no_talk"
 |.Cj=>"_law_spoilt"
 |.law_=>"law"
 |.AB=>"__init__"
 |.AJ=>"state"
 |.AK=>"hear"
 |.Ax=>"unread_of"
 |.AD=>"__init__"
 |.AL=>"feed"
 |.AF=>"unread"
abbrev ql:Fx->Str
 |.AB=>"Hearer.__init__"
 |.AJ=>"Hearer.state"
 |.AK=>"Hearer.hear"
 |.Ax=>"Hearer.unread_of"
 |.AD=>"Reader.__init__"
 |.AL=>"Reader.feed"
 |.AF=>"Reader.unread"
 |x=>nm x
noncomputable abbrev me:Fx->Bool
 |.AB=>true
 |.AJ=>true
 |.AK=>true
 |.Ax=>true
 |.AD=>true
 |.AL=>true
 |.AF=>true
 |_=>false
noncomputable abbrev ow:Fx->Str
 |.AB=>"Hearer"
 |.AJ=>"Hearer"
 |.AK=>"Hearer"
 |.Ax=>"Hearer"
 |.AD=>"Reader"
 |.AL=>"Reader"
 |.AF=>"Reader"
 |_=>""
abbrev st:Fx->Stmt
 |.CF=>top 9
 |.AZ=>top 10
 |.EB=>top 11
 |.CD=>top 12
 |.C6=>top 13
 |.C4=>top 14
 |.C5=>top 15
 |.Ck=>top 16
 |.A0=>top 18
 |.Ce=>top 19
 |.BD=>top 20
 |.B0=>top 21
 |.Bp=>top 22
 |.B6=>top 23
 |.Bx=>top 24
 |.CY=>top 25
 |.BO=>top 26
 |.Bf=>top 29
 |.BK=>top 30
 |.BP=>top 31
 |.C8=>top 32
 |.Bq=>top 33
 |.CK=>top 34
 |.BC=>top 35
 |.Co=>top 36
 |.Dh=>top 37
 |.DM=>top 38
 |.De=>top 39
 |.Dg=>top 40
 |.Cn=>top 41
 |.Cg=>top 43
 |.By=>top 44
 |.DN=>top 45
 |.Df=>top 46
 |.BQ=>top 47
 |.Dq=>top 52
 |.CW=>top 54
 |.Br=>top 55
 |.A8=>top 56
 |.AS=>top 57
 |.A5=>top 58
 |.Eu=>top 59
 |.Bl=>top 60
 |.CH=>top 61
 |.B5=>top 62
 |.BH=>top 64
 |.CN=>top 65
 |.BX=>top 66
 |.BY=>top 67
 |.Bc=>top 68
 |.BW=>top 69
 |.BM=>top 70
 |.C3=>top 71
 |.DF=>top 72
 |.BN=>top 73
 |.Cj=>top 74
 |.law_=>top 75
 |.AB=>Ch (top 49) 0
 |.AJ=>Ch (top 49) 1
 |.AK=>Ch (top 49) 2
 |.Ax=>Ch (top 49) 3
 |.AD=>Ch (top 50) 0
 |.AL=>Ch (top 50) 1
 |.AF=>Ch (top 50) 2
noncomputable abbrev ps:Fx->List Str
 |.CF=>["thing"]
 |.AZ=>["thing", "low", "high"]
 |.EB=>["s", "thing"]
 |.CD=>["s", "thing"]
 |.C6=>["number"]
 |.C4=>["s", "thing"]
 |.C5=>["s", "thing"]
 |.Ck=>["s", "thing"]
 |.A0=>["g", "talk"]
 |.Ce=>["g", "talk"]
 |.BD=>["g", "step"]
 |.B0=>["state", "thing"]
 |.Bp=>["state", "thing"]
 |.B6=>["state"]
 |.Bx=>["state"]
 |.CY=>["g", "talk"]
 |.BO=>["g"]
 |.Bf=>["s", "value"]
 |.BK=>["most"]
 |.BP=>["number", "width"]
 |.C8=>["number", "cut"]
 |.Bq=>["s", "wire", "at"]
 |.CK=>["wire", "at"]
 |.BC=>["most", "wire", "at"]
 |.Co=>["s", "wire", "at"]
 |.Dh=>["s", "wire", "at"]
 |.DM=>["wire", "at"]
 |.De=>["s", "wire", "at"]
 |.Dg=>["s", "wire", "at"]
 |.Cn=>["s", "wire", "at"]
 |.Cg=>["g", "talk"]
 |.By=>["state", "place", "value"]
 |.DN=>["g", "left", "right"]
 |.Df=>["g", "state", "wires", "places"]
 |.BQ=>["state", "wire", "at"]
 |.Dq=>["g", "messages"]
 |.CW=>["g", "n"]
 |.Br=>["g", "n"]
 |.A8=>["g"]
 |.AS=>["g", "row"]
 |.A5=>["words", "row"]
 |.Eu=>["g", "n", "k"]
 |.Bl=>["words", "row", "number"]
 |.CH=>["g", "way"]
 |.B5=>["g", "way"]
 |.BH=>["script", "k"]
 |.CN=>["cell", "k"]
 |.BX=>["cell", "depth"]
 |.BY=>["shape", "cell"]
 |.Bc=>["n", "most"]
 |.BW=>["shape", "value"]
 |.BM=>["script", "start", "ends"]
 |.C3=>["grammar", "script"]
 |.DF=>["grammar", "wires", "script"]
 |.BN=>["way", "grammar", "talk"]
 |.Cj=>["grammar", "talk", "script"]
 |.law_=>["script"]
 |.AB=>["self", "g", "sides"]
 |.AJ=>["self"]
 |.AK=>["self", "side", "piece"]
 |.Ax=>["self", "side"]
 |.AD=>["self", "g"]
 |.AL=>["self", "side", "piece"]
 |.AF=>["self"]
noncomputable abbrev ns:Fx->List Str
 |.CF=>["thing"]
 |.AZ=>["thing", "low", "high"]
 |.EB=>["s", "thing", "kind"]
 |.CD=>["s", "thing", "sign"]
 |.C6=>["number"]
 |.C4=>["s", "thing", "part"]
 |.C5=>["s", "thing"]
 |.Ck=>["s", "thing"]
 |.A0=>["g", "talk", "steps"]
 |.Ce=>["g", "talk", "state", "steps", "k", "place", "step"]
 |.BD=>["g", "step"]
 |.B0=>["state", "thing", "place"]
 |.Bp=>["state", "thing", "words", "place"]
 |.B6=>["state"]
 |.Bx=>["state"]
 |.CY=>["g", "talk"]
 |.BO=>["g"]
 |.Bf=>["s", "value", "kind", "row", "thing"]
 |.BK=>["most"]
 |.BP=>["number", "width"]
 |.C8=>["number", "cut"]
 |.Bq=>["s", "wire", "at", "kind"]
 |.CK=>["wire", "at"]
 |.BC=>["most", "wire", "at", "byte"]
 |.Co=>["s", "wire", "at", "most", "width", "number", "k"]
 |.Dh=>["s", "wire", "at", "length", "place", "text", "k"]
 |.DM=>["wire", "at", "number"]
 |.De=>["s", "wire", "at", "length", "place", "things", "k", "part"]
 |.Dg=>["s", "wire", "at", "first", "second"]
 |.Cn=>["s", "wire", "at", "k", "part"]
 |.Cg=>["g", "talk", "wires", "steps", "k", "state"]
 |.By=>["state", "place", "value"]
 |.DN=>["g", "left", "right", "read"]
 |.Df=>["g", "state", "wires", "places", "talk", "standing", "behind", "side", "read"]
 |.BQ=>["state", "wire", "at", "word", "read", "e"]
 |.Dq=>["g", "messages", "state", "e"]
 |.CW=>["g", "n"]
 |.Br=>["g", "n", "rows", "m"]
 |.A8=>["g"]
 |.AS=>["g", "row"]
 |.A5=>["words", "row"]
 |.Eu=>["g", "n", "k", "rows", "way", "state", "number", "behind", "words", "place"]
 |.Bl=>["words", "row", "number", "place"]
 |.CH=>["g", "way", "steps", "row", "number", "k", "words"]
 |.B5=>["g", "way", "state", "steps", "name", "place", "step"]
 |.BH=>["script", "k"]
 |.CN=>["cell", "k", "number"]
 |.BX=>["cell", "depth", "kind", "low", "one", "other"]
 |.BY=>["shape", "cell", "kind", "many", "size", "text", "found", "k", "one", "other"]
 |.Bc=>["n", "most", "found"]
 |.BW=>["shape", "value", "kind", "signs", "codes", "found", "one"]
 |.BM=>["script", "start", "ends", "many", "grammar", "k", "cell", "kind", "words", "j", "then", "shape"]
 |.C3=>["grammar", "script", "talk", "wires", "here", "k", "cell", "side", "words", "j", "value"]
 |.DF=>["grammar", "wires", "script", "reader", "found", "come", "ahead", "k", "side", "size"]
 |.BN=>["way", "grammar", "talk", "found", "e"]
 |.Cj=>["grammar", "talk", "script", "at", "side", "name", "value", "way", "spoilt", "changed", "kind"]
 |.law_=>["script", "grammar", "talk", "wires", "here", "left", "right", "many", "cut", "over", "due", "names", "number"]
 |.AB=>["self", "g", "sides", "side"]
 |.AJ=>["self"]
 |.AK=>["self", "side", "piece", "read"]
 |.Ax=>["self", "side"]
 |.AD=>["self", "g"]
 |.AL=>["self", "side", "piece"]
 |.AF=>["self"]
def body(Φ:Fx->Fn):Fx->Fn
 |.CF=>fnOf 1 1 (GG)
 |.AZ=>fnOf 3 3 (DI (Φ .CF))
 |.EB=>fnOf 2 3 (NH (Φ .Ck) (Φ .C5) (Φ .C4) (Φ .CD) (Φ .AZ))
 |.CD=>fnOf 2 3 (GF (Φ .C6))
 |.C6=>fnOf 1 1 (Iu)
 |.C4=>fnOf 2 3 (GC (Φ .EB))
 |.C5=>fnOf 2 2 (GD (Φ .EB))
 |.Ck=>fnOf 2 2 (Fz (Φ .EB) (Φ .AZ))
 |.A0=>fnOf 2 3 (B9 (Φ .BD) (Φ .Ce))
 |.Ce=>fnOf 2 7 (Dm (Φ .BD) (Φ .B0))
 |.BD=>fnOf 2 2 (Ga)
 |.B0=>fnOf 2 3 (DJ (Φ .EB) (Φ .Bp))
 |.Bp=>fnOf 2 4 (Cz (Φ .B6))
 |.B6=>fnOf 1 1 (HC (Φ .Bx))
 |.Bx=>fnOf 1 1 (JL)
 |.CY=>fnOf 2 2 (FA (Φ .A0) (Φ .Bx))
 |.BO=>fnOf 1 1 (E5 (Φ .Bx))
 |.Bf=>fnOf 2 5 (EH (Φ .Bf) (Φ .BK) (Φ .BP))
 |.BK=>fnOf 1 1 (FC)
 |.BP=>fnOf 2 2 (E6 (Φ .C8))
 |.C8=>fnOf 2 2 (Iv)
 |.Bq=>fnOf 3 4 (Dx (Φ .Cn) (Φ .Dg) (Φ .De) (Φ .Dh) (Φ .Co))
 |.CK=>fnOf 2 2 (F5)
 |.BC=>fnOf 3 4 (EE (Φ .CK))
 |.Co=>fnOf 3 7 (Dc (Φ .C8) (Φ .CK) (Φ .BK))
 |.Dh=>fnOf 3 7 (DW (Φ .DM) (Φ .BC))
 |.DM=>fnOf 2 3 (F9 (Φ .C6) (Φ .CK))
 |.De=>fnOf 3 8 (DU (Φ .Bq) (Φ .BC))
 |.Dg=>fnOf 3 5 (DV (Φ .Bq))
 |.Cn=>fnOf 3 5 (Db (Φ .Bq) (Φ .BC))
 |.Cg=>fnOf 2 6 (Dn (Φ .By) (Φ .Ce))
 |.By=>fnOf 3 3 (EI (Φ .Bf))
 |.DN=>fnOf 3 4 (Gb (Φ .Df))
 |.Df=>fnOf 4 9 (F8 (Φ .BQ))
 |.BQ=>fnOf 3 6 (D2 (Φ .Bq))
 |.Dq=>fnOf 2 4 (F6 (Φ .Bx) (Φ .A0))
 |.CW=>fnOf 2 2 (HB (Φ .Br))
 |.Br=>fnOf 2 4 (E3 (Φ .AS) (Φ .A8))
 |.A8=>fnOf 1 1 (Ed (Φ .Bx))
 |.AS=>fnOf 2 2 (C9 (Φ .B6) (Φ .A5))
 |.A5=>fnOf 2 2 (E2)
 |.Eu=>fnOf 3 10 (JM (Φ .A5) (Φ .Bl) (Φ .B6) (Φ .Br) (Φ .CW))
 |.Bl=>fnOf 3 4 (Eg (Φ .A5))
 |.CH=>fnOf 2 7 (GH (Φ .AS) (Φ .A5) (Φ .B6) (Φ .A8) (Φ .B5))
 |.B5=>fnOf 2 7 (FB (Φ .Bx) (Φ .BD) (Φ .Bp))
 |.BH=>fnOf 2 2 (Dw)
 |.CN=>fnOf 2 3 (Fy)
 |.BX=>fnOf 2 6 (Cl (Φ .BX))
 |.BY=>fnOf 2 10 (Ef (Φ .BY))
 |.Bc=>fnOf 2 3 (Da)
 |.BW=>fnOf 2 7 (Ee (Φ .BW) (Φ .Bc))
 |.BM=>fnOf 3 12 (DH (Φ .BX) (Φ .BH) (Φ .CN))
 |.C3=>fnOf 2 11 (EG (Φ .BW) (Φ .BY) (Φ .BH))
 |.DF=>fnOf 3 10 (E4 (Φ .AF) (Φ .AJ) (Φ .AL) (Φ .BH) (Φ .AD))
 |.BN=>fnOf 3 5 (EF (Φ .A0) (Φ .Cg))
 |.Cj=>fnOf 3 11 (D1 (Φ .Dq) (Φ .BN) (Φ .BH))
 |.law_=>fnOf 1 13 (F7 (Φ .Cj) (Φ .Eu) (Φ .CH) (Φ .CY) (Φ .Dq) (Φ .DN) (Φ .BH) (Φ .DF) (Φ .A0) (Φ .Cg) (Φ .C3) (Φ .BM))
 |.AB=>fnOf 3 4 (EC (Φ .BO))
 |.AJ=>fnOf 1 1 (DT)
 |.AK=>fnOf 3 4 (Ec (Φ .Df))
 |.Ax=>fnOf 2 2 (B3)
 |.AD=>fnOf 2 2 (ED (Φ .AB))
 |.AL=>fnOf 3 3 (Fw (Φ .AK))
 |.AF=>fnOf 1 1 (Dv (Φ .Ax))
def run:Nat->Fx->Fn
 |0=>λ_ _ _=>none
 |n+1=>body (run n)
structure Md(K:gi)(mg:Str->Option gk)(A:Fx->gm)(fd:Fx->gy):Prop where
 fn:∀x,Fun K (nm x) (ql x) (st x) (A x) (fd x)
 mgs:∀x,me x=false->mg (nm x)=some (.ref (A x))
 bd:∀x,Binds K (fd x) (ps x) []
 cm:CM K
 M2:∃C,PySem.W.nsIn K mainGlobals "Reader" = some (some (.ref C))/\mg "Reader" = some (.ref C)/\Mk K C (A .AD)/\Meth K C "feed" (A .AL)/\Meth K C "unread" (A .AF)/\Meth K C "state" (A .AJ)/\Meth K C "hear" (A .AK)/\Meth K C "unread_of" (A .Ax)
 iF:∃C,mg "Hearer" = some (.ref C)/\ByCls K C "__init__" (A .AB)
 gX:mg "bool" = none
 gZ:mg "dict" = none
 hJ:mg "int" = none
 gC:mg "isinstance" = none
 i5:mg "len" = none
 gM:mg "list" = none
 i6:mg "max" = none
 i7:mg "min" = none
 i8:mg "ord" = none
 gI:mg "range" = none
 gF:mg "reversed" = none
 i4:mg "str" = none
 i9:mg "sum" = none
 gP:mg "tuple" = none
 gA:∃tk,mg "FIRST_SIGN" = some (.int 32 tk)
 gB:∃tk,mg "LAST_SIGN" = some (.int 126 tk)
 g9:∃tk,mg "PERCENT_SIGN" = some (.int 37 tk)
 gH:∃tk,mg "SIGNS" = some (.str " !\"#$ &'()*+,-./0123456789:;<=>?@ABCDEFGHIJKLMNOPQRSTUVWXYZ[\\]^_`abcdefghijklmnopqrstuvwxyz{|}~" tk)
 xm:∃(P:gm) (ca:Str->gm),XM K mg P ca/\XF1 K (ca "NoTalk") P "NoTalk.__init__" (Ch (top 4) 0)/\∀n∈(["Short"]:List Str),XN0 K (ca n)
noncomputable abbrev kd:Fx->Kd
 |.CF=>.pl
 |.AZ=>.pl
 |.EB=>.pl
 |.CD=>.pl
 |.C6=>.pl
 |.C4=>.pl
 |.C5=>.pl
 |.Ck=>.pl
 |.A0=>.ex
 |.Ce=>.ex
 |.BD=>.pl
 |.B0=>.pl
 |.Bp=>.pl
 |.B6=>.pl
 |.Bx=>.pl
 |.CY=>.ex
 |.BO=>.pl
 |.Bf=>.fr
 |.BK=>.pl
 |.BP=>.fr
 |.C8=>.pl
 |.Bq=>.ex
 |.CK=>.ex
 |.BC=>.ex
 |.Co=>.ex
 |.Dh=>.ex
 |.DM=>.ex
 |.De=>.ex
 |.Dg=>.ex
 |.Cn=>.ex
 |.Cg=>.ex
 |.By=>.pl
 |.DN=>.pl
 |.Df=>.pl
 |.BQ=>.pl
 |.Dq=>.pl
 |.CW=>.pl
 |.Br=>.pl
 |.A8=>.pl
 |.AS=>.pl
 |.A5=>.pl
 |.Eu=>.fr
 |.Bl=>.pl
 |.CH=>.pl
 |.B5=>.pl
 |.BH=>.pl
 |.CN=>.pl
 |.BX=>.pl
 |.BY=>.pl
 |.Bc=>.pl
 |.BW=>.pl
 |.BM=>.pl
 |.C3=>.pl
 |.DF=>.pl
 |.BN=>.pl
 |.Cj=>.pl
 |.law_=>.pl
 |.AB=>.pl
 |.AJ=>.pl
 |.AK=>.pl
 |.Ax=>.pl
 |.AD=>.pl
 |.AL=>.pl
 |.AF=>.pl
theorem bS:FnScope ["self", "at"] ["self", "at"] (AA (Ch (top 4) 0)):=⟨rfl,rfl,rfl,by decide +kernel,rfl,by decide +kernel,by decide +kernel⟩
section
variable{P:gq}{w:gu}{K:gi}{mg:Str->Option gk}{base:Heap}{A:Fx->gm}{fd:Fx->gy}{n:Nat}
theorem Iz{a:Kd}(k:Kd){P:gq}{w:gu}{K:gi}{mg:Str->Option gk}{base:Heap}{n:Nat}{fa:gm}{fd:gy}{ps:List Str}{f:Fn}(h:okK a P w K mg base n fa fd ps f)(e:a=k):okK k P w K mg base n fa fd ps f:=e ▸ h
section
variable{X:Cx}{A:Fx->gm}{fd:Fx->gy}{n k:Nat}{x:Fx}{s:Str}{e:Expr}{es:List Expr}{f:M (List D)}{p pos:Pos}{E:L2.St->XK}
theorem dE(M:Md X.K X.mg A fd)(ih:∀x,okK (kd x) X.prog X.w X.K X.mg X.base k (A x) (fd x) (ps x) (run n x))(hr:Room k X.A)(ha:PA X (e::es) (RA X.K f))(hk:kd x=.ex)(hm:me x=false)(hs:nm x=s)(hg:Gl X s)(h1:AV e=false)(h2:A1 es=true)(hd:(s==("__debug__":Str))=false):PE X (.Call (.Name s p) (e::es) [] pos) (RE X.K (Ag (GJ (run n x)) f)):=by subst hs;exact Nq (aW (Iz .ex (ih x) hk)) hr hg (M.mgs x hm) (Fun.kp (M.fn x)) (M.bd x) ha hd h1 h2
theorem cP(M:Md X.K X.mg A fd)(ih:∀x,okK (kd x) X.prog X.w X.K X.mg X.base k (A x) (fd x) (ps x) (run n x))(hr:Room k X.A)(ha:PA X (e::es) (RA X.K f))(hk:kd x=.pl)(hm:me x=false)(hs:nm x=s)(hg:Gl X s)(h1:AV e=false)(h2:A1 es=true)(hd:(s==("__debug__":Str))=false):PE X (.Call (.Name s p) (e::es) [] pos) (RE X.K (Ag (run n x) f)):=by subst hs;exact Nq (Iz .pl (ih x) hk) hr hg (M.mgs x hm) (Fun.kp (M.fn x)) (M.bd x) ha hd h1 h2
theorem fF(M:Md X.K X.mg A fd)(ih:∀x,okK (kd x) X.prog X.w X.K X.mg X.base k (A x) (fd x) (ps x) (run n x))(hr:Room k X.A)(ha:PA X (e::es) (RA X.K f))(hk:kd x=.fr)(hm:me x=false)(hs:nm x=s)(hg:Gl X s)(h1:AV e=false)(h2:A1 es=true)(hd:(s==("__debug__":Str))=false):PE X (.Call (.Name s p) (e::es) [] pos) (RF X.K (DC (run n x) f)):=by subst hs;exact TK (Iz .fr (ih x) hk) hr hg (M.mgs x hm) (Fun.kp (M.fn x)) (M.bd x) ha hd h1 h2
theorem xex(M:Md X.K X.mg A fd)(ih:∀x,okK (kd x) X.prog X.w X.K X.mg X.base k (A x) (fd x) (ps x) (run n x))(hr:Room k X.A)(hp:Ek (CX1 true X.prog X.w) X E)(ha:PA X (e::es) (RA X.K f))(hk:kd x=.ex)(hm:me x=false)(hs:nm x=s)(hg:Gl X s)(h1:AV e=false)(h2:A1 es=true)(hd:(s==("__debug__":Str))=false):PE X (.Call (.Name s p) (e::es) [] pos) (RX X.K E (Ag (run n x) f)):=by subst hs;exact Wq (Iz .ex (ih x) hk) hr hg (M.mgs x hm) (Fun.kp (M.fn x)) (M.bd x) hp ha hd h1 h2
end
seal PE PA PSs PS PG PT PGs PI PW PPf PO PIf PH
theorem sc(x:Fx):FnScope (ns x) (ps x) (AA (st x)):=by
 cases x<;>exact⟨rfl,rfl,rfl,by decide +kernel,rfl,by decide +kernel,by decide +kernel⟩
local macro_rules | `(tactic| clear 30 $t)=>`(tactic| with_reducible refine(?_ : $t))
seal Hh
theorem step(M:Md K mg A fd)(ih0:∀x,okK (kd x) P w K mg base (2*n+2) (A x) (fd x) (ps x) (run n x))(y:Fx):okK (kd y) P w K mg base (2*n+2+1+1) (A y) (fd y) (ps y) (run (n+1) y):=by
 have ih:=λx=>Zr (ih0 x);obtain⟨_,gA⟩:=M.gA;obtain⟨_,gB⟩:=M.gB;obtain⟨_,g9⟩:=M.g9;clear 5 M.xm P' ca x xt x0;have xn:XN1 P w K mg base (ca "NoTalk") P':=T9 rfl bS rfl rfl xt;obtain⟨_,gH⟩:=M.gH;clear 5 M.M2 Reader_ g8 iR iO iV iP iT iW iK;have iS:MAt K "Reader" "feed" Reader_ (A .AL):=⟨by decide,g8,iV,by decide⟩;have iQ:MAt K "Reader" "state" Reader_ (A .AJ):=⟨by decide,g8,iT,by decide⟩;have iM:MAt K "Reader" "unread" Reader_ (A .AF):=⟨by decide,g8,iP,by decide⟩;clear 5 M.iF Hearer_b iN iL;have iU:MAt K "Reader" "hear" Reader_ (A .AK):=⟨by decide,g8,iW,by decide⟩;have iH:MAt K "Reader" "unread_of" Reader_ (A .Ax):=⟨by decide,g8,iK,by decide⟩;have sy:=sc y;have nd:=sy.nd;have mf:=M.fn y
 cases y<;>first|(clear 30 (okK .pl ..);refine Z9 (g:=fnOf _ _ _) rfl (YW rfl rfl mf sy (λcdv A' outer s H E hr=>?_)))|(clear 30 (okK .ex ..);refine Xo (g:=fnOf _ _ _) rfl (Wi rfl rfl mf sy (λcdv A' outer s H E hr hp hq ho=>?_)))|(clear 30 (okK .fr ..);refine Xn (g:=fnOf _ _ _) rfl (Wh rfl rfl mf sy (λcdv A' outer s H E hr=>?_)))
 all_goals repeat' first
  | (clear 30 (PE ..);first
    | (clear 30 (PE _ (.Name ..) ..);first
      |(clear 30 (PE _ _ (RE _ (Aa _)));exact(YQ _))
      |(clear 30 (PE _ (.Name _ _) (RE _ (fC (.ty _))));exact(KD rfl M.i4 Yv))
      |(clear 30 (PE _ (.Name _ _) (RE _ (fC (.ty _))));exact(KD rfl M.gP Tj))
      |(clear 30 (PE _ (.Name _ _) (RE _ (fC (.int _))));exact(Lz rfl gA))
      |(clear 30 (PE _ (.Name _ _) (RE _ (fC (.ty _))));exact(KD rfl M.hJ QQ))
      |(clear 30 (PE _ (.Name _ _) (RE _ (fC (.ty _))));exact(KD rfl M.gX VQ))
      |(clear 30 (PE _ (.Name _ _) (RE _ (fC (.int _))));exact(Lz rfl gB))
      |(clear 30 (PE _ (.Name _ _) (RE _ (fC (.int _))));exact(Lz rfl g9))
      |(clear 30 (PE _ (.Name _ _) (RE _ (fC (.ty _))));exact(KD rfl M.gM OI))
      |(clear 30 (PE _ _ (RE _ (fC (.str _))));exact(TB rfl gH)))
    | (clear 30 (PE _ (.Constant ..) ..);first
      |(clear 30 (PE _ _ (RE _ (fC (.int _))));exact YJ)
      |(clear 30 (PE _ _ (RE _ (fC (.str _))));exact YO)
      |(clear 30 (PE _ _ (RE _ (fC (.bl _))));exact ba)
      |(clear 30 (PE _ _ (RE _ (fC .non)));exact YK))
    | (clear 30 (PE _ (.Subscript ..) ..);first
      |(clear 30 (PE _ _ (RE _ (Ac _ _ ixD)));refine Vj Rw SA ?_ ?_ (λ_ _=>rfl))
      |(clear 30 (PE _ _ (RE _ (Ac _ _ A6)));refine Vj Y8 Sy ?_ ?_ (λ_ _=>rfl))
      |(clear 30 (PE _ _ (RE _ (fSl _ _ _ Cr)));refine TF sl3 XH ?_ ?_ ?_)
      |(clear 30 (PE _ _ (RX _ _ (Ff _ _ ixD)));refine br Rw SA ?_ ?_ (λ_ _=>rfl))
      |(clear 30 (PE _ _ (RE _ (GN _ _)));refine TD 2 ?_ (λ_ _=>rfl)))
    | (clear 30 (PE _ (.Call ..) ..);first
      |(clear 30 (PE _ _ (RE _ (Ag (run _ _) _)));refine @cP _ _ _ _ _ _ _ _ _ _ _ _ M ih hr ?_ (by rfl) (by rfl) (by rfl) (by rfl) (by rfl) (by rfl) (by decide))
      |(clear 30 (PE _ _ (RE _ (fB _ AO)));refine IX Tl Xx rfl M.i5 Yr ?_)
      |(clear 30 (PE _ _ (RX _ _ (Ag (run _ _) _)));refine @xex _ _ _ _ _ _ _ _ _ _ _ _ _ M ih hr hp ?_ (by rfl) (by rfl) (by rfl) (by rfl) (by rfl) (by rfl) (by decide))
      |(clear 30 (PE _ _ (RF _ (fBF _ Bo)));refine bg Nc Xy rfl M.gM OI ?_)
      |(clear 30 (PE _ _ (RE _ (fB _ C7)));refine IX Tk Xw rfl M.gC My ?_)
      |(clear 30 (PE _ _ (RF _ (DC (run _ _) _)));refine @fF _ _ _ _ _ _ _ _ _ _ _ _ M ih hr ?_ (by rfl) (by rfl) (by rfl) (by rfl) (by rfl) (by rfl) (by decide))
      |(clear 30 (PE _ _ (RE _ (CB _ (run _ .AL) _ _)));refine LA M.cm iS (ih .AL) hr (M.bd .AL) ?_ ?_)
      |(clear 30 (PE _ _ (RE _ (Ag (GJ (run _ _)) _)));refine dE M ih hr ?_ (by rfl) (by rfl) (by rfl) (by rfl) (by rfl) (by rfl) (by decide))
      |(clear 30 (PE _ _ (RE _ (fB _ JP)));refine IX Tm XF rfl M.i8 Yu ?_)
      |(clear 30 (PE _ _ (RE _ (objM EW _ _)));refine Q5 ?_ ?_)
      |(clear 30 (PE _ _ (RE _ (fB _ JK)));refine a9 QS Xv rfl M.hJ QQ ?_)
      |(clear 30 (PE _ _ (RE _ (CB _ (run _ .Ax) _ _)));refine LA M.cm iH (ih .Ax) hr (M.bd .Ax) ?_ ?_)
      |(clear 30 (PE _ _ (RX _ _ (KA _ _)));refine TZ (Iz .pl (ih .Bx) rfl) hr rfl (M.mgs .Bx rfl) (Fun.kp (M.fn .Bx)) (M.bd .Bx) ?_)
      |(clear 30 (PE _ _ (RE _ (fUn _ Kk)));refine Q3 ?_)
      |(clear 30 (PE _ _ (RE _ (fB _ IU)));refine Tz rfl M.gZ ?_)
      |(clear 30 (PE _ _ (RE _ (fB _ LX)));refine IX (QV rfl) UQ rfl M.i9 Yw ?_)
      |(clear 30 (PE _ _ (RF _ (fBF _ LM)));refine PK rfl rfl M.gM rfl M.gF ?_)
      |(clear 30 (PE _ _ (RE _ (findM _ _)));refine V8 ?_ ?_)
      |(clear 30 (PE _ _ (RE _ (fB _ LD)));refine IX (QT rfl) Xz rfl M.i6 Ys ?_)
      |(clear 30 (PE _ _ (RE _ (fB _ LF)));refine IX (QU rfl) XA rfl M.i7 Yt ?_)
      |(clear 30 (PE _ _ (RE _ (MH _ _ _)));refine V9 (by decide) g8 iO (ih0 .AD) hr rfl iR (M.bd .AD) ?_)
      |(clear 30 (PE _ _ (RE _ (CB _ (run _ .AJ) _ (ret []))));refine Nr M.cm iQ (ih .AJ) hr (M.bd .AJ) ?_)
      |(clear 30 (PE _ _ (RE _ (CB _ (run _ .AF) _ (ret []))));refine Nr M.cm iM (ih .AF) hr (M.bd .AF) ?_)
      |(clear 30 (PE _ _ (RE _ (Ag _ _)));refine Tx (ih .AB) hr rfl iN iL (M.bd .AB) ?_)
      |(clear 30 (PE _ _ (RE _ (CB _ (run _ .AK) _ _)));refine LA M.cm iU (ih .AK) hr (M.bd .AK) ?_ ?_))
    | (clear 30 (PE _ (.List ..) ..);first
      |refine @YS _ _ _ _ ?_)
    | (clear 30 (PE _ (.BinOp ..) ..);first
      |(clear 30 (PE _ _ (RE _ (Ac _ _ Ay)));refine IY O4 Oc ?_ ?_)
      |(clear 30 (PE _ _ (RE _ (Ac _ _ A3)));refine IY Zw XB ?_ ?_)
      |(clear 30 (PE _ _ (RE _ (Ac _ _ Ba)));refine IY WT UN ?_ ?_)
      |(clear 30 (PE _ _ (RE _ (Ac _ _ Ca)));refine IY Zz XI ?_ ?_)
      |(clear 30 (PE _ _ (RE _ (Ac _ _ Cu)));refine IY WU UO ?_ ?_)
      |(clear 30 (PE _ _ (RF _ _));refine bh R8 UM ?_ ?_)
      |(clear 30 (PE _ _ (RX _ _ (Ff _ _ Ay)));refine bu O4 Oc ?_ ?_)
      |(clear 30 (PE _ _ (RE _ (Ac _ _ Od)));refine IY Zy XG ?_ ?_))
    | (clear 30 (PE _ (.Tuple ..) ..);first
      |(clear 30 (PE _ (.Tuple _ _ _) (RE _ (AQ _)));refine @Q6 _ _ _ _ _ ?_)
      |(clear 30 (PE _ (.Tuple _ _ _) (RE _ (AQ _)));refine Q6 ?_))
    | (clear 30 (PE _ (.Attribute ..) ..);first
      |(clear 30 (PE _ _ (RE _ (EX _ _)));refine YI M.cm (by decide) ?_ rfl)
      |(clear 30 (PE _ _ (RE _ (bnd _ (Ib _))));refine YH x x.na ?_ rfl))
    | (clear 30 (PE _ (.BoolOp ..) ..);first
      |(clear 30 (PE _ _ (RE _ _));refine YN ?_)
      |(clear 30 (PE _ _ (RE _ (FH _ _)));refine YG ?_ ?_)
      |(clear 30 (PE _ _ (RE _ (Ly _ _)));refine bb ?_ ?_))
    | (clear 30 (PE _ (.UnaryOp ..) ..);first
      |(clear 30 (PE _ _ (RE _ (fUn _ HD)));refine bf ax XD ?_)
      |(clear 30 (PE _ _ (RE _ (IV _)));refine YL ?_))
    | (clear 30 (PE _ (.IfExp ..) ..);first
      |(clear 30 (PE _ _ (RE _ (fIf _ _ _)));refine TC ?_ ?_ ?_)
      |(clear 30 (PE _ _ (RX _ _ (fIf _ _ _)));refine T0 ?_ ?_ ?_))
    | (clear 30 (PE _ (.Compare ..) ..);first
      |(clear 30 (PE _ (.Compare _ [.Eq] [_] _) (RE _ (Ac _ _ (eqS _))));refine KC (R9 hr.units) (Jk (g:=id)) ?_ ?_ (DK _))
      |(clear 30 (PE _ _ (RE _ (DE _ _ _ _ _)));refine Ty NW NW LR LR ?_ ?_ ?_)
      |(clear 30 (PE _ _ (RE _ (Ac _ _ isC)));refine KC Sb Sz ?_ ?_ (DK _))
      |(clear 30 (PE _ (.Compare _ [.NotEq] [_] _) (RE _ (Ac _ _ (eqS _))));refine KC (NX hr.units) (Jk (g:=λb=>!b)) ?_ ?_ (DK _))
      |(clear 30 (PE _ _ (RE _ (Ac _ _ gtA)));refine KC Sa Pb ?_ ?_ (DK _)))
    | (clear 30 (PE _ (.Dict ..) ..);first
      |(clear 30 (PE _ _ (RE _ (FI _)));refine V7 ?_)
      |(clear 30 (PE _ _ (RE _ (Fm [])));exact Q4))
    | (clear 30 (PE _ (.ListComp ..) ..);first
      |(clear 30 (PE _ (.ListComp _ [⟨(.Name ("state":Str) _),_,_,0⟩] _ _) (RF _ (BA _ [] _ _ _ _)));refine EY (Ez ["state"] [] rfl rfl rfl rfl rfl) rfl ?_ (λ_ _ _ _ _=>?_) (λ_ _ _ _ _=>?_) (λ_ _ _ _ _=>?_))
      |(clear 30 (PE _ (.ListComp _ [⟨(.Name ("sign":Str) _),_,_,0⟩] _ _) (RF _ (BA _ [] _ _ _ _)));refine EY (Ez ["sign"] [] rfl rfl rfl rfl rfl) rfl ?_ (λ_ _ _ _ _=>?_) (λ_ _ _ _ _=>?_) (λ_ _ _ _ _=>?_))
      |(clear 30 (PE _ _ (RF _ (BA _ [0,1] _ _ _ _)));refine EY (Ez ["k"] [(0, "number"),(1, "width")] rfl rfl rfl rfl rfl) rfl ?_ (λ_ _ _ _ _=>?_) (λ_ _ _ _ _=>?_) (λ_ _ _ _ _=>?_))
      |(clear 30 (PE _ (.ListComp _ [⟨(.Name ("state":Str) _),_,_,0⟩] _ _) (RF _ (BA _ [1] _ _ _ _)));refine EY (Ez ["state"] [(1, "row")] rfl rfl rfl rfl rfl) rfl ?_ (λ_ _ _ _ _=>?_) (λ_ _ _ _ _=>?_) (λ_ _ _ _ _=>?_))
      |(clear 30 (PE _ (.ListComp _ [⟨(.Name ("word":Str) _),_,_,0⟩] _ _) (RF _ (BA _ [1] _ _ _ _)));refine EY (Ez ["word"] [(1, "row")] rfl rfl rfl rfl rfl) rfl ?_ (λ_ _ _ _ _=>?_) (λ_ _ _ _ _=>?_) (λ_ _ _ _ _=>?_))
      |(clear 30 (PE _ (.ListComp _ [⟨(.Name ("k":Str) _),_,_,0⟩] _ _) (RF _ (BA _ [] _ _ _ _)));refine EY (Ez ["k"] [] rfl rfl rfl rfl rfl) rfl ?_ (λ_ _ _ _ _=>?_) (λ_ _ _ _ _=>?_) (λ_ _ _ _ _=>?_))
      |(clear 30 (PE _ _ (RF _ (BA _ [4,3] _ _ _ _)));refine EY (Ez ["sign"] [(4, "codes"),(3, "signs")] rfl rfl rfl rfl rfl) rfl ?_ (λ_ _ _ _ _=>?_) (λ_ _ _ _ _=>?_) (λ_ _ _ _ _=>?_)))
    |(clear 30 (PE _ _ (RE _ (Ar _)));refine Wa ?_)
    |(clear 30 (PE _ _ (RE _ (Hu _)));refine YM ?_))
  | (clear 30 (PA ..);first
    |refine @Tu _ _ _ _ _ ?_ ?_ rfl
    |exact YF)
  | (clear 30 (PSs ..);first
    |refine @TW _ _ _ _ _ _ ?_ ?_
    |refine @LC _ _ _ _ ?_
    |exact Wo
    |exact(LC OU)
    |refine TX ?_
    |exact(LC Jr))
  | (clear 30 (PS ..);first
    | (clear 30 (PS _ (.Assign ..) ..);first
      |(clear 30 (PS _ _ (RSg _ _ (Ap _ (Hu (BA _ [] _ _ _ _)))));refine fs_objC (Ez ["g"] [] rfl rfl rfl rfl rfl) rfl nd rfl rfl ?_ (λ_ _ _ _ _=>?_) (λ_ _ _ _ _=>?_) (λ_ _ _ _ _=>?_))
      |(clear 30 (PS _ (.Assign [.Name _ _] _ _) (RSg _ _ (Ap _ _)));refine Nx nd rfl (.inl rfl) ?_)
      |(clear 30 (PS _ _ (RSg _ _ (NY _ _ _)));refine Y0 rfl nd rfl rfl (by decide) rfl rfl ?_ rfl)
      |(clear 30 (PS _ _ (RSg _ _ (CJ _ _)));refine YX ?_ ?_)
      |(clear 30 (PS _ _ (RSg _ _ (CU _ _)));refine YZ nd rfl (.inl rfl) ?_)
      |(clear 30 (PS _ _ (RSg _ (μX _ _) (CV _ _)));refine KZ (OY nd rfl (.inl rfl) ?_))
      |(clear 30 (PS _ _ (RSg _ _ (EN _ _ _)));refine YY M.cm (by decide) ?_ ?_)
      |(clear 30 (PS _ _ (RSX _ _ (CV _ _)));refine OY nd rfl (.inl rfl) ?_)
      |(clear 30 (PS _ (.Assign [.Name _ _] _ _) (RSg _ _ (Ap _ _)));refine Nx nd rfl (.inr rfl) ?_)
      |(clear 30 (PS _ (.Assign [.Name _ _] _ _) (RSg _ _ (Ap _ _)));refine Nx nd rfl (.inr rfl) ?_)
      |(clear 30 (PS _ _ (RSg _ _ (Ap _ (Ar (BA _ _ _ _ _ _)))));refine Wn (Ez ["side", "name", "value"] [] rfl rfl rfl rfl rfl) rfl nd rfl rfl ?_ (λ_ _ _ _ _=>?_) (λ_ _ _ _ _=>?_) (λ_ _ _ _ _=>?_)))
    | (clear 30 (PS _ (.Return ..) ..);first
      |(clear 30 (PS _ _ (RSg _ (μR _) (Al _)));refine Rh ?_)
      |(clear 30 (PS _ _ (RSg _ (μX _ _) (Al (nxD _))));refine OW ?_)
      |(clear 30 (PS _ _ (RSg _ (μX _ _) (Al _)));refine KZ (OX ?_))
      |(clear 30 (PS _ _ (RSg _ (μF _) (HJ _)));refine OV ?_)
      |(clear 30 (PS _ _ (RSg _ (μF _) (Gg _)));exact(Ri _)))
    | (clear 30 (PS _ (.If ..) ..);first
      |refine bo ?_ ?_ ?_)
    | (clear 30 (PS _ (.For ..) ..);first
      |(clear 30 (PS _ (.For _ _ _ [] _) (RSg _ _ (Bn (fEnum _) _ _)));refine fs_for2 jx rfl ?_ ?_ ?_)
      |(clear 30 (PS _ (.For _ _ _ [] _) (RSg _ _ (Bn _ _ _)));refine Re jx rfl ?_ ?_ ?_)
      |(clear 30 (PS _ (.For _ _ _ [] _) (RSg _ _ (Bn _ _ _)));refine Re ho rfl ?_ ?_ ?_))
    | (clear 30 (PS _ (.Expr ..) ..);first
      |(clear 30 (PS _ _ (RSg _ _ (ownM _ CI _)));refine PV _ ?_)
      |(clear 30 (PS _ _ (RSg _ _ (Gn _)));refine OT ?_)
      |(clear 30 (PS _ _ (RSg _ _ (ownM _ EW _)));refine PX _ ?_))
    |exact fs_pass
    |exact Jr
    |exact OU
    | (clear 30 (PS _ (.While ..) ..);first
      |refine TV jx ?_ ?_)
    | (clear 30 (PS _ (.Try ..) ..);first
      |(clear 30 (PS _ _ (RSg _ (μR _) (Fc _ _)));refine Y1 (qx:=true) x Zl rfl rfl (λpn E hp=>?_) ?_))
    | (clear 30 (PS _ (.Break ..) ..);first
      |exact TU)
    | (clear 30 (PS _ (.Raise ..) ..);first
      |(clear 30 (PS _ _ (RSg _ (μX _ _) (IG _ _)));refine KZ (Rg x xn (hr.mono (by omega)) rfl hq rfl ?_))
      |(clear 30 (PS _ _ (RSg _ (μX _ _) (IF ("Short":Str) _)));refine KZ (Rf (n:="Short") x (by decide) rfl (x0 "Short" (by decide)) rfl hq rfl ?_)))
    |refine Rh ?_
    |refine OV ?_
    |refine OW ?_
    |refine KZ (OX ?_)
    |refine OT ?_)
  | (clear 30 (PG ..);first
    | (clear 30 (PG _ (.Name ..) ..);first
      |(clear 30 (PG _ (.Name _ _) (RG _ (Aw _)));exact(DQ nd rfl (.inl rfl)))
      |(clear 30 (PG _ (.Name _ _) (RG _ (Aw _)));exact(DQ (by show List.Nodup [("side":Str),("name":Str),("value":Str)] ;decide +kernel) rfl (.inl rfl)))
      |(clear 30 (PG _ (.Name _ _) (RG _ (Aw _)));exact(DQ (by show List.Nodup [("state":Str)] ;decide +kernel) rfl (.inl rfl)))
      |(clear 30 (PG _ (.Name _ _) (RG _ (Aw _)));exact(DQ (by show List.Nodup [("sign":Str)] ;decide +kernel) rfl (.inl rfl)))
      |(clear 30 (PG _ (.Name _ _) (RG _ (Aw _)));exact(DQ (by show List.Nodup [("k":Str),("number":Str),("width":Str)] ;decide +kernel) rfl (.inl rfl)))
      |(clear 30 (PG _ (.Name _ _) (RG _ (Aw _)));exact(DQ (by show List.Nodup [("state":Str),("row":Str)] ;decide +kernel) rfl (.inl rfl)))
      |(clear 30 (PG _ (.Name _ _) (RG _ (Aw _)));exact(DQ (by show List.Nodup [("word":Str),("row":Str)] ;decide +kernel) rfl (.inl rfl)))
      |(clear 30 (PG _ (.Name _ _) (RG _ (Aw _)));exact(DQ (by show List.Nodup [("k":Str)] ;decide +kernel) rfl (.inl rfl)))
      |(clear 30 (PG _ (.Name _ _) (RG _ (Aw _)));exact(DQ (by show List.Nodup [("sign":Str),("codes":Str),("signs":Str)] ;decide +kernel) rfl (.inl rfl))))
    | (clear 30 (PG _ (.Tuple ..) ..);first
      |refine bi rfl ?_)
    | (clear 30 (PG _ (.Subscript ..) ..);first
      |refine Q8 ?_ ?_))
  | (clear 30 (PT ..);first
    | (clear 30 (PT _ (.Compare ..) ..);first
      |(clear 30 (PT _ (.Compare _ [.Eq] [_] _) (RT _ (Am (Ac _ _ (eqS _)))));refine Fo (R9 hr.units) (Jk (g:=id)) ?_ ?_ (DK _))
      |(clear 30 (PT _ (.Compare _ [.NotEq] [_] _) (RT _ (Am (Ac _ _ (eqS _)))));refine Fo (NX hr.units) (Jk (g:=λb=>!b)) ?_ ?_ (DK _))
      |(clear 30 (PT _ _ (RT _ (Am (Ac _ _ gtA))));refine Fo Sa Pb ?_ ?_ (DK _))
      |(clear 30 (PT _ _ (RT _ (Am (Ac _ _ isC))));refine Fo Sb Sz ?_ ?_ (DK _))
      |(clear 30 (PT _ _ (RT _ (Am (Ac _ _ geA))));refine Fo Zu Xt ?_ ?_ (DK _))
      |(clear 30 (PT _ _ (RT _ (Am (Ac _ _ ltA))));refine Fo Sc Pc ?_ ?_ (DK _))
      |(clear 30 (PT _ _ (RT _ (Am (Ac _ _ (inS _)))));refine Fo (Zv hr.units) (Xu (neg:=false)) ?_ ?_ (by with_unfolding_all rfl))
      |(clear 30 (PT _ _ (RT _ (Am (DE _ _ _ _ _))));refine TY NW Sc LR Pc ?_ ?_ ?_)
      |(clear 30 (PT _ _ (RT _ (Am (Ac _ _ (eqT _)))));refine Fo (NX hr.units) (Xs (g:=λb=>!b)) ?_ ?_ (DK _)))
    | (clear 30 (PT _ (.UnaryOp ..) ..);first
      |refine Y2 ?_)
    | (clear 30 (PT _ (.BoolOp ..) ..);first
      |refine bp ?_)
    |(clear 30 (PT _ _ (RT _ (Am _)));refine Y3 ?_))
  | (clear 30 (PGs ..);first
    |refine TL ?_ ?_
    |exact Wb)
  | (clear 30 (PI ..);first
    | (clear 30 (PI _ _ (.Call ..) ..);first
      |(clear 30 (PI _ _ _ (RI _ (BV _)));refine PL rfl M.gI ?_)
      |(clear 30 (PI _ _ _ (RI _ (Go _)));refine PN rfl M.gI ?_)
      |(clear 30 (PI _ _ _ (RI _ (KB _)));refine PP rfl M.gI ?_))
    |(clear 30 (PI _ _ _ (RI _ (CZ _)));refine YU ?_))
  | (clear 30 (PW ..);first
    |(clear 30 (PW _ (.BoolOp .Or (_::_::_) _) (RT _ (fOr _ _)));refine bq ?_ ?_)
    |(clear 30 (PW _ (.BoolOp .Or [_] _) (RT _ _));refine Y5 ?_)
    |(clear 30 (PW _ (.BoolOp .And (_::_::_) _) (RT _ (Il _ _)));refine Y4 ?_ ?_)
    |(clear 30 (PW _ (.BoolOp .And [_] _) (RT _ _));refine Wp ?_))
  | (clear 30 (PPf ..);first
    |refine TR ?_ ?_
    |exact Wm)
  | (clear 30 (PO ..);first
    |refine Wl ?_
    |exact Wj)
  | (clear 30 (PIf ..);first
    |exact Wc)
  | (clear 30 (PH ..);first
    |exact YT
    |(clear 30 (PH _ _ (.ExceptHandler (some (.Name _ _)) (some _) (_::_) _::_) (RH _ _ _ (hAs _ _ _ _)));refine Vk x rfl (x.ms "NoTalk" (by decide)) (x.cl "NoTalk" (by decide)) (λ_ hn=>x.subE hn (by decide)) nd rfl rfl (λy=>?_) ?_)
    |(clear 30 (PH _ _ (.ExceptHandler (some (.Name _ _)) none (_::_) _::_) (RH _ _ _ (hNo _ _ _)));refine bj x rfl (x.ms "Short" (by decide)) (x.cl "Short" (by decide)) (λ_ hn=>x.subE hn (by decide)) (λy=>?_) ?_)
    |(clear 30 (PH _ _ (.ExceptHandler (some (.Name _ _)) (some _) (_::_) _::_) (RH _ _ _ (hAs _ _ _ _)));refine Vk x rfl (x.ms "Broken" (by decide)) (x.cl "Broken" (by decide)) (λ_ hn=>x.subE hn (by decide)) nd rfl rfl (λy=>?_) ?_))
theorem all_ok(M:Md K mg A fd):∀(n:Nat) (x:Fx),okK (kd x) P w K mg base (2*n+2) (A x) (fd x) (ps x) (run n x)
 |0,x=>Ur
 |n+1,x=>by
   have ih:=all_ok M n;exact step M ih x
end
abbrev fno(x:Fx)(kV dc pm:gk)(an:Option gm)(cd ct:gk):gy:=PySem.W.fnOf (nm x) (ql x) (En (st x)) (BS (st x)) (AA (st x)) .none kV dc pm an cd ct
structure At(K:gi)(x:Fx)(f:gm)(fd:gy):Prop where
 a:me x=false->PySem.W.nsIn K mainGlobals (nm x)=some (some (.ref f))
 m:me x=true->∃C,PySem.W.nsIn K mainGlobals (ow x)=some (some (.ref C))/\PySem.W.findIn K (.ref C) (nm x)=some (some (.ref f))/\PySem.W.isFn K (.ref f)=true
 fn:Fun K (nm x) (ql x) (st x) f fd
 bd:Binds K fd (ps x) []
 eq:∃kV dc pm an cd ct,fd=fno x kV dc pm an cd ct
theorem at_mk{K:gi}{x:Fx}{f:gm}{od an:Option gm}{sl:Array (Option gk)}{oc kV dc pm cd ct:gk}(e:me x=false)(a:PySem.W.nsIn K mainGlobals (nm x)=some (some (.ref f)))(l:K.lookup f=some ⟨oc,od,.func (fno x kV dc pm an cd ct),sl⟩)(c:PySem.W.codeIn K cd (ql x)=true)(k:PySem.W.keepIn K (.ref f)=true):∃p:gm×gy,At K x p.1 p.2:=by
 refine⟨(f,fno x kV dc pm an cd ct),λ_=>a,λz=>(by rw[e] at z;cases z),GP (st:=st x) l c k,(GP (st:=st x) l c k).binds (ps:=ps x) λ_ _ _ _ _ _ us hl=>?_,_,_,_,_,_,_,rfl⟩
 cases x<;>first|(obtain rfl:=ua3 hl;rfl)|(obtain⟨_,rfl⟩:=us1 hl;rfl)|(obtain⟨_,_,rfl⟩:=us2 hl;rfl)|(obtain⟨_,_,_,rfl⟩:=us3 hl;rfl)|(obtain⟨_,_,_,_,rfl⟩:=us4 hl;rfl)|(obtain⟨_,_,_,_,_,rfl⟩:=us5 hl;rfl)|(obtain⟨_,_,_,_,_,_,rfl⟩:=us6 hl;rfl)|(obtain⟨_,_,_,_,_,_,_,rfl⟩:=us7 hl;rfl)
theorem Yq{K:gi}{x:Fx}{f C:gm}{od an:Option gm}{sl:Array (Option gk)}{oc kV dc pm cd ct:gk}(e:me x=true)(hc:PySem.W.nsIn K mainGlobals (ow x)=some (some (.ref C)))(a:PySem.W.findIn K (.ref C) (nm x)=some (some (.ref f)))(l:K.lookup f=some ⟨oc,od,.func (fno x kV dc pm an cd ct),sl⟩)(c:PySem.W.codeIn K cd (ql x)=true)(k:PySem.W.keepIn K (.ref f)=true)(t:PySem.W.isFn K (.ref f)=true):∃p:gm×gy,At K x p.1 p.2:=by
 refine⟨(f,fno x kV dc pm an cd ct),λz=>(by rw[e] at z;cases z),λ_=>⟨C,hc,a,t⟩,GP (st:=st x) l c k,(GP (st:=st x) l c k).binds (ps:=ps x) λ_ _ _ _ _ _ us hl=>?_,_,_,_,_,_,_,rfl⟩
 cases x<;>first|(obtain rfl:=ua3 hl;rfl)|(obtain⟨_,rfl⟩:=us1 hl;rfl)|(obtain⟨_,_,rfl⟩:=us2 hl;rfl)|(obtain⟨_,_,_,rfl⟩:=us3 hl;rfl)|(obtain⟨_,_,_,_,rfl⟩:=us4 hl;rfl)|(obtain⟨_,_,_,_,_,rfl⟩:=us5 hl;rfl)|(obtain⟨_,_,_,_,_,_,rfl⟩:=us6 hl;rfl)|(obtain⟨_,_,_,_,_,_,_,rfl⟩:=us7 hl;rfl)
theorem xm_all{K:gi}{h:Heap}{mg:Str->Option gk}{P c1 c2 c3:gm}{f:gm}{od an:Option gm}{sl:Array (Option gk)}{oc kV dc pm cd ct:gk}(X:K.In h)(G:h.Ns mainGlobals mg)(p:PySem.W.nsIn K mainGlobals "ParleyError" = some (some (.ref P)))(a1:PySem.W.nsIn K mainGlobals "Short" = some (some (.ref c1)))(a2:PySem.W.nsIn K mainGlobals "Broken" = some (some (.ref c2)))(a3:PySem.W.nsIn K mainGlobals "NoTalk" = some (some (.ref c3)))(q:QF K P [c1,c2,c3]=true)(nd:[P,c1,c2,c3].Nodup)(fi:PySem.W.findIn K (.ref c3) "__init__" = some (some (.ref f)))(l:K.lookup f=some ⟨oc,od,.func (PySem.W.fnOf "__init__" "NoTalk.__init__" (En (Ch (top 4) 0)) (BS (Ch (top 4) 0)) (AA (Ch (top 4) 0)) .none kV dc pm an cd ct),sl⟩)(ii:Ny K c3 f=true)(hf:PySem.W.isFn K (.ref f)=true)(hs:PySem.W.findIn K (.ref c3) "__setattr__" = some (some (.builtin "object.__setattr__")))(cc:PySem.W.codeIn K cd "NoTalk.__init__" = true)(k:PySem.W.keepIn K (.ref f)=true)(n1:NQ K c1=true):∃(P:gm) (ca:Str->gm),XM K mg P ca/\XF1 K (ca "NoTalk") P "NoTalk.__init__" (Ch (top 4) 0)/\∀n∈(["Short"]:List Str),XN0 K (ca n):=by
 have x:=c7 X G p a1 a2 a3 q nd;refine⟨P,_,x,aQ (C:=c3) (st:=(Ch (top 4) 0)) ⟨x.cl "NoTalk" (by decide),x.kp "NoTalk" (by decide),x.gt "NoTalk" (by decide),x.gc "NoTalk" (by decide),x.na "NoTalk" (by decide),x.nd "NoTalk" (by decide)⟩ ii hf hs l cc k (λ_ _ _ _ _ _ us hl=>by match us,hl with|[_,_],_=>rfl),?_⟩;intro n hn;simp only[uk9,uh6,jV] at hn;rcases hn with rfl
 .exact aR n1
theorem fin_mk{K:gi}{h:Heap}{mg:Str->Option gk}{fa:gm}(X:K.In h)(G:h.Ns mainGlobals mg)(hmg:mg "law" = some (.ref fa))(H:∀x:Fx,∃p:gm×gy,At K x p.1 p.2)(gX:PySem.W.nsIn K mainGlobals "bool" = some none)(gZ:PySem.W.nsIn K mainGlobals "dict" = some none)(hJ:PySem.W.nsIn K mainGlobals "int" = some none)(gC:PySem.W.nsIn K mainGlobals "isinstance" = some none)(i5:PySem.W.nsIn K mainGlobals "len" = some none)(gM:PySem.W.nsIn K mainGlobals "list" = some none)(i6:PySem.W.nsIn K mainGlobals "max" = some none)(i7:PySem.W.nsIn K mainGlobals "min" = some none)(i8:PySem.W.nsIn K mainGlobals "ord" = some none)(gI:PySem.W.nsIn K mainGlobals "range" = some none)(gF:PySem.W.nsIn K mainGlobals "reversed" = some none)(i4:PySem.W.nsIn K mainGlobals "str" = some none)(i9:PySem.W.nsIn K mainGlobals "sum" = some none)(gP:PySem.W.nsIn K mainGlobals "tuple" = some none){hV:Tok}(gA:PySem.W.nsIn K mainGlobals "FIRST_SIGN" = some (some (.int 32 hV))){hX:Tok}(gB:PySem.W.nsIn K mainGlobals "LAST_SIGN" = some (some (.int 126 hX))){gS:Tok}(g9:PySem.W.nsIn K mainGlobals "PERCENT_SIGN" = some (some (.int 37 gS))){iJ:Tok}(gH:PySem.W.nsIn K mainGlobals "SIGNS" = some (some (.str " !\"#$ &'()*+,-./0123456789:;<=>?@ABCDEFGHIJKLMNOPQRSTUVWXYZ[\\]^_`abcdefghijklmnopqrstuvwxyz{|}~" iJ)))(xm:∃(P:gm) (ca:Str->gm),XM K mg P ca/\XF1 K (ca "NoTalk") P "NoTalk.__init__" (Ch (top 4) 0)/\∀n∈(["Short"]:List Str),XN0 K (ca n)){gQ gL:gm}(iG:PySem.W.nsIn K mainGlobals "Side" = some none)(i0:PySem.W.nsIn K mainGlobals "Lasting" = some none)(iA:PySem.W.nsIn K mainGlobals "Parley" = some none)(hU:PySem.W.nsIn K mainGlobals "Listener" = some none)(iE:PySem.W.nsIn K mainGlobals "Relay" = some none)(iI:PySem.W.nsIn K mainGlobals "Desk" = some none)(gG:PySem.W.nsIn K mainGlobals "Hearer" = some (some (.ref gQ)))(g8:PySem.W.nsIn K mainGlobals "Reader" = some (some (.ref gL)))(iD:PC K gL=true)(iC:P7 K gL=true)(gK:PySem.W.findIn K (.ref gL) "state" = PySem.W.findIn K (.ref gQ) "state")(gO:PySem.W.findIn K (.ref gL) "hear" = PySem.W.findIn K (.ref gQ) "hear")(gE:PySem.W.findIn K (.ref gL) "unread_of" = PySem.W.findIn K (.ref gQ) "unread_of")(iB:byB K gQ "__init__" = true):∃(A:Fx->gm) (fd:Fx->gy),Md K mg A fd/\A .law_=fa/\∀(s:gn) (u:gk),BindsTo s (fd .law_) ⟨[u],[]⟩ [("script",u)]:=by
 clear 5(Classical.axiomOfChoice H)F hF;have fm:∀x,me x=true->∀C,PySem.W.nsIn K mainGlobals (ow x)=some (some (.ref C))->PySem.W.findIn K (.ref C) (nm x)=some (some (.ref (F x).1))/\PySem.W.isFn K (.ref (F x).1)=true:=λx hx C h=>by
  clear 5((hF x).m hx)C e1 e2 e3;have e4:=e1.symm.trans h
  cases e4
  exact⟨e2,e3⟩
 have i3:=fm .AB rfl _ gG;have gU:=fm .AJ rfl _ gG;have gY:=fm .AK rfl _ gG;have gJ:=fm .Ax rfl _ gG;have gN:=fm .AD rfl _ g8;have gW:=fm .AL rfl _ g8;have gR:=fm .AF rfl _ g8;have cm:CM K:=aX λn hn=>by
  simp only[Lv,uk9,uh6,jV] at hn;rcases hn with rfl|rfl|rfl|rfl|rfl|rfl|rfl
  .exact .inr ⟨_,g8,iD⟩
  .exact .inl iG
  .exact .inl i0
  .exact .inl iA
  .exact .inl hU
  .exact .inl iE
  .exact .inl iI
 refine⟨λx=>(F x).1,λx=>(F x).2,{fn:=λx=>(hF x).fn,mgs:=λx e=>um0 X G ((hF x).a e),bd:=λx=>(hF x).bd,cm:=cm,M2:=⟨_,g8,um0 X G g8,bE iC gN.1 gN.2,⟨gW.1,gW.2,Fun.kp (hF .AL).fn⟩,⟨gR.1,gR.2,Fun.kp (hF .AF).fn⟩,⟨gK.trans gU.1,gU.2,Fun.kp (hF .AJ).fn⟩,⟨gO.trans gY.1,gY.2,Fun.kp (hF .AK).fn⟩,⟨gE.trans gJ.1,gJ.2,Fun.kp (hF .Ax).fn⟩⟩,iF:=⟨_,um0 X G gG,aV iB i3.1 (Fun.kp (hF .AB).fn)⟩,xm:=xm,gX:=uf3 X G gX,gZ:=uf3 X G gZ,hJ:=uf3 X G hJ,gC:=uf3 X G gC,i5:=uf3 X G i5,gM:=uf3 X G gM,i6:=uf3 X G i6,i7:=uf3 X G i7,i8:=uf3 X G i8,gI:=uf3 X G gI,gF:=uf3 X G gF,i4:=uf3 X G i4,i9:=uf3 X G i9,gP:=uf3 X G gP,gA:=⟨hV,um0 X G gA⟩,gB:=⟨hX,um0 X G gB⟩,g9:=⟨gS,um0 X G g9⟩,gH:=⟨iJ,um0 X G gH⟩ },?_,λs u=>?_⟩
 .have e:=hmg.symm.trans (um0 X G ((hF .law_).a rfl))
  cases e
  rfl
 .obtain⟨_,_,_,_,_,_,e⟩:=(hF .law_).eq;show BindsTo s (F .law_).2 _ _;rw[e];exact .of_eq rfl
theorem walk{l:PySem.W.OpenLaw}{q:gq}{loose:List Str}{XP:(Str->Option gk)->Heap->Prop}{YP:gu->Heap->Prop}{d:DefRec}{K:Params->gi}(m:Nat)(hm:Room (2*m+2) callerA)(hn:l.most=some 63)(hdf:d.params.defaults=[])
 (hY:∀(w:gu) (h:Heap),YP w h->(K w.params).In h) (lt:∀ns:List Int,ns.length<=63->∃S',run m .law_ [.scr ns] []=some (.bl true,S'))
 (F:∀(w:gu) (mg:Str->Option gk) (fa:gm) (h:Heap),(K w.params).In h->h.Ns mainGlobals mg->mg d.name=some (.ref fa)->
   ∃(A:Fx->gm) (fd:Fx->gy),Md (K w.params) mg A fd/\A .law_=fa/\∀(s:gn) (u:gk),BindsTo s (fd .law_) ⟨[u],[]⟩ [("script",u)]) :
 PySem.W.WalkO q loose XP YP l.row.toRowW d [] (λf vs=>PySem.call f vs):=
 L2.X9 (n:=63) (k:=2*m+2) (x:="script") (CX:=λ_=>CX0) (sp:=λw=>spF (K w.params) (run m .law_)) hn (by decide) hdf hm hY
  (λw mg fa h KX G hmg=>by clear 5(F w mg fa h KX G hmg)A fd M e b;subst e;exact⟨fd .law_,b,λbase _ _=>all_ok M m .law_⟩)
  (λw H a ns hl hO hS=>by clear 5(lt ns hl)S' e;exact RB hO hS e) λ_ _ _ _ _ z=>z
theorem R3(k:Nat):OE (run (k+1) .CF):=λd h=>NB h
theorem Lc(k:Nat):Hj (run (k+2) .AZ):=SY (R3 k)
theorem Of(k:Nat):Kf (run (k+1) .C6):=P0
theorem UX(k:Nat):MP (run (k+2) .CD):=Nw (Of k)
theorem JH:∀(n k:Nat),2*n+3<=k->FS (run k .EB) n
 |0,k,_=>λs hs=>absurd s.depth_pos (by lia)
 |n+1,k,h=>by
   obtain⟨j,rfl⟩:∃j,k=j+4:=iz (by lia);have ih:=JH n (j+2) (by lia);exact Wg (LB ih (Lc j)) (Nv ih) (Nu ih) (UX (j+1)) (Lc (j+1))
theorem NC(k:Nat):HY (run (k+1) .C8):=Wz
theorem Uq(k:Nat):MN (run (k+2) .BP):=WP (NC k)
theorem Ph(k:Nat):Kj (run (k+1) .BK):=Vb
theorem Nt:∀(n k:Nat),n+3<=k->IN (run k .Bf) n
 |0,k,_=>λs hs=>absurd s.depth_pos (by lia)
 |n+1,k,h=>by
   obtain⟨j,rfl⟩:∃j,k=j+3:=iz (by lia);exact We (Nt n (j+2) (by lia)) (Ph (j+1)) (Uq j)
theorem M1(k:Nat):BXw (run (k+1) .CK):=Yx
theorem ay(k:Nat):UXn (run (k+2) .BC):=az (M1 k)
theorem ak(k:Nat):SXn (run (k+2) .DM):=al (Of k) (M1 k)
theorem N4:∀(n k:Nat),2*n+4<=k->H9 (run k .Bq) n
 |0,k,_=>λs hs=>absurd s.depth_pos (by lia)
 |n+1,k,h=>by
   obtain⟨j,rfl⟩:∃j,k=j+5:=iz (by lia);exact Qn rfl rfl rfl rfl rfl (ay (j+1)) (ak (j+1)) (NC (j+2)) (M1 (j+2)) (Ph (j+2)) (N4 n (j+3) (by lia))
theorem WF(k:Nat):Ta (run (k+11) .BQ):=WE (N4 3 (k+10) (by lia))
theorem KW(k:Nat):IR (run (k+12) .Df):=OC (WF k)
theorem Qu(k:Nat):Lh (run (k+13) .DN):=OD (KW k)
theorem T6(k:Nat):FG (run (k+13) .AK):=Rk (KW k)
theorem TJ(k:Nat):FG (run (k+14) .AL):=TH (T6 k)
theorem Eo(k:Nat):Ej (run (k+1) .Bx):=Ru
theorem Rj(k:Nat):Pk (run (k+2) .BO):=T3 (Eo k)
theorem Rm(k:Nat):Lf (run (k+3) .AB):=T8 (Rj k)
theorem Ua(k:Nat):J8 (run (k+4) .AD):=Wu (Rm k)
theorem Ft(k:Nat):ER (run (k+2) .B6):=Vc (Eo k)
theorem KR(k:Nat):FU (run (k+3) .Bp):=GX (Ft k)
theorem KS(k:Nat):Hg (run (k+10) .B0):=MB (JH 3 (k+9) (by lia)) (KR (k+6))
theorem HE(k:Nat):GM (run (k+1) .BD):=WM
theorem Mr(k:Nat):Kh (run (k+11) .Ce):=XS (HE (k+9)) (KS k)
theorem Um(k:Nat):Pp (run (k+7) .By):=Zk (Nt 3 (k+6) (by lia))
theorem SX(k:Nat):MV (run (k+12) .Cg):=Ye (Um (k+4)) (Mr k)
theorem Hm(k:Nat):GL (run (k+12) .A0):=Tg (HE (k+10)) (Mr k)
theorem OA(k:Nat):Lg (run (k+3) .Bp):=UC (Ft k)
theorem Qh(k:Nat):Jy (run (k+10) .B0):=Sj (JH 3 (k+9) (by lia)) (OA (k+6))
theorem K4(k:Nat):Kg (run (k+11) .Ce):=XR (HE (k+9)) (KS k) (Qh k)
theorem QD(k:Nat):MU [] (run (k+12) .Cg):=Yd (K4 k)
theorem MY(k:Nat):Pi (run (k+12) .A0):=aU (K4 k)
theorem Ud(k:Nat):S9 (run (k+13) .Dq):=bA (Eo (k+11)) (Hm k)
theorem Uc(k:Nat):Pn (run (k+13) .Dq):=bz (MY k)
theorem SV(k:Nat):MT (run (k+13) .CY):=Yc (Hm k) (Eo (k+11))
theorem WB(k:Nat):LNo (run (k+13) .BN):=Zg (MY k) (QD k)
theorem Ku(k:Nat):Le (run (k+1) .A5):=Kw
theorem NR(k:Nat):IP (run (k+2) .A8):=Lx (Eo k)
theorem NK(k:Nat):Ka (run (k+3) .AS):=Lw (Ft k) (Ku (k+1))
theorem SQ(k:Nat):Ki (run (k+4) .Br):=Ni (NK k) (NR (k+1))
theorem Ul(k:Nat):MM (run (k+5) .CW):=Ov (SQ k)
theorem Qi(k:Nat):Jz (run (k+2) .Bl):=Jp (Ku k)
theorem Ya(k:Nat):Pv (run (k+6) .Eu):=SU (Ku (k+4)) (Qi (k+3)) (Ft (k+3)) (SQ (k+1)) (Ul k)
theorem Qs(k:Nat):JA (run (k+4) .B5):=LV (Eo (k+2)) (HE (k+2)) (KR k)
theorem R4(k:Nat):Pq (run (k+5) .CH):=NU (NK (k+1)) (Ku (k+3)) (Ft (k+2)) (NR (k+2)) (Qs k)
theorem Mq:∀(d k:Nat),d+1<=k->Ia (run k .BX) d
 |0,k,h=>by
   obtain⟨j,rfl⟩:∃j,k=j+1:=iz (by lia);exact US
 |d+1,k,h=>by
   obtain⟨j,rfl⟩:∃j,k=j+1:=iz (by lia);exact UT (Mq d j (by lia))
theorem Pf:∀(n k:Nat),n<=k->MQ (run k .BY) n
 |0,k,_=>SR
 |n+1,k,h=>by
   obtain⟨j,rfl⟩:∃j,k=j+1:=iz (by lia);exact XY (Pf n j (by lia))
theorem RC:∀(n k:Nat),n+1<=k->Pj (run k .BW) n
 |0,k,_=>λs hs=>absurd s.depth_pos (by lia)
 |n+1,k,h=>by
   obtain⟨j,rfl⟩:∃j,k=j+2:=iz (by lia);exact VR (RC n (j+1) (by lia)) Zn
theorem T5:GrN (run 99 .BM):=dO (Mq 2 98 (by decide)) Ih bD
theorem law_true(ns:List Int)(h:ns.length<=63):∃S',run 100 .law_ [.scr ns] []=some (.bl true,S'):=by
 clear 5(bB (Zh (Uc 85) (WB 85) Ih) (Ya 93) (R4 94) (SV 86) (Ud 86) (Qu 86) Ih (bC (TJ 84) Ih (Ua 94)) (Hm 87) (SX 87) (au (RC 3 98 (by decide)) (Pf 3 98 (by decide)) Ih) T5 (ns:=ns))r S' e p;subst p;exact⟨S',e⟩
end K96
structure PySem.W.Fast:Prop where(tw10013151317182890164 tw1004341402846392464 tw10054085438984497364 tw10071110629235839254 tw10096273942744673590 tw10223482334278300752 tw10237293095565718561 tw10264512784083070374 tw10273793823347267260 tw10286419139006090598 tw10349791360676120012 tw10352990636969618472 tw10432536984182731145 tw10453757685149639530 tw10470748494426315800 tw10476930613813500674 tw10478036125211764944 tw10499081416332383212 tw10573082584011325300 tw10620157333469464512 tw10623567572773847086 tw10668033522544769765 tw10721436733214420379 tw10732634346079038843 tw10780831959145697548 tw10792595002415719764 tw1079911346670663202 tw10841486684123607242 tw10851237045250874210 tw10853473552080491163 tw10866177480312965010 tw10908071205589782250 tw10961224237970730683 tw10975897894296205503 tw11014565482693293254 tw11014577273028057887 tw11030396828053650391 tw11051205924414752451 tw11064495613429841475 tw11090116207327339842 tw11139984146938790132 tw11171977913942266445 tw1117698482211701345 tw11181534627963893280 tw11222407540831855390 tw11249452714768564010 tw11271084252976379870 tw11306723901550762185 tw11351868119374294914 tw1140057434693262711 tw1140291787460196656 tw11442164696730995170 tw11508836779883926900 tw1155735996444179785 tw11560841669401628173 tw11661763951469211647 tw11662224332272491478 tw11665945841012655446 tw11666025664397907789 tw11673165341055408080 tw11716902911482194697 tw117502499323055537 tw11809369389804541882 tw11833090189771902131 tw11840666863181289301 tw11890700515641053352 tw11913724497485118869 tw11917992439043285867 tw11927510037384201120 tw11984145964711234186 tw1202693377564152473 tw12137325126917784455 tw12214813214753147421 tw12224373227176310229 tw12238575525845598801 tw1233332590663707902 tw12349211212971781418 tw1237191298530872361 tw12381902019111581287 tw12405037479556514723 tw12492194106969429239 tw12601166539670227483 tw1262016590140441757 tw12623047917070866367 tw12721016477795831308 tw12767570849409991531 tw12769196841729277564 tw12780084606847892853 tw12807412395553193643 tw12813032600161233901 tw1283010804321905486 tw12845117337449293767 tw12846597019363465958 tw12865660175482667742 tw1291158700981318488 tw12918657243834157486 tw129828254794175302 tw1304325532255493853 tw1305646729778516983 tw13082757123488378060 tw13105060107321291518 tw13353810524837531465 tw13364609618843787376 tw13382332849278900459 tw13403721950886444484 tw13498223376750668626 tw13523180341118672077 tw13533815572871913657 tw13537373850632316725 tw13552986922772903193 tw13604231978493795120 tw13626953979667438837 tw13629434048696929033 tw13681019635706795923 tw13683562109194038266 tw13737178799352976063 tw13767053235084345606 tw13839869947338808668 tw1388870556017112382 tw13933556950593943079 tw13940061680448309171 tw13963763052103926492 tw13986909913962561346 tw14044879972155315156 tw1405637825196906695 tw14073123188320816906 tw14082532830607904335 tw14127192951931714834 tw1413230853619352906 tw14190453291683732908 tw14224078917481630867 tw14261626149272936273 tw14270579133341343411 tw14286138576443625183 tw1430607713469905303 tw14325500979951177435 tw1435863873111394889 tw14396403255778349224 tw14436708443924705651 tw14439505635129579546 tw14440317763584675140 tw14457967185842824507 tw14551545993490448160 tw14611261825497321975 tw14649004672943167950 tw14697939896180465468 tw14737433375620052630 tw14750750925664119873 tw14810002118086262463 tw14860268247536968467 tw14870019637537797561 tw14872687263090107187 tw14968473183472017480 tw14980751200272383807 tw15045135015429555021 tw15107599548094994538 tw15129540618794870338 tw1513723560836566271 tw15292265327297989813 tw15303548371599949883 tw153286869673619806 tw15341784687586139966 tw1538609633552024089 tw15435476529245121213 tw15497410854343101706 tw15605395661179096184 tw15625653616630598984 tw15686980398760278951 tw15789631336006457306 tw15880825550413052854 tw1590952309974335669 tw15914938180982032423 tw15918005487484705102 tw15919702620201507225 tw1593518727044873508 tw15971582277256724659 tw15981649281264493543 tw16012916421856489077 tw16046936707387151757 tw16109670679486013529 tw16124635044618769974 tw16159074030817880114 tw16188505745163314563 tw16192144892154959728 tw1624692816917909912 tw16284108831721166927 tw16339038903876115229 tw1636259152654141614 tw16406100245213381732 tw16433522471675682803 tw16469115445411399985 tw1647402923820512710 tw164864568765512370 tw16512073585107134141 tw16523173636226093469 tw16551054154317925803 tw1655337837397381262 tw16608079866762111909 tw16635957210225698024 tw16638572731754358315 tw16639239430853951155 tw16655874357880851213 tw16670223228736763501 tw16756219125530017082 tw16804336934778606120 tw16830850249946818056 tw16836559984613715722 tw16950292253709866806 tw16989186606981247468 tw17036341396201231777 tw17105711615541549020 tw17124797557637201692 tw17130336155359901273 tw17150405959333016305 tw17223238851611819506 tw17384274997505853438 tw17480946180089971423 tw17538738768599359511 tw1754036218571827169 tw17541501775223169064 tw17589218058321615983 tw17596356878561335653 tw17605860954090792538 tw17629706109071176595 tw17630878100575842874 tw1771127147593598448 tw17788332035116847959 tw17794667110053003960 tw17827600754330246817 tw17872126295379811603 tw17928204871415583788 tw17938343853193030553 tw17942489893571640632 tw17969213653581407084 tw17978820107116168322 tw17991485349070252993 tw18085579929501870078 tw18107512042125216715 tw18121372145342387636 tw18149060127516415698 tw18174627212735730478 tw18198356323623208096 tw18224680420459799834 tw18225123658772944615 tw18241980954552668636 tw18246078173304163919 tw18248435091789422349 tw18326361431383886621 tw18330264454424170495 tw18351861281978495279 tw18366472724689596926 tw18423557234175786004 tw1883504835795672878 tw1891363255025719085 tw1899019991074711140 tw1945031022164761012 tw1948700612595546838 tw1950952368987728439 tw2002787788839033158 tw2009268530101437367 tw2033721890739391347 tw2034405538527218249 tw2084788010454910593 tw2210365426500435920 tw2310610451104929165 tw2329640278769606728 tw240098893353518419 tw240855044131676601 tw242003412260547231 tw2431426769938068552 tw2440527949857855118 tw2446628391080688184 tw2462395416579486532 tw2479471523363808705 tw2510273903151842160 tw2522984656887325956 tw2533298368122150333 tw2535506978816255592 tw2563056061567860103 tw259905343588229386 tw2651351708999904314 tw2683986318949825152 tw2708006649642143098 tw2717639651065870512 tw2726666735753475125 tw2792821925980361612 tw2812739595559248494 tw2821406995753547571 tw2841041480563480297 tw2860663766103747086 tw290605787692554366 tw2937249039419063662 tw2952222119596135471 tw3030760618131042405 tw3043009561767931141 tw3171401570237767402 tw3204923182041809869 tw3211870003233905918 tw3233352112266925130 tw3274504337524627576 tw329653296887450606 tw3300989633044347035 tw3310506446540354151 tw3345550897404723673 tw3355465323762258735 tw3360827722512699860 tw3415917120054892188 tw3429155102838672623 tw3456031223529672531 tw3522546597231961514 tw3546888080080872209 tw359150537833241924 tw3607013000643342528 tw3652166392927262598 tw3670141443835704486 tw3674952492538631050 tw378100721707567209 tw3791838155374527250 tw3817006698711075408 tw3919587579927457453 tw3968698783971602079 tw3978178879391762066 tw4086798376472502156 tw4087426198638532163 tw4203211998384928415 tw422485792934683666 tw4228915705259472209 tw4316406253353414082 tw4344674328949905687 tw4419741007569456641 tw4433938743770216199 tw4467484696386443666 tw4469298738896462200 tw4528637895130834588 tw4553403154344380217 tw4588051735850316249 tw4619120046039823919 tw4622784929243664254 tw462717355742362455 tw464212645310918436 tw4714554393257390353 tw4787298553920123699 tw480390027460141268 tw4823533840559899461 tw4862000580889187828 tw4914447597510044080 tw4920290962428079416 tw4922712840443252084 tw4960795875168929264 tw5029216178205141521 tw5050870624336453466 tw5098932918727492092 tw5141384365576267099 tw5185351366091959363 tw5231868471639908959 tw5239408782752856200 tw5257449999372460324 tw5287196077599554234 tw5314188509195112208 tw531822301322221681 tw5345979539999996677 tw5486582600710272424 tw5510123282373071808 tw5554443445893070483 tw5559412306179860975 tw558830119355960869 tw5612102443652030686 tw5633832492596332319 tw5638940074315385423 tw56429174039035147 tw5650481745964899181 tw5691434634900256895 tw5767284111376816407 tw579944769703764605 tw581662452692686580 tw5842859910314239940 tw5866583089681322201 tw587595200850236227 tw5909841863635387080 tw594847045126611750 tw595972470333340083 tw6060034703246058071 tw6223415012802657876 tw6237451383024636185 tw6297284018902483766 tw6317320882807871928 tw6329454995783303174 tw6374932527194004623 tw6410088168062461631 tw6424528893277533146 tw643017127239745417 tw6448900451256406907 tw6473940227871712650 tw6482312282405929134 tw650379908681568172 tw6569768330438836906 tw6594636529199190101 tw6629589853185163582 tw6635176500388300745 tw6645790110353905431 tw6664283445678593192 tw6708007689208592203 tw6748893670417506594 tw6800747270243953333 tw6831630984262695740 tw6874018151876398617 tw6886545915699380672 tw6894117929214664340 tw6928213560661031015 tw694963707763562985 tw6955042595117518621 tw6969050591012411225 tw6981495520439579700 tw7008848770350899986 tw7039873683395453560 tw7074012469542051884 tw7077559007058115075 tw7087000473645797791 tw712657036057372387 tw7172743356826008911 tw7347279348977999487 tw7361103004822168213 tw7367019408280031793 tw7422729273132049119 tw7436587072549257712 tw745256415129412978 tw7486878503822042483 tw7525432585990955978 tw7610129928325031158 tw7656388060318850778 tw7756111325947543609 tw781947977961683638 tw7842770095856862108 tw7853276618067417887 tw7869075997209242794 tw7889603471409489183 tw7896808339183269063 tw7897513026297583745 tw7984878294813913239 tw802086550590942188 tw8141488518034063842 tw8154855624488652062 tw8160566817484772190 tw8250761482158146946 tw8292307613729507233 tw8311629673966283319 tw8324272085912201203 tw8454631995329217712 tw8509086383569333540 tw8614050557087148068 tw8619068457088203015 tw8642547782181214537 tw8660578053189610030 tw8664293525613234816 tw8687731356289274125 tw872440969925726602 tw87738163169162689 tw8803012803381048302 tw8878018793312527340 tw8914348776549985453 tw8923232710421522919 tw8927661420257423401 tw8929157474664165800 tw8949410875173477174 tw8959956053768602618 tw9052543903429165709 tw9059264880410862063 tw9088875084745420564 tw9209066454863729099 tw9210784254242756666 tw9265953325352780703 tw9267627584856896691 tw9272456570551799175 tw9325355737940663695 tw9346583010025584011 tw9406450529712350482 tw9460284679273333018 tw9472294236283073846 tw9511214349794011890 tw9515187017082644881 tw9555141827005708741 tw9558025709819229069 tw9563998771545338666 tw9569521546842716176 tw9594976147305561765 tw9615898908706095767 tw9624121426232325375 tw9650244948840489945 tw965179370062351062 tw9672921709369344667 tw9741009088624591346 tw9766959503195398758 tw9792283189751259574 tw9807430242532374146 tw9857699117068555609 tw9965635939868886829 tw9970435685341606829:True)
open PySem PySem.W PyProof.Rows
set_option maxRecDepth 100000 in
set_option maxHeartbeats 0 in
theorem PySem.Challenge.cw_wireparley_k96_whole_one_talk_everywhere_holds : PySem.Challenge.rw_wireparley_k96_whole_one_talk_everywhere.Holds := by
 w_on;o_law;k_head;(case hw=>w_witness2)
 k_fill
 refine K96.walk (l:=PySem.Challenge.rw_wireparley_k96_whole_one_talk_everywhere) 100 ⟨rfl,by decide,by decide⟩ rfl rfl (λw h Y=>PySem.W.kIn_of Y) K96.law_true ?F
 case F=>
  intro w mg fa h KX G hmg;refine' K96.fin_mk KX G hmg ?H ?gX ?gZ ?hJ ?gC ?i5 ?gM ?i6 ?i7 ?i8 ?gI ?gF ?i4 ?i9 ?gP ?gA ?gB ?g9 ?gH ?xm ?iG ?i0 ?iA ?hU ?iE ?iI ?gG ?g8 ?iD ?iC ?gK ?gO ?gE ?iB
  (case H=>intro x;cases x<;>first|(refine' K96.at_mk rfl ?a ?l ?c ?k;(case a=>k_is);(case l=>k_is);(case c=>k_is);(case k=>k_is))|(refine' K96.Yq rfl ?h ?a ?l ?c ?k ?t;(case h=>k_is);(case a=>k_is);(case l=>k_is);(case c=>k_is);(case k=>k_is);(case t=>k_is)))
  (case iG=>k_is)
  (case i0=>k_is)
  (case iA=>k_is)
  (case hU=>k_is)
  (case iE=>k_is)
  (case iI=>k_is)
  (case gG=>k_is)
  (case g8=>k_is)
  (case iD=>kernel_rfl)
  (case iC=>kernel_rfl)
  (case gK=>kernel_rfl)
  (case gO=>kernel_rfl)
  (case gE=>kernel_rfl)
  (case iB=>kernel_rfl)
  (case gX=>k_is)
  (case gZ=>k_is)
  (case hJ=>k_is)
  (case gC=>k_is)
  (case i5=>k_is)
  (case gM=>k_is)
  (case i6=>k_is)
  (case i7=>k_is)
  (case i8=>k_is)
  (case gI=>k_is)
  (case gF=>k_is)
  (case i4=>k_is)
  (case i9=>k_is)
  (case gP=>k_is)
  (case gA=>k_is)
  (case gB=>k_is)
  (case g9=>k_is)
  (case gH=>k_is)
  (case xm=>refine' K96.xm_all KX G ?x_p ?x_a1 ?x_a2 ?x_a3 ?x_q ?x_nd ?x_fi ?x_l ?x_ii ?x_hf ?x_hs ?x_cc ?x_k ?x_n1;(case x_p=>k_is);(case x_a1=>k_is);(case x_a2=>k_is);(case x_a3=>k_is);(case x_q=>kernel_rfl);(case x_nd=>decide);(case x_fi=>k_is);(case x_l=>k_is);(case x_ii=>kernel_rfl);(case x_hf=>k_is);(case x_hs=>k_is);(case x_cc=>k_is);(case x_k=>k_is);(case x_n1=>kernel_rfl))
