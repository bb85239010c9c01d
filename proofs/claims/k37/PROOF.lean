import PyProof.Rows.All
import Wide.All
import OpenK.AllK
import PySem.Challenge.RW_wireparley_k37_parleys_in_any_order
set_option linter.all false
set_option hygiene false
set_option tactic.hygienic false
set_option compiler.extract_closed false
set_option bootstrap.genMatcherCode false
set_option genSizeOf false
noncomputable section
abbrev ie:=PySem.Value
abbrev ig:=PySem.Addr
abbrev ij:=PySem.Shared
abbrev im:=PySem.Program
abbrev ir:=PySem.World
abbrev iu:=PySem.FuncData
def iy:=@PySem.plainObj_wpAny_Assign_Attribute
def iz:=@PySem.Calls.Name_function_global
def ja:=@Int.fdiv_eq_ediv_of_nonneg
def jb:=@PySem.F.excBase_ValueError
def je:=@PySem.wpAny_check_type_call_sub
def jf:=@PySem.codeAny_call_builtin_code
def jg:=@Array.getElem?_eq_getElem
def ji:=@List.findIdx?_eq_none_iff
def jj:=@List.getElem?_eq_none_iff
def jk:=@PySem.F.slot_list_append
def jm:=@PySem.F.type_list_append
def jn:=@PySem.F.slot_list_extend
def jq:=@PySem.F.type_list_extend
def jr:=@List.eq_of_mem_replicate
def jt:=@Nat.exists_eq_add_of_le'
def ju:=@decide_eq_false_iff_not
def jv:=@PySem.W.cellsFrom_some
def jy:=@List.drop_eq_nil_of_le
def kc:=@List.drop_of_length_le
def ke:=@List.length_singleton
def kf:=@Array.getElem?_toList
def kg:=@Nat.le_of_ble_eq_true
def kh:=@PySem.Obj.isFreed_of_fields
def ki:=@Bool.and_eq_false_iff
def kj:=@PySem.codeAny_call_builtin
def kl:=@beq_eq_false_iff_ne
def km:=@PySem.mem_of_lookup
def kn:=@PySem.wpAny_isSubtype_exc
def kq:=@PySem.wpAny_Call_Name_kw
def kr:=@PySem.Code.quiet_builtin
def kt:=@of_decide_eq_false
def ku:=@PySem.wpAny_truthy_bool
def ky:=@PySem.wpAny_newObj_type
def kz:=@PySem.wpAny_loadPart_at
def kN:=@PySem.wpAny_execs_nil
def kO:=@PySem.wpAny_passesOwn
def kP:=@PySem.wpAny_specialOf
def kQ:=@PySem.wpAny_updateSeq
def kS:=@PySem.PassesOwn.never
def kT:=@PySem.wpAny_setField
def kU:=@PySem.wpAny_standAt
def kW:=@List.map_take
def kX:=@Bool.not_true
def kY:=@Nat.le_of_lt
def kZ:=@PySem.codeAny_mono
def lb:=@PySem.wpAny_typeOf
def lc:=@Nat.mul_comm
def ld:=@Nat.pow_zero
def lf:=@List.map_map
def lg:=@Nat.lt_or_ge
def lh:=@Int.zero_add
def li:=@PySem.sizeLine_eq
def lm:=@beq_iff_eq
def ln:=@PySem.wpAny_call
def lp:=@PySem.typeIs_int
def lq:=@PySem.call_meets
def lu:=@congrArg
def lv:=@if_false
def lw:=@or_false
def ly:=@if_true
def lz:=@Iff.rfl
def lD:=@if_pos
def lE:=@if_neg
def lF:=@not_or
local macro_rules|`(tactic|clear 5 $t $[$a:ident]*)=>`(tactic|obtain⟨$[$a:ident],*⟩:=$t)
abbrev ib:=PySem.W.Frag
def ua0:=@List.findIdx?_eq_some_iff_getElem
def ua1:=@PyProof.Rows.slot_tuple_getitem
def ua2:=@List.eq_nil_of_length_eq_zero
def ua3:=@List.drop_append_of_le_length
def ua4:=@List.take_append_of_le_length
def ua5:=@PyProof.Rows.callWith_type1
def ua6:=@PySem.F.slot_int_bit_length
def ua7:=@List.getElem?_append_right
def ua8:=@Array.getElem?_eq_some_iff
def ua9:=@List.getD_eq_getElem?_getD
def ub0:=@List.getElem?_eq_some_iff
def ub1:=@List.getElem?_append_left
def ub2:=@List.drop_eq_getElem_cons
def ub3:=@List.getElem?_eq_getElem
def ub4:=@List.getElem?_replicate
def ub5:=@PySem.F.plainAttrs_list
def ub6:=@Int.eq_ofNat_of_zero_le
def ub7:=@List.append_cancel_left
def ub8:=@List.getElem?_set_self
def ub9:=@PySem.Heap.get?_push_of_some
def uc0:=@PySem.Heap.get?_update_other
def uc1:=@Option.map_eq_some_iff
def uc2:=@List.take_of_length_le
def uc3:=@Nat.div_div_eq_div_mul
def uc4:=@Nat.le_of_succ_le_succ
def uc5:=@List.append_eq_nil_iff
def uc6:=@List.mem_append_right
def uc7:=@PySem.W.methodCall_KW
def uc8:=@List.length_replicate
def uc9:=@PySem.Heap.get?_update_self
def ud0:=@List.getElem?_eq_none
def ud1:=@List.mem_cons_of_mem
def ud2:=@List.getElem?_set_ne
def ud3:=@List.mem_of_getElem?
def ud4:=@List.filterMap_cons
def ud5:=@Array.length_toList
def ud6:=@PySem.Heap.get?_push_size
def ud7:=@PySem.W.plainGet_of
def ud8:=@List.replicate_succ
def ud9:=@List.map_congr_left
def ue0:=@Int.toNat_of_nonneg
def ue1:=@Nat.lt_of_lt_of_le
def ue2:=@List.mem_cons_self
def ue3:=@Bool.false_ne_true
def ue4:=@Array.find?_toList
def ue5:=@PySem.W.callWith_K
def ue6:=@List.length_append
def ue7:=@Bool.false_eq_true
def ue8:=@List.mem_singleton
def ue9:=@List.zip_cons_cons
def uf0:=@List.getElem?_take
def uf1:=@Int.emod_lt_of_pos
def uf2:=@PySem.W.mg_none_of
def uf3:=@List.size_toArray
def uf4:=@List.getElem?_map
def uf5:=@Int.toNat_natCast
def uf6:=@List.flatten_cons
def uf7:=@List.append_assoc
def uf8:=@Bool.eq_false_iff
def uf9:=@List.getElem?_set
def ug0:=@Option.some.injEq
def ug1:=@List.reverse_cons
def ug2:=@decide_eq_true_eq
def ug3:=@of_decide_eq_true
def ug4:=@List.getElem_inj
def ug5:=@List.length_cons
def ug6:=@Nat.lt_succ_self
def ug7:=@List.length_take
def ug8:=@List.length_drop
def ug9:=@Bool.and_eq_true
def uh0:=@Nat.succ_le_succ
def uh1:=@List.lookup_cons
def uh2:=@List.drop_length
def uh3:=@Nat.le_add_right
def uh4:=@List.all_eq_true
def uh5:=@List.cons_ne_nil
def uh6:=@List.not_mem_nil
def uh7:=@List.getElem_mem
def uh8:=@List.cons_append
def uh9:=@beq_self_eq_true
def ui0:=@List.mem_append
def ui1:=@Option.some.inj
def ui2:=@List.length_map
def ui3:=@PySem.W.kia_one
def ui4:=@List.append_nil
def ui5:=@List.nodup_cons
def ui6:=@List.of_mem_zip
def ui7:=@List.foldl_cons
def ui8:=@List.nil_append
def ui9:=@List.find?_cons
def uj0:=@List.length_nil
def uj1:=@Option.map_some
def uj2:=@List.map_append
def uj3:=@List.length_set
def uj4:=@Int.emod_nonneg
def uj5:=@decide_eq_false
def uj6:=@List.mem_range
def uj7:=@Bool.false_and
def uj8:=@PySem.Heap.size_push
def uj9:=@Bool.and_false
def uk0:=@List.drop_zero
def uk1:=@decide_eq_true
def uk2:=@Nat.lt_irrefl
def uk3:=@List.mem_cons
def uk4:=@List.map_cons
def uk5:=@Bool.or_false
def uk6:=@List.all_cons
def uk7:=@List.any_cons
def uk8:=@Bool.false_or
def uk9:=@Bool.and_true
def ul0:=@Bool.true_and
def ul1:=@Nat.add_assoc
def ul2:=@Bool.and_self
def ul3:=@PySem.W.mg_of
def ul4:=@PySem.wpAny_holding
def ul5:=@PySem.Heap.lt_size
def ul6:=@Nat.ne_of_lt
def ul7:=@Nat.le_trans
def ul8:=@Nat.ne_of_gt
def ul9:=@Nat.le_of_eq
def um0:=@List.map_nil
def um1:=@List.all_map
def um2:=@Nat.pow_succ
def um3:=@List.mem_map
def um4:=@Nat.sub_self
def um5:=@Nat.le_refl
def um6:=@Nat.zero_le
def um7:=@Nat.le_succ
def um8:=@PySem.wpAny_field
def um9:=@PySem.wpAny_bind
def un0:=@PySem.wpAny_pure
def un1:=@PySem.wpAny_mono
set_option Elab.async false
set_option maxRecDepth 100000
set_option maxHeartbeats 4000000
theorem oZ1{α:Sort u}{a:α}{b:Prop}:a=a\/b:=Or.inl rfl
theorem oZ2{α:Sort u}{a:α}{b:Prop}:b\/a=a:=Or.inr rfl
theorem oZ3{α:Sort u}{a:α}{b c:Prop}:b\/a=a\/c:=Or.inr (Or.inl rfl)
theorem oZ4{α:Sort u}{a:α}{b c:Prop}:b\/c\/a=a:=Or.inr (Or.inr rfl)
local macro_rules | `(tactic| walk_at"h") => `(tactic| first|exact oZ1|exact oZ2|exact oZ3|exact oZ4|assumption)
namespace L2
open PySem PySem.Spec PyProof.Rows
abbrev Key:=Sum Int Str
noncomputable def Je:Key->ie->Bool
 |.inl k,v=>Value.isInt k v
 |.inr x,v=>Value.isStrOf x v
noncomputable def dS(w:ir):Key->Int
 |.inl k=>hashInt k
 |.inr x=>hashStr w x
theorem Cd:∀{k:Key}{v:ie},Je k v=true->(∃i t,k=Sum.inl i/\v=Value.int i t)\/(∃x t,k=Sum.inr x/\v=Value.str x t)
 |.inl i,v,h=>by
   clear 5(Value.isInt_shape (k:=i) (v:=v) h)t e;exact .inl ⟨i,t,rfl,e⟩
 |.inr x,v,h=>by
   clear 5(Value.isStrOf_shape (x:=x) (v:=v) h)t e;exact .inr ⟨x,t,rfl,e⟩
theorem Rk(i:Int)(t:Tok):Je (.inl i) (.int i t)=true:=by simp[Je,Value.isInt]
theorem Rl(x:Str)(t:Tok):Je (.inr x) (.str x t)=true:=by simp[Je,Value.isStrOf]
theorem YT(a b:Int):decide ((Sum.inl a:Key)=Sum.inl b)=(a==b):=by
 by_cases e:a=b
 .subst e;simp
 .have h:¬(Sum.inl a:Key)=Sum.inl b:=λq=>e (Sum.inl.inj q);rw[uj5 h];exact(kl.mpr e).symm
theorem YW(a b:Str):decide ((Sum.inr a:Key)=Sum.inr b)=decide (a=b):=by
 by_cases e:a=b
 .subst e;simp
 .have h:¬(Sum.inr a:Key)=Sum.inr b:=λq=>e (Sum.inr.inj q);rw[uj5 h,uj5 e]
theorem YU(a:Int)(b:Str):decide ((Sum.inl a:Key)=Sum.inr b)=false:=uj5 (λq=>nomatch q)
theorem YV(a:Str)(b:Int):decide ((Sum.inr a:Key)=Sum.inl b)=false:=uj5 (λq=>nomatch q)
def BY(prog:im)(w:ir):PySem.KeyKind prog w Key where
 is:=Je
 hash:=dS w
 inj:=λv a b ha hb=>by
  rcases Cd ha with⟨i,t,rfl,rfl⟩|⟨x,t,rfl,rfl⟩
  .rcases Cd hb with⟨j,u,rfl,e⟩|⟨y,u,rfl,e⟩
   .injection e with e1 _;rw[e1]
   .exact nomatch e
  .rcases Cd hb with⟨j,u,rfl,e⟩|⟨y,u,rfl,e⟩
   .exact nomatch e
   .injection e with e1 _;rw[e1]
 byValue:=λk v h=>by
  rcases Cd h with⟨i,t,rfl,rfl⟩|⟨x,t,rfl,rfl⟩<;>rfl
 pyHash:=λhv h=>by
  rcases Cd hv with⟨i,t,rfl,rfl⟩|⟨x,t,rfl,rfl⟩
  .exact wpAny_pyHash_int h
  .exact wpAny_pyHash_str h
 eqBool:=λhu hv h=>by
  rcases Cd hu with⟨i,t,rfl,rfl⟩|⟨x,t,rfl,rfl⟩
  .rcases Cd hv with⟨j,u,rfl,rfl⟩|⟨y,u,rfl,rfl⟩
   .rw[YT] at h;exact wpAny_eqBool_int h
   .rw[YU] at h;exact SeqAt.EqAt.int_str i t y u _ _ _ _ h
  .rcases Cd hv with⟨j,u,rfl,rfl⟩|⟨y,u,rfl,rfl⟩
   .rw[YV] at h;exact SeqAt.EqAt.str_int x t j u _ _ _ _ h
   .rw[YW] at h;exact wpAny_eqBool_str h
 «strs»:=λk x t v h=>by
  rcases Cd h with⟨i,u,rfl,e⟩|⟨y,u,rfl,e⟩
  .exact nomatch e
  .injection e with e1 _
   subst e1
   cases v<;>rfl
theorem N7(prog:im)(w:ir)(i:Int)(t:Tok):(BY prog w).is (.inl i) (.int i t)=true:=Rk i t
theorem N8(prog:im)(w:ir)(x:Str)(t:Tok):(BY prog w).is (.inr x) (.str x t)=true:=Rl x t
inductive V where
 |non|bl (b:Bool)|int (i:Int)|str (x:Str)|byt (b:Array UInt8)|flt (b:UInt64)|ref (a:ig)|ty (n:String)
 deriving DecidableEq
noncomputable def RelV:V->ie->Prop
 |.non,u=>u=Value.none
 |.bl b,u=>u=Value.bool b
 |.int i,u=>∃t,u=Value.int i t
 |.str x,u=>∃t,u=Value.str x t
 |.byt b,u=>∃t,u=Value.bytes b t
 |.flt b,u=>∃t,u=Value.float b t
 |.ref a,u=>u=Value.ref a
 |.ty n,u=>u=Value.type n
abbrev Vals:List V->List ie->Prop:=Paired RelV
theorem Vals.length{xs:List V}{us:List ie}(r:Vals xs us):xs.length=us.length:=Paired.length r
theorem Vals.get:∀{xs:List V}{us:List ie}{i:Nat}{x:V},Vals xs us->xs[i]?=some x->∃u,us[i]?=some u/\RelV x u
 |_,_,_,_,.nil,e=>by simp at e
 |_,_,0,_,.cons r _,e=>by simp at e;subst e;exact⟨_,rfl,r⟩
 |_,_,i+1,x,.cons _ t,e=>by
   clear 5(Vals.get (i:=i) (x:=x) t (by simpa using e))u h1 h2;exact⟨u,by simpa using h1,h2⟩
theorem Vals.append{xs ys:List V}{us ws:List ie}(r:Vals xs us)(s:Vals ys ws):Vals (xs++ys) (us++ws):=by
 cases r with
 |nil=>exact s
 |cons r t=>exact .cons r (Vals.append t s)
theorem Vals.take:∀{xs:List V}{us:List ie} (n:Nat),Vals xs us->Vals (xs.take n) (us.take n)
 |_,_,0,_=>.nil
 |_,_,_+1,.nil=>.nil
 |_,_,n+1,.cons r t=>.cons r (Vals.take n t)
theorem Vals.drop:∀{xs:List V}{us:List ie} (n:Nat),Vals xs us->Vals (xs.drop n) (us.drop n)
 |_,_,0,r=>r
 |_,_,_+1,.nil=>.nil
 |_,_,n+1,.cons _ t=>Vals.drop n t
def RelO:Option V->Option ie->Prop
 |some v,some u=>RelV v u
 |none,none=>True
 |_,_=>False
def KV{κ:Type}:List (κ×V)->List (κ×ie)->Prop:=Paired λ(p:κ×V) (q:κ×ie)=>p.1=q.1/\RelV p.2 q.2
noncomputable def kV:Key->V
 |.inl i=>.int i
 |.inr x=>.str x
inductive HO where
 /-- a list -/
 |lst (xs:List V)
 /-- a tuple (never changes) -/
 |tup (xs:List V)
 /-- a dict whose keys are ints and texts;one whose keys are tuples of ints and texts (the empty one is both) -/
 |dK (kvs:List (Key×V))|dT (kvs:List (List Key×V))
 /-- a set of ints: its members,its size -/
 |set (S:Int->Bool) (n:Nat)
 /-- an instance of the class at C,its dict at dx,its attributes -/
 |ins (C dx:ig) (fs:List (Str×V))
 /-- the dict of the instance at x -/
 |own (x:ig)
 /-- the dict of an exception -/
 |xd (fs:List (Str×V))
 /-- a bound method,f of x -/
 |met (f x:ig)
 /-- a range object lo,lo+1,.. below hi -/
 |rng (lo hi:Int)
 /-- a thing that is known to the object (the script;a dict while a loop walks it): read,never written while it is so -/
 |frz (o:Obj) (u:HO)
 /-- a code object's table -/
 |tbl (ps:Array ie)
 /-- any other thing,by what is true of its one object (a def of one's own: SetO a S n:=HO.ext λh=>..) -/
 |ext (φ:Heap->Prop)
abbrev Hp:=ig->Option HO
noncomputable def upd(H:Hp)(a:ig)(o:HO):Hp:=λb=>if b=a then some o else H b
section
variable{H:Hp}{a:ig}
theorem AG{o:HO}:upd H a o a=some o:=by unfold upd;rw[lD rfl]
variable{b:ig}
theorem Ap{o:HO}(h:b≠a):upd H a o b=H b:=by unfold upd;rw[lE h]
theorem Xv{o u:HO}:upd (upd H a o) a u=upd H a u:=by
 funext b;unfold upd;split<;>rfl
theorem AX{o:HO}(h:H a=some o)(h':H b=none):a≠b:=by
 intro e;subst e;rw[h] at h';cases h'
section
variable(P:im)(w:ir)
def ObjOk(H:Hp)(h:Heap)(a:ig):HO->Prop
 |.lst xs=>xs.length<=sizeLine/\∃(its:List ie) (n:Nat),Vals xs its/\h.get? a=some {cls:=.type "list",data:=.seq its.toArray n}
 |.tup xs=>xs.length<=sizeLine/\∃its:List ie,Vals xs its/\IsTup h a its.toArray
 |.dK kvs=>kvs.length<=sizeLine/\(a==sysModules)=false/\∃vs,KV kvs vs/\h.DictOf (BY P w) a vs
 | .dT kvs=>kvs.length<=sizeLine/\(a == sysModules)=false/\∃xs:List (List Key×ig×ie),
    Paired (λ(p:List Key×V) (q:List Key×ig×ie)=>p.1=q.1/\H q.2.1=some (.tup (p.1.map kV))/\RelV p.2 q.2.2) kvs xs/\
    ∃o es ep,h.get? a=some o/\o.ExactDict/\o.data=.dict es ep/\es.toList=xs.map (entryOfKey (tupleKind (BY P w)))/\(xs.map (·.1)).Nodup
 |.set S n=>h.SetOf (intKind P w) a S n
 | .ins C dx fs=>H dx=some (.own a)/\fs.length<=1000/\dx≠a/\h.get? a=some (PySem.W.instObj C dx)/\
    ∃mA,h.Ns1 dx mA/\(∀f,RelO (fs.lookup f) (mA f))/\PySem.Within mA (fs.map (·.1))
 |.own _=>∃o,h.get? a=some o
 |.xd fs=>∃mA,h.Ns1 a mA/\∀f,RelO (fs.lookup f) (mA f)
 |.rng lo hi=>∃t u v,h.get? a=some {cls:=.type "range",data:=.fields #[.int lo t,.int hi u,.int 1 v]}
 |.frz o u=>h.get? a=some o/\ObjOk H h a u
 |.tbl ps=>h.get? a=some {cls:=.none,data:=.fields ps}
 |.met f x=>h.get? a=some (PySem.W.methodObj (.ref f) (.ref x))
 |.ext φ=>φ h/\(∃o,h.get? a=some o)/\∀h1 h2:Heap,φ h1->(∀o,h1.get? a=some o->h2.get? a=some o)->φ h2
def HOk(H:Hp)(h:Heap):Prop:=∀a o,H a=some o->ObjOk P w H h a o
end
section
variable{P:im}{w:ir}{H H':Hp}{h h':Heap}{a:ig}{o:HO}
theorem ObjOk.lt(x:ObjOk P w H h a o):a<h.objs.size:=by
 cases o with
 |lst xs=>obtain⟨_,_,_,_,e⟩:=x;exact ul5 e
 |tup xs=>obtain⟨_,_,_,p⟩:=x;exact p.lt
 |dK kvs=>obtain⟨_,_,_,_,o,_,_,e,_⟩:=x;exact ul5 e
 |dT kvs=>obtain⟨_,_,_,_,o,_,_,e,_⟩:=x;exact ul5 e
 |set S n=>obtain⟨o,_,_,_,e,_⟩:=x;exact ul5 e
 |ins C dx fs=>obtain⟨_,_,_,e,_⟩:=x;exact ul5 e
 |own y=>obtain⟨_,e⟩:=x;exact ul5 e
 |xd fs=>obtain⟨_,⟨_,_,_,e,_⟩,_⟩:=x;exact ul5 e
 |rng lo hi=>obtain⟨_,_,_,e⟩:=x;exact ul5 e
 |frz ob u=>obtain⟨e,_⟩:=x;exact ul5 e
 |tbl ps=>exact ul5 (show h.get? a=some _ from x)
 |met f y=>exact ul5 (show h.get? a=some _ from x)
 |ext φ=>obtain⟨_,⟨_,e⟩,_⟩:=x;exact ul5 e
theorem Paired.mapP{α β:Type}{F G:α->β->Prop}:∀{l₁:List α}{l₂:List β},Paired F l₁ l₂->(∀a b,F a b->G a b)->Paired G l₁ l₂
 |_,_,.nil,_=>.nil
 |_,_,.cons r t,f=>.cons (f _ _ r) (Paired.mapP t f)
theorem ObjOk.stay(x:ObjOk P w H h a o)(k:∀b u,(b=a\/H b=some (.own a))->h.get? b=some u->h'.get? b=some u)
 (ho:∀b,H b=some (.own a)->H' b=some (.own a)) (ht:∀b xs,H b=some (.tup xs)->H' b=some (.tup xs)):ObjOk P w H' h' a o:=by
 induction o with
 |lst xs=>clear 5 x z its n r e;exact⟨z,its,n,r,k _ _ (.inl rfl) e⟩
 |tup xs=>clear 5 x z its r ob e c;exact⟨z,its,r,ob,k _ _ (.inl rfl) e,c⟩
 |dK kvs=>clear 5 x z y vs r ob es ep e c;exact⟨z,y,vs,r,ob,es,ep,k _ _ (.inl rfl) e,c⟩
 |dT kvs=>
   clear 5 x z y xs r ob es ep e c;exact⟨z,y,xs,Paired.mapP r λp q z=>⟨z.1,ht _ _ z.2.1,z.2.2⟩,ob,es,ep,k _ _ (.inl rfl) e,c⟩
 |set S n=>clear 5 x ob es ep t e c;exact⟨ob,es,ep,t,k _ _ (.inl rfl) e,c⟩
 |ins C dx fs=>
   obtain⟨d,z,ne,e,mA,⟨od,es,ep,e2,c⟩,r⟩:=x;exact⟨ho _ d,z,ne,k _ _ (.inl rfl) e,mA,⟨od,es,ep,k _ _ (.inr d) e2,c⟩,r⟩
 |own y=>clear 5 x ob e;exact⟨ob,k _ _ (.inl rfl) e⟩
 |xd fs=>obtain⟨mA,⟨od,es,ep,e,c⟩,r⟩:=x;exact⟨mA,⟨od,es,ep,k _ _ (.inl rfl) e,c⟩,r⟩
 |rng lo hi=>clear 5 x t u v e;exact⟨t,u,v,k _ _ (.inl rfl) e⟩
 |frz ob u ih=>clear 5 x e q;exact⟨k _ _ (.inl rfl) e,ih q⟩
 |tbl ps=>
   have e:h.get? a=some {cls:=.none,data:=.fields ps}:=x;show h'.get? a=some {cls:=.none,data:=.fields ps};exact k a _ (.inl rfl) e
 |met f y=>
   have e:h.get? a=some (PySem.W.methodObj (.ref f) (.ref y)):=x;show h'.get? a=some (PySem.W.methodObj (.ref f) (.ref y));exact k a _ (.inl rfl) e
 |ext φ=>obtain⟨p,⟨o,e⟩,st⟩:=x;exact⟨st _ _ p λo q=>k _ _ (.inl rfl) q,⟨o,k _ _ (.inl rfl) e⟩,st⟩
theorem HOk.lt(x:HOk P w H h)(e:H a=some o):a<h.objs.size:=(x a o e).lt
theorem HOk.fresh(x:HOk P w H h)(e:h.objs.size<=a):H a=none:=by
 cases q:H a with
 |none=>rfl
 |some u=>exact absurd (ue1 (x.lt q) e) (uk2 _)
theorem HOk.kept(x:HOk P w H h)(k:∀b u,h.get? b=some u->h'.get? b=some u):HOk P w H h':=λa o e=>
 (x a o e).stay (λb u _ q=>k b u q) (λ_ q=>q) λ_ _ q=>q
theorem HOk.laid(x:HOk P w H h)(k:∀b u,h.get? b=some u->h'.get? b=some u)(hp:h.objs.size<=a)(new:ObjOk P w (upd H a o) h' a o):HOk P w (upd H a o) h':=λb u e=>by
 have hn:=x.fresh hp
 by_cases hb:b=a
 .subst hb;rw[AG] at e;cases e;exact new
 .rw[Ap hb] at e;exact(x b u e).stay (λc v _ q=>k c v q) (λc q=>by rw[Ap (AX q hn)];exact q) λc xs q=>by rw[Ap (AX q hn)];exact q
end
noncomputable def Rd(H:Hp)(a:ig)(u:HO):Prop:=H a=some u\/∃o,H a=some (.frz o u)
variable{P:im}{w:ir}{h:Heap}
theorem Rd.ok{u:HO}(r:Rd H a u)(x:HOk P w H h):ObjOk P w H h a u:=by
 rcases r with r|⟨o,r⟩
 .exact x a u r
 .obtain⟨_,q⟩:=x a _ r;exact q
def Mut:Option HO->Prop
 |some (.lst _)=>True
 |some (.dK _)=>True
 |some (.dT _)=>True
 |some (.set _ _)=>True
 |some (.ins _ _ _)=>True
 |some (.ext _)=>True
 |_=>False
section
variable{P:im}{w:ir}{H:Hp}{h h':Heap}{x e:ig}{o':HO}
theorem HOk.write(ok:HOk P w H h)(mu:Mut (H x))(he:e=x\/H e=some (.own x))(k:∀b u,b≠e->h.get? b=some u->h'.get? b=some u)(heo:∃u,h'.get? e=some u)
 (new:ObjOk P w (upd H x o') h' x o'):HOk P w (upd H x o') h':=λb u q=>by
 have nown:∀c y,H c=some (.own y)->c≠x:=λc y r z=>by subst z;rw[r] at mu;exact mu
 have ntup:∀c xs,H c=some (.tup xs)->c≠x:=λc xs r z=>by subst z;rw[r] at mu;exact mu
 by_cases hb:b=x
 .subst hb;rw[AG] at q;cases q;exact new
 .rw[Ap hb] at q
  by_cases hbe:b=e
  .have q':H b=some (.own x):=by
    rcases he with z|z
    .exact absurd (hbe.trans z) hb
    .rw[hbe];exact z
   rw[q] at q';cases q'
   clear 5 heo v hv;exact⟨v,by rw[hbe];exact hv⟩
  .refine(ok b u q).stay (λc v hc r=>k c v ?_ r) (λc r=>by rw[Ap (nown c b r)];exact r) λc xs r=>by rw[Ap (ntup c xs r)];exact r
   rcases hc with rfl|hc
   .exact hbe
   .rintro rfl;rcases he with z|z
    .exact nown c b hc z
    .rw[hc] at z;cases z;exact hb rfl
end
structure Un(fs ex:List ig)(H H':Hp)(h h':Heap):Prop where
 keep:∀b o,h.get? b=some o->H b=none->b∉fs->b∉ex->h'.get? b=some o
 slot:∀b o,h.get? b=some o->H b=none->b∈fs->b∉ex->∃sl,h'.get? b=some {o with slots:=sl}
 free:∀b o,h.get? b=some o->H b=none->b∉ex->H' b=none
 there:∀b o,h.get? b=some o->b∉ex->∃o',h'.get? b=some o'
 tups:∀b xs,H b=some (.tup xs)->H' b=some (.tup xs)
 frzs:∀b o u,H b=some (.frz o u)->H' b=some (.frz o u)
 tbls:∀b ps,H b=some (.tbl ps)->∃more,H' b=some (.tbl (ps++more))
section
variable{fs fs' ex ex':List ig}{H H1 H2:Hp}{h h1 h2 h':Heap}{a x e:ig}{o:HO}
theorem Un.any(u:Un fs ex H H1 h h1){b:ig}{ob:Obj}(q:h.get? b=some ob)(n:H b=none)(hx:b∉ex):∃sl,h1.get? b=some {ob with slots:=sl}:=by
 by_cases hb:b∈fs
 .exact u.slot b ob q n hb hx
 .exact⟨ob.slots,u.keep b ob q n hb hx⟩
theorem Un.kept(k:∀b u,h.get? b=some u->h'.get? b=some u):Un fs ex H H h h':=
 ⟨λb ob q _ _ _=>k b ob q,λb ob q _ _ _=>⟨ob.slots,k b ob q⟩,λ_ _ _ n _=>n,λb ob q _=>⟨ob,k b ob q⟩,λ_ _ q=>q,λ_ _ _ q=>q,λ_ ps q=>⟨#[],by rw[q];simp⟩⟩
theorem Un.refl:Un fs ex H H h h:=Un.kept λ_ _ q=>q
theorem Un.laid(k:∀b u,h.get? b=some u->h'.get? b=some u)(hp:h.objs.size<=a)(hn:H a=none):Un fs ex H (upd H a o) h h' where
 keep:=λb u q _ _ _=>k b u q
 slot:=λb u q _ _ _=>⟨u.slots,k b u q⟩
 free:=λb u q n _=>by rw[Ap (ul6 (ue1 (ul5 q) hp))];exact n
 there:=λb u q _=>⟨u,k b u q⟩
 tups:=λb xs q=>by rw[Ap (AX q hn)];exact q
 frzs:=λb u xs q=>by rw[Ap (AX q hn)];exact q
 tbls:=λb ps q=>⟨#[],by rw[Ap (AX q hn),q];simp⟩
theorem Un.write(mu:Mut (H x))(he:e=x\/H e=some (.own x))(k:∀b u,b≠e->h.get? b=some u->h'.get? b=some u)(heo:∃u,h'.get? e=some u):Un fs ex H (upd H x o) h h':=by
 have hx:∀b,H b=none->b≠x:=λb n z=>by subst z;rw[n] at mu;exact mu
 have hb:∀b,H b=none->b≠e:=λb n z=>by
  subst z;rcases he with r|r
  .exact hx b n r
  .rw[n] at r;cases r
 have hm:∀b u,H b=some u->¬Mut (some u)->b≠x:=λb u q nm z=>by subst z;rw[q] at mu;exact nm mu
 refine⟨λb u q n _ _=>k b u (hb b n) q,λb u q n _ _=>⟨u.slots,k b u (hb b n) q⟩,λb u q n _=>by rw[Ap (hx b n)];exact n,λb u q _=>?_,
  λb xs q=>by rw[Ap (hm b _ q λz=>z)];exact q,λb u xs q=>by rw[Ap (hm b _ q λz=>z)];exact q,λb ps q=>⟨#[],by rw[Ap (hm b _ q λz=>z),q];simp⟩⟩
 by_cases hbe:b=e
 .subst hbe;exact heo
 .exact⟨u,k b u hbe q⟩
end
noncomputable def trk(h:Heap)(H:Hp):List ig:=(List.range h.objs.size).filter λa=>(H a).isSome
def HB(h:Heap)(H:Hp):Heap:=PySem.W.hideAll h (trk h H)
theorem Rc(h:Heap)(H:Hp):(HB h H).objs.size=h.objs.size:=PySem.W.hideAll_size _ _
theorem TH{o:Obj}(e:h.get? b=some o)(n:H b=none):(HB h H).get? b=some o:=
 PySem.W.hideAll_get _ e λhm=>by
  have q:(H b).isSome=true:=(List.mem_filter.mp hm).2;rw[n] at q;simp at q
theorem Wv{o:Obj}(e:(HB h H).get? b=some o):h.get? b=some o/\H b=none:=by
 have e':h.get? b=some o:=PySem.W.of_hideAll (trk h H) e;refine⟨e',?_⟩
 cases q:H b with
 |none=>rfl
 |some x=>
   have hm:b∈trk h H:=List.mem_filter.mpr ⟨uj6.mpr (ul5 e'),by simp[q]⟩;have z:(HB h H).get? b=none:=PySem.W.hideAll_none (trk h H) hm;rw[z] at e;cases e
noncomputable def Vs(g h:Heap)(L:ig):List (ig×Obj):=(List.range h.objs.size).filterMap λa=>if a=L\/(g.get? a).isSome=true then none else(h.get? a).map λo=>(a,o)
def rest(g h:Heap)(L d:ig):List (ig×Obj):=(Vs g h L).filter λp=>decide (p.1≠d)
structure Mod(K:ib)(mg:Str->Option ie)(base:Heap):Prop where
 kin:K.In base
 glob:base.Ns mainGlobals mg
 blt:∃mb,base.Ns builtinsNs mb/\∀x:Str,x≠"__name__"->mb x=bootBuiltins x
 nolimit:base.NoLimit
structure Cx where
 prog:im
 w:ir
 K:ib
 mg:Str->Option ie
 base:Heap
 A:Around
 N:List Str
 s₀:ij
 H₀:Hp
 env:Env
 outer:List Env
 stack:List Env
 ex:List ig
 fn:Str->Bool
 calm:Bool
 pn:List (ig×Obj)
 xe:ie->ij->Prop
noncomputable def frs(l:List Env):List ig:=l.filterMap (·.frame)
abbrev Cx.fs(X:Cx):List ig:=frs X.outer
def Vis(sc:Scope)(x:Str):Prop:=sc.names.lookup x=some .local\/sc.names.lookup x=some .cell\/sc.names.lookup x=some .free
def Loc(sc:Scope)(x:Str):Prop:=sc.names.lookup x=some .local\/sc.names.lookup x=some .cell
def dj(env:Env)(h:Heap)(m:Str->Option ie)(x:Str)(u:ie):Prop:=
 (env.kindOf x=some .local/\m x=some u)\/((env.kindOf x=some .cell\/env.kindOf x=some .free)/\∃c,env.cells.lookup x=some c/\h.IsCell c (some u))
structure Cx.Ok(X:Cx):Prop where
 mod:Mod X.K X.mg X.base
 kind:X.env.scope.kind=.function
 glob:X.env.globals=mainGlobals
 blt:X.env.builtins=builtinsNs
 above:X.s₀.heap.objs.size<=X.env.locals
 inj:∀x y c,X.env.cells.lookup x=some c->X.env.cells.lookup y=some c->x=y
 has:∀x,(X.env.kindOf x=some .cell\/X.env.kindOf x=some .free)->∃c,X.env.cells.lookup x=some c
 cab:∀x c,X.fn x=true->X.env.cells.lookup x=some c->X.s₀.heap.objs.size<=c
 hd:X.calm=true->X.A.handled=none
 frames:X.A.frames=some X.stack
 stk:X.stack=X.outer\/(X.stack=X.env::X.outer/\X.env.frame=some X.env.locals)
 exf:∀b∈X.ex,b≠X.env.locals/\∀x c,X.env.cells.lookup x=some c->c≠b
 bs:∀b o,X.base.get? b=some o->X.s₀.heap.get? b=some o/\X.H₀ b=none
 bsz:X.base.objs.size<=X.s₀.heap.objs.size
 noex:∀b o,X.base.get? b=some o->b∉X.ex
 exfs:∀b∈X.ex,b∉X.fs
 funs:X.s₀.heap.FunFrames X.base X.outer
 frf:∀b∈X.fs,X.H₀ b=none
structure Inv(X:Cx)(ic:List (ig×Obj))(σ:List (Option V))(H:Hp)(s:ij):Prop where
 ok:X.Ok
 os:s.os=X.s₀.os
 bare:AllBare s.gens
 base:Un X.fs X.ex X.H₀ H X.s₀.heap s.heap
 loc:∃m,s.heap.Ns X.env.locals m/\∀(i:Nat) (x:Str) (v:V),X.N[i]?=some x->σ[i]?=some (some v)->Vis X.env.scope x->∃u,RelV v u/\dj X.env s.heap m x u
 cell:∀x c,X.env.cells.lookup x=some c->∃v,s.heap.IsCell c v
 free:H X.env.locals=none
 freeC:∀x c,X.env.cells.lookup x=some c->H c=none
 pin:∀p∈X.pn++ic,s.heap.get? p.1=some p.2/\H p.1=none/\p.1≠X.env.locals/\p.1∉X.fs/\∀v,p.2.data≠.cell v
 hok:HOk X.prog X.w H s.heap
 len:σ.length=X.N.length
variable{t' i:Nat}{ch:List ig}{E:ie->ij->Prop}{v:V}{u:ie}{Q:Unit->ij->Prop}
section
variable{X:Cx}{ic:List (ig×Obj)}{σ:List (Option V)}{H H':Hp}{s:ij}{h':Heap}
theorem Cx.Ok.nofr(ok:X.Ok){b:ig}{o:Obj}(e:X.base.get? b=some o):b∉X.fs:=λhb=>by
 have:=(ok.funs.mem hb).1;rw[e] at this;cases this
theorem Inv.bs(I:Inv X ic σ H s):∀b o,X.base.get? b=some o->s.heap.get? b=some o/\H b=none:=λb o e=>
 ⟨I.base.keep b o (I.ok.bs b o e).1 (I.ok.bs b o e).2 (I.ok.nofr e) (I.ok.noex b o e),I.base.free b o (I.ok.bs b o e).1 (I.ok.bs b o e).2 (I.ok.noex b o e)⟩
theorem Inv.bk(I:Inv X ic σ H s):∀b o,X.base.get? b=some o->s.heap.get? b=some o:=λb o e=>(I.bs b o e).1
theorem Inv.mod(I:Inv X ic σ H s):Mod X.K X.mg X.base:=I.ok.mod
theorem Inv.kIn(I:Inv X ic σ H s):X.K.In s.heap:=I.ok.mod.kin.keeps I.bk
theorem Inv.lt(I:Inv X ic σ H s):X.env.locals<s.heap.objs.size:=let ⟨_,hn,_⟩:=I.loc;hn.lt
theorem Inv.sz(I:Inv X ic σ H s):X.s₀.heap.objs.size<=s.heap.objs.size:=ul7 I.ok.above (kY I.lt)
theorem Inv.nofs(I:Inv X ic σ H s){a:ig}(h:s.heap.objs.size<=a):a∉X.fs:=λhb=>by
 obtain⟨_,o,ho,_⟩:=I.ok.funs.mem hb;exact absurd (ue1 (ul5 ho) (ul7 I.sz h)) (uk2 _)
theorem Inv.cne(I:Inv X ic σ H s):∀x c,X.env.cells.lookup x=some c->c≠X.env.locals:=λx c e z=>by
 clear 5(I.cell x c e)v o ho hd;obtain⟨m,⟨o',es,ep,ho',hd',_⟩,_⟩:=I.loc;rw[z,ho'] at ho;cases ho;rw[hd'] at hd;cases hd
theorem Inv.funs(I:Inv X ic σ H s):s.heap.FunFrames X.base X.outer:=by
 have all:∀(l:List Env),(∀b∈frs l,b∈X.fs)->X.s₀.heap.FunFrames X.base l->s.heap.FunFrames X.base l:=by
  intro l
  induction l with
  |nil=>intro _ _;trivial
  |cons env r ih=>
    intro hs hl;obtain⟨hk,⟨L,o,hf,hn,ho,hd⟩,hr⟩:=hl;have hL:L∈X.fs:=hs L (by unfold frs;rw[ud4,hf];exact ue2);obtain⟨sl,e⟩:=I.base.slot L o ho (I.ok.frf L hL) hL λz=>I.ok.exfs L z hL;exact⟨hk,⟨L,_,hf,hn,e,hd⟩,ih (λb hb=>hs b (by unfold frs;rw[ud4,hf];exact ud1 _ hb)) hr⟩
 exact all X.outer (λ_ hb=>hb) I.ok.funs
theorem Inv.stack(I:Inv X ic σ H s):s.heap.FunFrames X.base X.stack:=by
 rcases I.ok.stk with e|⟨e,hf⟩
 .rw[e];exact I.funs
 .rw[e];obtain⟨m,hn,_⟩:=I.loc;refine .cons (by rw[I.ok.kind];decide) hf hn ?_ I.funs;exact Heap.get?_none_of_le (ul7 I.ok.bsz I.ok.above)
theorem Inv.stkSub(I:Inv X ic σ H s):∀b∈frs X.stack,b∈X.env.locals::X.fs:=λb hb=>by
 rcases I.ok.stk with e|⟨e,hf⟩
 .rw[e] at hb;exact ud1 _ hb
 .rw[e] at hb;unfold frs at hb;rw[ud4,hf] at hb;exact hb
theorem Inv.stkFree(I:Inv X ic σ H s):∀b∈frs X.stack,H b=none:=λb hb=>by
 rcases uk3.mp (I.stkSub b hb) with e|hb
 .rw[e];exact I.free
 .obtain⟨_,o,ho,_⟩:=I.ok.funs.mem hb;exact I.base.free b o ho (I.ok.frf b hb) λz=>I.ok.exfs b z hb
theorem Inv.step{g':Array GenState}{d':Drawn}(I:Inv X ic σ H s)
 (hch:∀b∈ch,(b∈X.ex\/X.s₀.heap.objs.size<=b)/\b≠X.env.locals/\(∀x c,X.env.cells.lookup x=some c->c≠b)/\∀p∈X.pn++ic,p.1≠b)
 (keep:∀b o,b≠X.env.locals->b∉X.fs->b∉ch->s.heap.get? b=some o->H b=none->h'.get? b=some o)
 (slot:∀b o,b≠X.env.locals->b∈X.fs->b∉ch->s.heap.get? b=some o->H b=none->∃sl,h'.get? b=some {o with slots:=sl}) (free:∀b o,b∉ch->s.heap.get? b=some o->H b=none->H' b=none)
 (there:∀b o,b∉ch->s.heap.get? b=some o->∃o',h'.get? b=some o')
 (tups:∀b xs,H b=some (.tup xs)->H' b=some (.tup xs)) (frzs:∀b o u,H b=some (.frz o u)->H' b=some (.frz o u)) (tbls:∀b ps,H b=some (.tbl ps)->∃more,H' b=some (.tbl (ps++more)))
 (ns:∀m,s.heap.Ns X.env.locals m->h'.Ns X.env.locals m) (hok:HOk X.prog X.w H' h') (hg:AllBare g') :
 Inv X ic σ H' {s with heap:=h',gens:=g',drawn:=d',toks:=t'}:=by
 have neL:∀b o,X.s₀.heap.get? b=some o->b≠X.env.locals:=λb o e=>ul6 (ue1 (ul5 e) I.ok.above);have neC:∀b o,X.s₀.heap.get? b=some o->b∉X.ex->b∉ch:=λb o e hx hb=>by
  rcases (hch b hb).1 with z|z
  .exact hx z
  .exact absurd (ue1 (ul5 e) z) (uk2 _)
 have cellK:∀x c,X.env.cells.lookup x=some c->∀v,s.heap.IsCell c v->h'.IsCell c v:=λx c e v z9=>by
  clear 5 z9 o ho hd;have nch:c∉ch:=λz=>(hch c z).2.2.1 x c e rfl
  by_cases hc:c∈X.fs
  .clear 5(slot c o (I.cne x c e) hc nch ho (I.freeC x c e))sl q;exact⟨_,q,hd⟩
  .exact⟨o,keep c o (I.cne x c e) hc nch ho (I.freeC x c e),hd⟩
 refine⟨I.ok,I.os,hg,⟨λb o e n hb hx=>?_,λb o e n hb hx=>?_,λb o e n hx=>?_,λb o e hx=>?_,λb xs e=>tups b xs (I.base.tups b xs e),λb o xs e=>frzs b o xs (I.base.frzs b o xs e),λb ps e=>?_⟩,?_,λx c e=>?_,?_,λx c e=>?_,λp hp=>?_,hok,I.len⟩
 .exact keep b o (neL b o e) hb (neC b o e hx) (I.base.keep b o e n hb hx) (I.base.free b o e n hx)
 .clear 5(I.base.slot b o e n hb hx)sl e1;clear 5(slot b _ (neL b o e) hb (neC b o e hx) e1 (I.base.free b o e n hx))sl' e2;exact⟨sl',e2⟩
 .clear 5(I.base.there b o e hx)o' e1;exact free b o' (neC b o e hx) e1 (I.base.free b o e n hx)
 .clear 5(I.base.there b o e hx)o' e1;exact there b o' (neC b o e hx) e1
 .clear 5(I.base.tbls b ps e)m1 e1;clear 5(tbls b _ e1)m2 e2;exact⟨m1++m2,by rw[e2,Array.append_assoc]⟩
 .clear 5 I.loc m hn hl;refine⟨m,ns m hn,λi x v e1 e2 e3=>?_⟩;clear 5(hl i x v e1 e2 e3)u r l;refine⟨u,r,?_⟩;rcases l with l|⟨k,c,e,z⟩
  .exact .inl l
  .exact .inr ⟨k,c,e,cellK x c e _ z⟩
 .clear 5(I.cell x c e)v z;exact⟨v,cellK x c e v z⟩
 .obtain⟨m,⟨o,_,_,ho,_⟩,_⟩:=I.loc;exact free _ o (λz=>(hch _ z).2.1 rfl) ho I.free
 .clear 5(I.cell x c e)v o ho hd;exact free c o (λz=>(hch c z).2.2.1 x c e rfl) ho (I.freeC x c e)
 .clear 5(I.pin p hp)e n ne nf d;have nch:p.1∉ch:=λz=>(hch p.1 z).2.2.2 p hp rfl;exact⟨keep p.1 p.2 ne nf nch e n,free p.1 p.2 nch e n,ne,nf,d⟩
theorem Inv.un(I:Inv X ic σ H s)(u:Un X.fs [] H H' s.heap h')(hok:HOk X.prog X.w H' h'):Inv X ic σ H' {s with heap:=h',toks:=t'}:=by
 obtain⟨m,⟨o,es,ep,ho,r⟩,_⟩:=id I.loc;clear 5(u.any ho I.free (by simp))sl hL;exact I.step (g':=s.gens) (d':=s.drawn) (ch:=[]) (λ_ z=>nomatch z) (λb o _ hb _ e n=>u.keep b o e n hb (by simp)) (λb o _ hb _ e n=>u.slot b o e n hb (by simp)) (λb o _ e n=>u.free b o e n (by simp)) (λb o _ e=>u.there b o e (by simp)) u.tups u.frzs u.tbls (λm' hm=>by
  clear 5 hm o' es' ep' ho' r';rw[ho] at ho';cases ho'
  exact⟨_,es',ep',hL,r'⟩) hok I.bare
theorem Inv.call{g':Array GenState}{d':Drawn}(I:Inv X ic σ H s)(u:Un (frs X.stack) ch H H' s.heap h')(hok:HOk X.prog X.w H' h')(hg:AllBare g')
 (hch:∀b∈ch,(b∈X.ex\/X.s₀.heap.objs.size<=b)/\b≠X.env.locals/\(∀x c,X.env.cells.lookup x=some c->c≠b)/\∀p∈X.pn++ic,p.1≠b) :
 Inv X ic σ H' {s with heap:=h',gens:=g',drawn:=d',toks:=t'}:=by
 obtain⟨m,⟨o,es,ep,ho,r⟩,_⟩:=id I.loc;obtain⟨sl,hL⟩:=u.any ho I.free λz=>(hch _ z).2.1 rfl;exact I.step (ch:=ch) hch (λb o hL hb hc e n=>u.keep b o e n (λz=>(uk3.mp (I.stkSub b z)).elim hL hb) hc) (λb o _ _ hc e n=>u.any e n hc) (λb o hc e n=>u.free b o e n hc) (λb o hc e=>u.there b o e hc) u.tups u.frzs u.tbls (λm' hm=>by
  clear 5 hm o' es' ep' ho' r';rw[ho] at ho';cases ho'
  exact⟨_,es',ep',hL,r'⟩) hok hg
theorem Inv.turned{it:ig}(I:Inv X ic σ H s)(k:∀b o,b≠it->s.heap.get? b=some o->h'.get? b=some o)(hn:H it=none)(hL:it≠X.env.locals)
 (h1:it∈X.ex\/X.s₀.heap.objs.size<=it) (h2:∀x c,X.env.cells.lookup x=some c->c≠it) (h3:∀p∈X.pn++ic,p.1≠it):Inv X ic σ H {s with heap:=h',toks:=t'}:=by
 have nit:∀b u,H b=some u->b≠it:=λb u e z=>by rw[z,hn] at e;cases e
 refine I.step (g':=s.gens) (d':=s.drawn) (ch:=[it]) (λb hb=>?_) (λb o _ _ hc e _=>k b o (λz=>hc (by simp[z])) e) (λb o _ _ hc e _=>⟨o.slots,k b o (λz=>hc (by simp[z])) e⟩) (λ_ _ _ _ n=>n)
  (λb o hc e=>⟨o,k b o (λz=>hc (by simp[z])) e⟩) (λ_ _ e=>e) (λ_ _ _ e=>e) (λb ps e=>⟨#[],by rw[e];simp⟩) (λm hm=>?_) (λb u e=>?_) I.bare
 .have e:b=it:=by simpa using hb
  subst e;exact⟨h1,hL,h2,h3⟩
 .clear 5 hm o es ep ho r;exact⟨o,es,ep,k _ o (Ne.symm hL) ho,r⟩
 .refine(I.hok b u e).stay (λc v hc q=>k c v ?_ q) (λ_ q=>q) λ_ _ q=>q;rcases hc with z|z
  .rw[z];exact nit b u e
  .exact nit c _ z
theorem Inv.tok(I:Inv X ic σ H s)(t:Nat):Inv X ic σ H {s with toks:=t}:=I.un (h':=s.heap) (t':=t) Un.refl I.hok
theorem Inv.kept{t':Nat}(I:Inv X ic σ H s)(k:∀b u,s.heap.get? b=some u->h'.get? b=some u):Inv X ic σ H {s with heap:=h',toks:=t'}:=I.un (Un.kept k) (I.hok.kept k)
theorem Inv.laid{a:ig}{o:HO}{t':Nat}(I:Inv X ic σ H s)(k:∀b u,s.heap.get? b=some u->h'.get? b=some u)(hp:s.heap.objs.size<=a)(new:ObjOk X.prog X.w (upd H a o) h' a o) :
 Inv X ic σ (upd H a o) {s with heap:=h',toks:=t'}:=I.un (Un.laid k hp (I.hok.fresh hp)) (I.hok.laid k hp new)
theorem Inv.write{x e:ig}{o:HO}{t':Nat}(I:Inv X ic σ H s)(mu:Mut (H x))(he:e=x\/H e=some (.own x))(k:∀b u,b≠e->s.heap.get? b=some u->h'.get? b=some u)(heo:∃u,h'.get? e=some u)
 (new:ObjOk X.prog X.w (upd H x o) h' x o):Inv X ic σ (upd H x o) {s with heap:=h',toks:=t'}:=I.un (Un.write mu he k heo) (I.hok.write mu he k heo new)
theorem Inv.pins_of{pins':List (ig×Obj)}(I:Inv X ic σ H s)(h:∀p∈pins',s.heap.get? p.1=some p.2/\H p.1=none/\p.1≠X.env.locals/\p.1∉X.fs/\∀v,p.2.data≠.cell v):Inv X pins' σ H s:=
 ⟨I.ok,I.os,I.bare,I.base,I.loc,I.cell,I.free,I.freeC,λp hp=>(ui0.mp hp).elim (λz=>I.pin p (List.mem_append_left _ z)) (h p),I.hok,I.len⟩
theorem JR{N:List Str}(hN:N.Nodup){i j:Nat}{x:Str}(a:N[i]?=some x)(b:N[j]?=some x):i=j:=by
 clear 5(ub0.mp a)h1 e1;clear 5(ub0.mp b)h2 e2;exact(ug4 hN).mp (e1.trans e2.symm)
theorem Mg{M:Model}{A:Around}{x:Str}(I:Inv X ic σ H s)(hN:X.N.Nodup)(hi:X.N[i]?=some x)(hx:Loc X.env.scope x)(r:RelV v u)
 (h:∀s',Inv X ic (σ.set i (some v)) H s'->(∃a,Heap.SameBut a s.heap s'.heap/\(a=X.env.locals\/X.env.cells.lookup x=some a))->Q () s') (hf:X.fn x=true\/X.env.scope.names.lookup x=some .local:=by walk_at"h"):wpAny M A (storeName X.env x u) Q E s:=by
 clear 5(id I.loc)m hn hl;have hcls:(X.env.scope.kind==.class||(X.env.scope.kind==.module&&X.env.locals != X.env.globals))=false:=by rw[I.ok.kind];rfl
 have hiσ:i < σ.length:=by rw[I.len];exact(ub0.mp hi).1
 have cne:=I.cne;have tracked:∀{a:ig}{h':Heap},(∃o,s.heap.get? a=some o/\H a=none)->Heap.SameBut a s.heap h'->HOk X.prog X.w H h':=λ{a h'} ha hs b ob e=>by
  obtain⟨_,_,hfree⟩:=ha;refine(I.hok b ob e).stay (λc w' hc q=>(hs.2 c ?_).trans q) (λ_ q=>q) λ_ _ q=>q;rintro rfl;rcases hc with rfl|hc
  .rw[hfree] at e;cases e
  .rw[hfree] at hc;cases hc
 rcases hx with hk|hk
 .refine wpAny_storeName_local hk hn (λh' hn' hs=>?_) hcls;obtain⟨oL,_,_,hoL,_⟩:=id hn;refine h _ ⟨I.ok,I.os,I.bare,⟨λb o e n hb hx=>?_,λb o e n hb hx=>?_,I.base.free,λb o e hx=>?_,I.base.tups,I.base.frzs,I.base.tbls⟩,⟨_,hn',λj y v' e1 e2 e3=>?_⟩,λy c e=>?_,I.free,I.freeC,λp hp=>?_,tracked ⟨oL,hoL,I.free⟩ hs,by simpa using I.len⟩ ⟨_,hs,.inl rfl⟩
  .exact(hs.2 b (ul6 (ue1 (ul5 e) I.ok.above))).trans (I.base.keep b o e n hb hx)
  .clear 5(I.base.slot b o e n hb hx)sl e1;exact⟨sl,(hs.2 b (ul6 (ue1 (ul5 e) I.ok.above))).trans e1⟩
  .clear 5(I.base.there b o e hx)o' e1;exact⟨o',(hs.2 b (ul6 (ue1 (ul5 e) I.ok.above))).trans e1⟩
  .by_cases hj:j=i
   .subst hj;rw[hi] at e1;cases e1
    rw[ub8 hiσ] at e2
    cases e2
    exact⟨u,r,.inl ⟨hk,by simp⟩⟩
   .rw[ud2 (Ne.symm hj)] at e2;clear 5(hl j y v' e1 e2 e3)u' r' q;refine⟨u',r',?_⟩;rcases q with⟨k,e⟩|⟨k,c,e,z⟩
    .refine .inl ⟨k,?_⟩;have:y≠x:=λe=>hj (JR hN e1 (e ▸ hi));simp[this,e]
    .exact .inr ⟨k,c,e,z.sameBut hs (cne y c e)⟩
  .clear 5(I.cell y c e)w' z;exact⟨w',z.sameBut hs (cne y c e)⟩
  .clear 5(I.pin p hp)e n ne nf d;exact⟨(hs.2 p.1 ne).trans e,n,ne,nf,d⟩
 .have hfn:X.fn x=true:=by
   rcases hf with z|z
   .exact z
   .rw[z] at hk;cases hk
  clear 5(I.ok.has x (.inl hk))c hc;clear 5(I.cell x c hc)w' z;refine wpAny_storeName_cell I.ok.kind hk hc z (λh' hc' hs=>?_);clear 5(id z)oc hoc hocd;refine h {s with heap:=h'} ⟨I.ok,I.os,I.bare,⟨λb o e n hb hx=>?_,λb o e n hb hx=>?_,I.base.free,λb o e hx=>?_,I.base.tups,I.base.frzs,I.base.tbls⟩,⟨m,hn.sameBut hs (Ne.symm (cne x c hc)),λj y v' e1 e2 e3=>?_⟩,λy c' e=>?_,I.free,I.freeC,λp hp=>?_,tracked ⟨oc,hoc,I.freeC x c hc⟩ hs,by simpa using I.len⟩ ⟨c,hs,.inr hc⟩
  .exact(hs.2 b (ul6 (ue1 (ul5 e) (I.ok.cab x c hfn hc)))).trans (I.base.keep b o e n hb hx)
  .clear 5(I.base.slot b o e n hb hx)sl e1;exact⟨sl,(hs.2 b (ul6 (ue1 (ul5 e) (I.ok.cab x c hfn hc)))).trans e1⟩
  .clear 5(I.base.there b o e hx)o' e1;exact⟨o',(hs.2 b (ul6 (ue1 (ul5 e) (I.ok.cab x c hfn hc)))).trans e1⟩
  .by_cases hj:j=i
   .subst hj;rw[hi] at e1;cases e1
    rw[ub8 hiσ] at e2
    cases e2
    exact⟨u,r,.inr ⟨.inl hk,c,hc,hc'⟩⟩
   .rw[ud2 (Ne.symm hj)] at e2;clear 5(hl j y v' e1 e2 e3)u' r' q;refine⟨u',r',?_⟩;rcases q with q|⟨k,c',e,z'⟩
    .exact .inl q
    .refine .inr ⟨k,c',e,z'.sameBut hs ?_⟩;rintro rfl;exact hj (JR hN e1 (I.ok.inj _ _ _ e hc ▸ hi))
  .by_cases hcc:c'=c
   .subst hcc;exact⟨_,hc'⟩
   .clear 5(I.cell y c' e)w2 z2;exact⟨w2,z2.sameBut hs hcc⟩
  .clear 5(I.pin p hp)e n ne nf d;refine⟨(hs.2 p.1 ?_).trans e,n,ne,nf,d⟩;intro q;rw[q,hoc] at e;have q':oc=p.2:=ui1 e;exact d w' (by rw[<-q'];exact hocd)
theorem HL{M:Model}{A:Around}{x:Str}(I:Inv X ic σ H s)(hN:X.N.Nodup)(hi:X.N[i]?=some x)(hx:Loc X.env.scope x)(r:RelV v u)
 (h:∀s',Inv X ic (σ.set i (some v)) H s'->Q () s') (hf:X.fn x=true\/X.env.scope.names.lookup x=some .local:=by walk_at"h"):wpAny M A (storeName X.env x u) Q E s:=
 Mg I hN hi hx r (λs' I' _=>h s' I') hf
theorem Inv.call'{s':ij}(I:Inv X ic σ H s)(ho:s'.os=s.os)(u:Un (frs X.stack) ch H H' s.heap s'.heap)(hok:HOk X.prog X.w H' s'.heap)(hg:AllBare s'.gens)
 (hch:∀b∈ch,(b∈X.ex\/X.s₀.heap.objs.size<=b)/\b≠X.env.locals/\(∀x c,X.env.cells.lookup x=some c->c≠b)/\∀p∈X.pn++ic,p.1≠b):Inv X ic σ H' s':=by
 clear 5 s' h' g' d' t' o';have e:o'=s.os:=ho;subst e;exact I.call (g':=g') (t':=t') (d':=d') u hok hg hch
end
abbrev XK:=ie->Option ig->Hp->Prop
abbrev St:=List (Option V)
abbrev VK:=V->Hp->Prop
abbrev TE:=St->Hp->VK->Prop
abbrev TT:=St->Hp->(Bool->Hp->Prop)->Prop
abbrev TA:=St->Hp->(List V->Hp->Prop)->Prop
structure Ends where
 nx:St->Hp->Prop
 rt:VK
 bk:St->Hp->Prop:=λ_ _=>False
 ct:St->Hp->Prop:=λ_ _=>False
abbrev TS:=Ends->St->Hp->Prop
inductive EP(X:Cx)(ic:List (ig×Obj))(σ:St)(Q:VK)(u:ie)(s':ij):Prop where
 |mk (v:V) (H':Hp) (i:Inv X ic σ H' s') (r:RelV v u) (q:Q v H'):EP X ic σ Q u s'
inductive TP(X:Cx)(ic:List (ig×Obj))(σ:St)(Q:Bool->Hp->Prop)(b:Bool)(s':ij):Prop where
 |mk (H':Hp) (i:Inv X ic σ H' s') (q:Q b H'):TP X ic σ Q b s'
inductive AP(X:Cx)(ic:List (ig×Obj))(σ:St)(Q:List V->Hp->Prop)(us:List ie)(s':ij):Prop where
 |mk (vs:List V) (H':Hp) (i:Inv X ic σ H' s') (r:Vals vs us) (q:Q vs H'):AP X ic σ Q us s'
def SP(X:Cx)(ic:List (ig×Obj))(D:Ends)(f:Flow)(s':ij):Prop:=
 match f with
 |.next=>∃σ' H',Inv X ic σ' H' s'/\D.nx σ' H'
 |.brk=>∃σ' H',Inv X ic σ' H' s'/\D.bk σ' H'
 |.cont=>∃σ' H',Inv X ic σ' H' s'/\D.ct σ' H'
 |.ret u=>∃v σ' H',Inv X ic σ' H' s'/\RelV v u/\D.rt v H'
def PE(X:Cx)(e:Expr)(t:TE):Prop:=
 ∀(ic:List (ig×Obj)) (s:ij) (σ:St) (H:Hp) (Q:VK),Inv X ic σ H s->t σ H Q->wpAny (model X.prog X.w) X.A (eval e X.env) (EP X ic σ Q) X.xe s
def PT(X:Cx)(e:Expr)(t:TT):Prop:=
 ∀(ic:List (ig×Obj)) (s:ij) (σ:St) (H:Hp) (Q:Bool->Hp->Prop),Inv X ic σ H s->t σ H Q->wpAny (model X.prog X.w) X.A (isTrue e X.env (eval e X.env)) (TP X ic σ Q) X.xe s
def PW(X:Cx)(e:Expr)(t:TT):Prop:=
 ∀(whole:Sem ie) (ic:List (ig×Obj)) (s:ij) (σ:St) (H:Hp) (Q:Bool->Hp->Prop),Inv X ic σ H s->t σ H Q->wpAny (model X.prog X.w) X.A (isTrue e X.env whole) (TP X ic σ Q) X.xe s
variable{X:Cx}{e:Expr}
theorem PW.pt{t:TT}(h:PW X e t):PT X e t:=h _
def PA(X:Cx)(es:List Expr)(t:TA):Prop:=
 ∀(pos:Pos) (ic:List (ig×Obj)) (s:ij) (σ:St) (H:Hp) (Q:List V->Hp->Prop),Inv X ic σ H s->t σ H Q->wpAny (model X.prog X.w) X.A (spliced (backTo pos (starEach es X.env))) (AP X ic σ Q) X.xe s
def PS(X:Cx)(st:Stmt)(t:TS):Prop:=
 ∀(ic:List (ig×Obj)) (s:ij) (σ:St) (H:Hp) (D:Ends),Inv X ic σ H s->t D σ H->wpAny (model X.prog X.w) X.A (exec st X.env) (SP X ic D) X.xe s
def PSs(X:Cx)(st:List Stmt)(t:TS):Prop:=
 ∀(ic:List (ig×Obj)) (s:ij) (σ:St) (H:Hp) (D:Ends),Inv X ic σ H s->t D σ H->wpAny (model X.prog X.w) X.A (execs st X.env) (SP X ic D) X.xe s
variable{s:ij}
theorem thn{α:Type}{t:Sem α}{Q Q':α->ij->Prop}{M:Model}{A:Around}(h:wpAny M A t Q E s)(hQ:∀a s,Q a s->Q' a s):wpAny M A t Q' E s:=un1 h hQ λ_ _ x=>x
variable{ic:List (ig×Obj)}{σ:St}{c:Expr}
section
variable{X:Cx}
def az(i:Nat):TE:=λσ H Q=>∃v,σ[i]?=some (some v)/\Q v H
def tC(v:V):TE:=λ_ H Q=>Q v H
theorem Hf{x:Str}{pos:Pos}(hN:X.N[i]?=some x)(hv:Vis X.env.scope x)(hd:(x==("__debug__":Str))=false:=by decide)(hcd:(x==("__classdict__":Str))=false:=by decide):PE X (.Name x pos) (az i):=by
 intro ic s σ H Q I h;clear 5 h v e h;clear 5 I.loc m hn hl;clear 5(hl i x v hN e hv)u r l;have fin:EP X ic σ Q u s:=⟨v,H,I,r,h⟩;rcases l with⟨hk,hm⟩|⟨hk,c,hc,hcell⟩
 .exact wpAny_Name (wpAny_loadName_local I.ok.kind hk hn hm fin) hd
 .rcases hk with hk|hk
  .exact wpAny_Name (wpAny_loadName_cell I.ok.kind hk hc hcell fin) hd
  .exact wpAny_Name (wpAny_loadName_free I.ok.kind hk hc hcell fin hcd) hd
theorem Zu{i j pos}:PE X (.Constant (.int i) j pos) (tC (.int i)):=λ_ _ _ H _ I h=>wpAny_Constant_int ⟨.int i,H,I.tok _,⟨_,rfl⟩,h⟩
theorem bB{b j pos}:PE X (.Constant (.bool b) j pos) (tC (.bl b)):=λ_ _ _ H _ I h=>Constant_bool ⟨.bl b,H,I,rfl,h⟩
theorem Zw{j pos}:PE X (.Constant .none j pos) (tC .non):=λ_ _ _ H _ I h=>Constant_none ⟨.non,H,I,rfl,h⟩
theorem R0{x j pos}:PE X (.Constant (.str x) j pos) (tC (.str x)):=λ_ _ _ H _ I h=>Calls.Constant_str ⟨.str x,H,I.tok _,⟨_,rfl⟩,h⟩
def Gl(X:Cx)(x:Str):Prop:=X.env.kindOf x=some .globalImplicit
theorem En{x:Str}{pos:Pos}{Q:ie->ij->Prop}(I:Inv X ic σ H s)(hg:Gl X x)(hm:X.mg x=some u)(h:Q u s)
 (hd:(x==("__debug__":Str))=false:=by decide):wpAny (model X.prog X.w) X.A (eval (.Name x pos) X.env) Q E s:=
 iz I.ok.kind hg (Calls.loadGlobal_global (by rw[I.ok.glob];exact I.mod.glob.keeps I.bk) hm h) hd
theorem Go{x:Str}{pos:Pos}{Q:ie->ij->Prop}(I:Inv X ic σ H s)(hg:Gl X x)(hm:X.mg x=none)(hv:bootBuiltins x=some u)(h:Q u s)
 (hn:x≠"__name__":=by decide) (hd:(x==("__debug__":Str))=false:=by decide):wpAny (model X.prog X.w) X.A (eval (.Name x pos) X.env) Q E s:=by
 clear 5 I.mod.blt mb h1 h2;exact iz I.ok.kind hg (Calls.loadGlobal_builtin (by rw[I.ok.glob];exact I.mod.glob.keeps I.bk) hm (by rw[I.ok.blt];exact h1.keeps I.bk) ((h2 x hn).trans hv) h) hd
theorem Lr{x:Str}{pos:Pos}(hg:Gl X x)(hm:X.mg x=some u)(r:RelV v u)(hd:(x==("__debug__":Str))=false:=by decide):PE X (.Name x pos) (tC v):=
 λ_ _ _ H _ I h=>En I hg hm ⟨v,H,I,r,h⟩ hd
theorem WE{x:Str}{pos:Pos}(hg:Gl X x)(hm:X.mg x=none)(hv:bootBuiltins x=some u)(r:RelV v u)(hn:x≠"__name__":=by decide)(hd:(x==("__debug__":Str))=false:=by decide):PE X (.Name x pos) (tC v):=
 λ_ _ _ H _ I h=>Go I hg hm hv ⟨v,H,I,r,h⟩ hn hd
variable{a b:Expr}{ta tb:TE}{pos:Pos}
def tB(t:TE):TT:=λσ H Q=>t σ H λx H1=>∃c,x=.bl c/\Q c H1
theorem ZI{t:TE}(h:PE X e t)(he:∀whole,isTrue e X.env whole=(do let v <-whole;standAt e.pos;holding [v] (truthy v)):=by intro _;rfl):PT X e (tB t):=by
 intro ic s σ H Q I hw;refine isTrue_plain (thn (h ic s σ H _ I hw) λv s1 z9=>?_) (he _);clear 5 z9 x H1 I1 r1 q1;clear 5 q1 d rfl q
 cases r1
 exact ku ⟨H1,I1,q⟩
variable{tA tB':TT}{rest:List Expr}
def d9(t u:TT):TT:=λσ H Q=>t σ H λc H1=>if c=true then u σ H1 Q else Q false H1
def tOr(t u:TT):TT:=λσ H Q=>t σ H λc H1=>if c=true then Q true H1 else u σ H1 Q
def eF(t:TT):TT:=λσ H Q=>t σ H λc H1=>Q (!c) H1
theorem WW(ha:PT X a tA):PW X (.BoolOp .And [a] pos) tA:=by
 intro wh ic s σ H Q I h;refine isTrue_and (thn (ha ic s σ H Q I h) λc s1 e=>?_)
 cases c with
 |true=>exact isTrue_and_nil e
 |false=>exact e
theorem ZM(ha:PT X a tA):PW X (.BoolOp .Or [a] pos) tA:=by
 intro wh ic s σ H Q I h;refine isTrue_or (thn (ha ic s σ H Q I h) λc s1 e=>?_)
 cases c with
 |false=>exact isTrue_or_nil e
 |true=>exact e
theorem ZK(ha:PT X a tA)(hb:PW X (.BoolOp .And (b::rest) pos) tB'):PW X (.BoolOp .And (a::b::rest) pos) (d9 tA tB'):=by
 intro wh ic s σ H Q I h;refine isTrue_and (thn (ha ic s σ H _ I h) λc s1 z9=>?_);clear 5 z9 H1 I1 q1
 cases c with
 |true=>exact hb wh ic s1 σ H1 Q I1 q1
 |false=>exact⟨H1,I1,q1⟩
theorem bM(ha:PT X a tA)(hb:PW X (.BoolOp .Or (b::rest) pos) tB'):PW X (.BoolOp .Or (a::b::rest) pos) (tOr tA tB'):=by
 intro wh ic s σ H Q I h;refine isTrue_or (thn (ha ic s σ H _ I h) λc s1 z9=>?_);clear 5 z9 H1 I1 q1
 cases c with
 |true=>exact⟨H1,I1,q1⟩
 |false=>exact hb wh ic s1 σ H1 Q I1 q1
theorem ZH(ha:PT X a tA):PT X (.UnaryOp .Not a pos) (eF tA):=by
 intro ic s σ H Q I h;refine isTrue_not (thn (ha ic s σ H (λc H1=>Q (!c) H1) I h) λc s1 z=>?_);clear 5 z H1 I1 q1;exact⟨H1,I1,q1⟩
def bS(ta tb:TE):TE:=λσ H Q=>ta σ H λx H1=>∃c,x=.bl c/\if c=true then tb σ H1 Q else Q (.bl false) H1
def eG(ta tb:TE):TE:=λσ H Q=>ta σ H λx H1=>∃c,x=.bl c/\if c=true then Q (.bl true) H1 else tb σ H1 Q
def bY(ta:TE):TE:=λσ H Q=>ta σ H λx H1=>∃c,x=.bl c/\Q (.bl (!c)) H1
theorem Zy{op}{t:TE}(h:PE X a t):PE X (.BoolOp op [a] pos) t:=λic s σ H Q I hw=>BoolOp_one (h ic s σ H Q I hw)
theorem Zr(ha:PE X a ta)(hb:PE X (.BoolOp .And (b::rest) pos) tb):PE X (.BoolOp .And (a::b::rest) pos) (bS ta tb):=by
 intro ic s σ H Q I h;refine BoolOp_and (thn (ha ic s σ H _ I h) λv s1 z9=>?_);clear 5 z9 x H1 I1 r1 q1;clear 5 q1 c rfl q1
 cases r1
 refine ku ?_
 cases c with
 |true=>exact hb ic s1 σ H1 Q I1 q1
 |false=>exact⟨.bl false,H1,I1,rfl,q1⟩
theorem bD(ha:PE X a ta)(hb:PE X (.BoolOp .Or (b::rest) pos) tb):PE X (.BoolOp .Or (a::b::rest) pos) (eG ta tb):=by
 intro ic s σ H Q I h;refine BoolOp_or (thn (ha ic s σ H _ I h) λv s1 z9=>?_);clear 5 z9 x H1 I1 r1 q1;clear 5 q1 c rfl q1
 cases r1
 refine ku ?_
 cases c with
 |false=>exact hb ic s1 σ H1 Q I1 q1
 |true=>exact⟨.bl true,H1,I1,rfl,q1⟩
theorem Zx(ha:PE X a ta):PE X (.UnaryOp .Not a pos) (bY ta):=by
 intro ic s σ H Q I h;refine UnaryOp_ (thn (ha ic s σ H _ I h) λv s1 z9=>?_);clear 5 z9 x H1 I1 r1 q1;clear 5 q1 c rfl q1
 cases r1
 exact not_of (ku ⟨.bl (!c),H1,I1,rfl,q1⟩)
def tIf(t:TT)(ta tb:TE):TE:=λσ H Q=>t σ H λc H1=>if c=true then ta σ H1 Q else tb σ H1 Q
theorem Ub(hc:PT X c tA)(ha:PE X a ta)(hb:PE X b tb):PE X (.IfExp c a b pos) (tIf tA ta tb):=by
 intro ic s σ H Q I h;refine wpAny_IfExp (thn (hc ic s σ H _ I h) λd s1 z9=>?_);clear 5 z9 H1 I1 q1
 cases d with
 |true=>exact ha ic s1 σ H1 Q I1 q1
 |false=>exact hb ic s1 σ H1 Q I1 q1
end
noncomputable def SqL(K:ib)(H:Hp)(a:ig)(xs:List V):Prop:=
 Rd H a (.lst xs)\/
  ∃(o:Obj) (its:Array ie) (n:Nat),K.lookup a=some o/\o.cls=.type "list"/\o.dict=none/\o.data=.seq its n/\its.size<=sizeLine/\Vals xs its.toList
noncomputable def SqT(K:ib)(H:Hp)(a:ig)(xs:List V):Prop:=
 Rd H a (.tup xs)\/
  ∃(o:Obj) (its:Array ie) (n:Nat),K.lookup a=some o/\o.cls=.type "tuple"/\o.data=.seq its n/\its.size<=sizeLine/\Vals xs its.toList
noncomputable def dB:ie->Option V
 |.none=>some .non
 |.bool b=>some (.bl b)
 |.int i _=>some (.int i)
 |.str x _=>some (.str x)
 |.bytes b _=>some (.byt b)
 |.float b _=>some (.flt b)
 |.ref a=>some (.ref a)
 |.type n=>some (.ty n)
 |_=>none
theorem RelV.abs{x:V}(r:RelV x u):dB u=some x:=by
 cases x with
 |non=>cases r;rfl
 |bl _=>cases r;rfl
 |int _=>clear 5 r t rfl;rfl
 |str _=>clear 5 r t rfl;rfl
 |byt _=>clear 5 r t rfl;rfl
 |flt _=>clear 5 r t rfl;rfl
 |ref _=>cases r;rfl
 |ty _=>cases r;rfl
theorem RelV.inj{x y:V}{u:ie}(r:RelV x u)(q:RelV y u):x=y:=ui1 (r.abs.symm.trans q.abs)
theorem Vals.inj{xs ys:List V}{us:List ie}(a:Vals xs us)(b:Vals ys us):xs=ys:=by
 cases a with
 |nil=>
   cases b
   rfl
 |cons r t=>
   cases b with
   |cons r' t'=>rw[r.inj r',Vals.inj t t']
variable{K:ib}
section
variable{X:Cx}{ic:List (ig×Obj)}{σ:St}{H:Hp}{s:ij}{a:ig}{xs ys:List V}
theorem SqL.of(h:H a=some (.lst xs)):SqL K H a xs:=.inl (.inl h)
theorem SqT.of(h:H a=some (.tup xs)):SqT K H a xs:=.inl (.inl h)
theorem Inv.list(I:Inv X ic σ H s)(h:SqL X.K H a xs):∃its:List ie,Vals xs its/\PlainL s.heap a its.toArray/\xs.length<=sizeLine:=by
 rcases h with h|⟨o,its,n,hk,hc,hd,hs,hz,r⟩
 .clear 5(h.ok I.hok)z its n r e;exact⟨its,r,⟨_,n,e,rfl,rfl,rfl⟩,z⟩
 .refine⟨its.toList,r,⟨o,n,I.kIn a o hk,hc,hd,by simpa using hs⟩,?_⟩;have e:=r.length;simp only[ud5] at e;lia
theorem Inv.tuple(I:Inv X ic σ H s)(h:SqT X.K H a xs):∃its:List ie,Vals xs its/\IsTup s.heap a its.toArray/\xs.length<=sizeLine:=by
 rcases h with h|⟨o,its,n,hk,hc,hs,hz,r⟩
 .clear 5(h.ok I.hok)z its r p;exact⟨its,r,p,z⟩
 .refine⟨its.toList,r,⟨o,I.kIn a o hk,hc,n,by simpa using hs⟩,?_⟩;have e:=r.length;simp only[ud5] at e;lia
theorem Inv.list_inj(I:Inv X ic σ H s)(h:SqL X.K H a xs)(h':SqL X.K H a ys):xs=ys:=by
 obtain⟨its,r,⟨o,n,e,_,_,d⟩,_⟩:=I.list h;obtain⟨its',r',⟨o',n',e',_,_,d'⟩,_⟩:=I.list h';rw[e] at e';cases e'
 rw[d] at d';injection d' with d1 _
 have:its=its':=by simpa using lu Array.toList d1
 subst this;exact r.inj r'
theorem Inv.tuple_inj(I:Inv X ic σ H s)(h:SqT X.K H a xs)(h':SqT X.K H a ys):xs=ys:=by
 obtain⟨its,r,⟨o,e,_,n,d⟩,_⟩:=I.tuple h;obtain⟨its',r',⟨o',e',_,n',d'⟩,_⟩:=I.tuple h';rw[e] at e';cases e'
 rw[d] at d';injection d' with d1 _
 have:its=its':=by simpa using lu Array.toList d1
 subst this;exact r.inj r'
end
abbrev Cx.wish(X:Cx)(E:ie->ij->Prop):Cx:={X with xe:=E}
abbrev Cx.nox(X:Cx):Cx:=X.wish λ_ _=>False
theorem Cx.Ok.wish{X:Cx}(ok:X.Ok)(E:ie->ij->Prop):(X.wish E).Ok:=
 ⟨ok.mod,ok.kind,ok.glob,ok.blt,ok.above,ok.inj,ok.has,ok.cab,ok.hd,ok.frames,ok.stk,ok.exf,ok.bs,ok.bsz,ok.noex,ok.exfs,ok.funs,ok.frf⟩
theorem Cx.Ok.unwish(ok:(X.wish E).Ok):X.Ok:=
 ⟨ok.mod,ok.kind,ok.glob,ok.blt,ok.above,ok.inj,ok.has,ok.cab,ok.hd,ok.frames,ok.stk,ok.exf,ok.bs,ok.bsz,ok.noex,ok.exfs,ok.funs,ok.frf⟩
section
variable{X:Cx}{ic:List (ig×Obj)}{σ:St}{H:Hp}{s:ij}{E:ie->ij->Prop}
theorem Inv.wish(I:Inv X ic σ H s)(E:ie->ij->Prop):Inv (X.wish E) ic σ H s:=⟨I.ok.wish E,I.os,I.bare,I.base,I.loc,I.cell,I.free,I.freeC,I.pin,I.hok,I.len⟩
theorem Inv.unwish(I:Inv (X.wish E) ic σ H s):Inv X ic σ H s:=⟨I.ok.unwish,I.os,I.bare,I.base,I.loc,I.cell,I.free,I.freeC,I.pin,I.hok,I.len⟩
theorem SP.unwish{D:Ends}{f:Flow}{s':ij}(h:SP (X.wish E) ic D f s'):SP X ic D f s':=by
 cases f with
 |next=>clear 5 h σ' H' I q;exact⟨σ',H',I.unwish,q⟩
 |brk=>clear 5 h σ' H' I q;exact⟨σ',H',I.unwish,q⟩
 |cont=>clear 5 h σ' H' I q;exact⟨σ',H',I.unwish,q⟩
 |ret u=>clear 5 h v σ' H' I r q;exact⟨v,σ',H',I.unwish,r,q⟩
theorem PSs.nox{st:List Stmt}{t:TS}(h:PSs X.nox st t):PSs X st t:=λic s σ H D I hw=>
 un1 (h ic s σ H D (I.wish _) hw) (λ_ _ q=>q.unwish) λ_ _ z=>False.elim z
end
section
variable{X:Cx}{st:Stmt}{rest:List Stmt}{t u:TS}{e:Expr}{te:TE}{pos:Pos}
def Vm:TS:=λD σ H=>D.nx σ H
def eI(t u:TS):TS:=λD σ H=>t {D with nx:=u D} σ H
theorem WT:PSs X [] Vm:=λ_ _ σ H _ I h=>kN ⟨σ,H,I,h⟩
theorem Ul(h1:PS X st t)(h2:PSs X rest u):PSs X (st::rest) (eI t u):=by
 intro ic s σ H D I h;refine wpAny_execs_cons (thn (h1 ic s σ H {D with nx:=u D} I h) λf s1 q=>?_)
 cases f with
 |next=>
   clear 5 q σ' H' I' q;exact h2 ic s1 σ' H' D I' q
 |ret v=>exact q
 |brk=>exact q
 |cont=>exact q
theorem Lv(h1:PS X st t):PSs X [st] t:=by
 intro ic s σ H D I h;refine wpAny_execs_cons (thn (h1 ic s σ H D I h) λf s1 q=>?_)
 cases f with
 |next=>exact kN q
 |ret v=>exact q
 |brk=>exact q
 |cont=>exact q
def au:TS:=λD σ H=>D.bk σ H
def bV:TS:=λD σ H=>D.ct σ H
theorem WR:PS X (.Pass pos) Vm:=λ_ _ σ H _ I h=>wpAny_Pass ⟨σ,H,I,h⟩
theorem Ui:PS X (.Break pos) au:=λ_ _ σ H _ I h=>wpAny_Break ⟨σ,H,I,h⟩
theorem Od:PS X (.Continue pos) bV:=λ_ _ σ H _ I h=>wpAny_Continue ⟨σ,H,I,h⟩
theorem Inv.quiet(I:Inv X ic σ H s):interactive X.env=false:=by simp[interactive,I.ok.kind]
def Vk(te:TE):TS:=λD σ H=>te σ H λ_ H1=>D.nx σ H1
theorem Lu(he:PE X e te)(hs:swapsWith e none pos.line X.env=pure false:=by rfl):PS X (.Expr e pos) (Vk te):=by
 intro ic s σ H D I h;exact wpAny_Expr_any (thn (he ic s σ H _ I h) λv s1 z9=>by clear 5 z9 x H1 I1 r1 q1;exact⟨σ,H1,I1,q1⟩) I.quiet hs
def eH(te:TE):TS:=λD σ H=>te σ H D.rt
theorem IM(he:PE X e te):PS X (.Return (some e) pos) (eH te):=by
 intro ic s σ H D I h;exact wpAny_Return_some (thn (he ic s σ H _ I h) λv s1 z9=>by clear 5 z9 x H1 I1 r1 q1;exact⟨x,σ,H1,I1,r1,q1⟩)
def eD(c:TT)(t u:TS):TS:=λD σ H=>c σ H λb H1=>if b=true then t D σ H1 else u D σ H1
theorem bJ{a b:List Stmt}{tc:TT}(hc:PT X c tc)(ha:PSs X a t)(hb:PSs X b u):PS X (.If c a b pos) (eD tc t u):=by
 intro ic s σ H D I h;refine wpAny_If (thn (hc ic s σ H _ I h) λd s1 z9=>?_);clear 5 z9 H1 I1 q1
 cases d with
 |true=>exact ha ic s1 σ H1 D I1 q1
 |false=>exact hb ic s1 σ H1 D I1 q1
end
abbrev TG:=V->St->Hp->(St->Hp->Prop)->Prop
abbrev TGs:=List V->St->Hp->(St->Hp->Prop)->Prop
def PG(X:Cx)(target:Expr)(t:TG):Prop:=
 ∀(ic:List (ig×Obj)) (s:ij) (σ:St) (H:Hp) (v:V) (u:ie) (Q:St->Hp->Prop),Inv X ic σ H s->RelV v u->t v σ H Q->
  wpAny (model X.prog X.w) X.A (assign target X.env u) (λ_ s'=>∃σ' H',Inv X ic σ' H' s'/\Q σ' H') X.xe s
def PGs(X:Cx)(ts:List Expr)(t:TGs):Prop:=
 ∀(ic:List (ig×Obj)) (s:ij) (σ:St) (H:Hp) (vs:List V) (us:List ie) (Q:St->Hp->Prop),Inv X ic σ H s->Vals vs us->t vs σ H Q->
  wpAny (model X.prog X.w) X.A (assignInOrder ((assignEach ts X.env).map (·.2)) us) (λ_ s'=>∃σ' H',Inv X ic σ' H' s'/\Q σ' H') X.xe s
abbrev SR:=V->V->V->Hp->(Hp->Prop)->Prop
def XT(X:Cx)(t:SR):Prop:=
 ∀(ic:List (ig×Obj)) (s:ij) (σ:St) (H:Hp) (o i v:V) (ov iv u:ie) (Q:Hp->Prop),Inv X ic σ H s->RelV o ov->RelV i iv->RelV v u->t o i v H Q->
  wpAny (model X.prog X.w) X.A (setItem ov iv u) (λ_ s'=>∃H',Inv X ic σ H' s'/\Q H') X.xe s
variable{tg:Expr}
section
variable{X:Cx}{pos:Pos}
def Ky(i:Nat):TG:=λv σ H Q=>Q (σ.set i (some v)) H
theorem WJ{x:Str}(hN:X.N.Nodup)(hi:X.N[i]?=some x)(hx:Loc X.env.scope x)(hf:X.fn x=true\/X.env.scope.names.lookup x=some .local:=by walk_at"h"):PG X (.Name x pos) (Ky i):=by
 intro ic s σ H v u Q I r h;exact wpAny_assign_Name (HL I hN hi hx r (λs' I'=>⟨_,H,I',h⟩) hf)
def dL:TGs:=λvs σ H Q=>vs=[]/\Q σ H
def U6(t:TG)(u:TGs):TGs:=λvs σ H Q=>∃v r,vs=v::r/\t v σ H λσ' H'=>u r σ' H' Q
theorem WK:PGs X [] dL:=by
 intro ic s σ H vs us Q I r h;clear 5 h e h;subst e
 cases r
 exact assignInOrder_nil ⟨σ,H,I,h⟩
theorem Ue{es:List Expr}{t:TG}{u:TGs}(h1:PG X e t)(h2:PGs X es u)
 (hs:(assignEach (e::es) X.env).map (·.2)=assign e X.env::(assignEach es X.env).map (·.2):=by rfl):PGs X (e::es) (U6 t u):=by
 intro ic s σ H vs us Q I r h;clear 5 h v vr e1 h;subst e1
 cases r with
 |cons r rr=>
   rw[hs];refine assignInOrder_cons (thn (h1 ic s σ H _ _ _ I r h) λ_ s1 z9=>?_);clear 5 z9 σ1 H1 I1 q1;exact h2 ic s1 σ1 H1 _ _ Q I1 rr q1
def dN(K:ib)(n:Nat)(t:TGs):TG:=λv σ H Q=>∃a xs,v=.ref a/\SqT K H a xs/\xs.length=n/\t xs σ H Q
theorem ZB{es:List Expr}{k:Nat}{t:TGs}{n:Nat}(hc:X.calm=true)(h:PGs X es t)
 (hn:(assignEach es X.env).length=n:=by rfl) (hst:(assignEach es X.env).findIdx? (·.1)=none:=by rfl):PG X (.Tuple es k pos) (dN X.K n t):=by
 intro ic s σ H v u Q I r hw;clear 5 hw a xs e1 hq hl hw;subst e1
 cases r
 clear 5(I.tuple hq)its rv ht hz;refine assign_Tuple_tuple (I.ok.hd hc) ht (by simp[hn,<-hl,rv.length]) hst λh' hx=>?_;have I1:Inv X ic σ H {s with heap:=h'}:=I.kept (t':=s.toks) λb o e=>hx b o (ul6 (ul5 e)) e;exact h ic _ σ H xs _ Q I1 (by simpa using rv) hw
def dM(to ti:TE)(t:SR):TG:=λv σ H Q=>to σ H λo H1=>ti σ H1 λi H2=>t o i v H2 λH3=>Q σ H3
theorem ZA{o i:Expr}{to ti:TE}{t:SR}(ho:PE X o to)(hi:PE X i ti)(hs:XT X t)
 (ha:∀v,assign (.Subscript o i pos) X.env v=(do
   let ov <-holding [v] (eval o X.env)
   let iv <-holding [v,ov] (eval i X.env)
   standAt pos
   holding [v,ov,iv] (setItem ov iv v)
   release [v,ov,iv] []):=by intro _;rfl):PG X (.Subscript o i pos) (dM to ti t):=by
 intro ic s σ H v u Q I r h;rw[ha];refine um9 (ul4 (thn (ho ic s σ H _ I h) λov s1 z9=>?_));clear 5 z9 x H1 I1 r1 q1;refine um9 (ul4 (thn (hi ic s1 σ H1 _ I1 q1) λiv s2 z9=>?_));clear 5 z9 y H2 I2 r2 q2;refine um9 (kU (um9 (ul4 (thn (hs ic s2 σ H2 x y v ov iv u _ I2 r1 r2 r q2) λ_ s3 z9=>?_))));clear 5 z9 H3 I3 q3;exact wpAny_release ⟨σ,H3,I3,q3⟩
def NY(te:TE)(g:TG):TS:=λD σ H=>te σ H λx H1=>g x σ H1 D.nx
theorem Sa{te:TE}{g:TG}(he:PE X e te)(hg:PG X tg g)(hs:swapsWithSole [tg] e pos.line X.env=pure false:=by rfl)(hw:swappedStores [tg] e X.env=pure none:=by rfl)
 (h1:(assignEach [tg] X.env).map (·.2)=[assign tg X.env]:=by rfl):PS X (.Assign [tg] e pos) (NY te g):=by
 intro ic s σ H D I h;refine wpAny_Assign_stores (thn (he ic s σ H _ I h) λv s1 z9=>?_) hs hw;clear 5 z9 x H1 I1 r1 q1;rw[h1];exact thn (hg ic s1 σ H1 x v _ I1 r1 q1) λ_ s2 q=>q
theorem NH{x:Str}{te:TE}{pos':Pos}(hN:X.N.Nodup)(hi:X.N[i]?=some x)(hx:Loc X.env.scope x)(he:PE X e te)(hs:swapsWith e (some (.Name x pos')) pos.line X.env=pure false:=by rfl)(hf:X.fn x=true\/X.env.scope.names.lookup x=some .local:=by walk_at"h") :
 PS X (.Assign [.Name x pos'] e pos) (NY te (Ky i)):=by
 intro ic s σ H D I h;refine wpAny_Assign_Name (thn (he ic s σ H _ I h) λv s1 z9=>?_) hs;clear 5 z9 y H1 I1 r1 q1;exact HL I1 hN hi hx r1 (λs2 I2=>⟨_,H1,I2,q1⟩) hf
end
section
variable{X:Cx}{pos:Pos}
def SA(c:TT)(tb:TS):TS:=λD σ H=>∃W:Nat->St->Hp->Prop,(∃m,W m σ H)/\∀m σ H,W m σ H->
 c σ H λb H1=>if b=true then ∃N:St->Hp->Prop,(∀σ' H',N σ' H'->∃m',m'<m/\W m' σ' H')/\tb {D with nx:=N,ct:=N,bk:=D.nx} σ H1 else D.nx σ H1
theorem Uj{body:List Stmt}{tc:TT}{tb:TS}(hp:PassesOwn (model X.prog X.w) X.A X.env X.xe)(hc:PT X c tc)(hb:PSs X body tb):PS X (.While c body [] pos) (SA tc tb):=by
 intro ic s σ H D I h;obtain⟨W,⟨m0,w0⟩,turn⟩:=h;refine wpAny_While (codeAny_whileLoop (λn s'=>∃σ' H',Inv X ic σ' H' s'/\W n σ' H') ?_ m0 ⟨σ,H,I,w0⟩);rintro n s1 ⟨σ1,H1,I1,w1⟩;refine kO hp (thn (hc ic s1 σ1 H1 _ I1 (turn n σ1 H1 w1)) λb s2 z9=>?_);clear 5 z9 H2 I2 q2
 cases b with
 |true=>
   clear 5 q2 N hN q2;rw[lD rfl];refine kO hp (thn (hb ic s2 σ1 H2 _ I2 q2) λf s3 q3=>?_)
   cases f with
   |next=>
     clear 5 q3 σ3 H3 I3 n3;clear 5(hN σ3 H3 n3)m' hm w3;exact⟨m',hm,σ3,H3,I3,w3⟩
   |cont=>
     clear 5 q3 σ3 H3 I3 n3;clear 5(hN σ3 H3 n3)m' hm w3;exact⟨m',hm,σ3,H3,I3,w3⟩
   |brk=>exact q3
   |ret v=>exact q3
 |false=>
   rw[lE ue3];exact kN ⟨σ1,H2,I2,q2⟩
end
structure It where
 go:Nat->Hp->Prop
 yld:Nat->Hp->V->Hp->Prop
 stop:Nat->Hp->Prop
def FpOk(X:Cx)(ic:List (ig×Obj))(H:Hp)(b:ig):Prop:=
 H b=none/\b≠X.env.locals/\b∉X.fs/\(b∈X.ex\/X.s₀.heap.objs.size<=b)/\(∀x c,X.env.cells.lookup x=some c->c≠b)/\∀p∈X.pn++ic,p.1≠b
theorem Inv.fpOk{H':Hp}(I:Inv X ic σ H s)(hb:s.heap.objs.size<=b)(hn:H' b=none):FpOk X ic H' b:=by
 refine⟨hn,ul8 (ue1 I.lt hb),I.nofs hb,.inr (ul7 I.sz hb),λx c e z=>?_,λp hp z=>?_⟩
 .clear 5(I.cell x c e)v q;exact absurd (ue1 q.lt (by rw[z];exact hb)) (uk2 _)
 .exact absurd (ue1 (ul5 (I.pin p hp).1) (by rw[z];exact hb)) (uk2 _)
structure Turn(P:im)(w:ir)(K:ib)(tg:Expr)(J:It)(fp:List ig)(it:ig)(tn:Nat->Heap->Prop):Prop where
 mem:it∈fp
 obj:∀i h,tn i h->∀b∈fp,∃o,h.get? b=some o/\∀v,o.data≠.cell v
 keep:∀i h h',tn i h->(∀b∈fp,∀o,h.get? b=some o->h'.get? b=some o)->tn i h'
 item:∀(X:Cx),X.prog=P->X.w=w->X.K=K->X.calm=true->∀(i:Nat) (ic:List (ig×Obj)) (s:ij) (σ:St) (H:Hp) (E:ie->ij->Prop),Inv X ic σ H s->(∀b∈fp,FpOk X ic H b)->tn i s.heap->J.go i H->
  wpAny (model P w) X.A (pyNext (.ref it)) (λr s1=>∃u,r=some u/\
   wpAny (model P w) X.A (letOwnedTupleGo tg (.ref it) u) (λ_ s2=>∃x H',Inv X ic σ H' s2/\RelV x u/\J.yld i H x H'/\tn (i+1) s2.heap/\∀b∈fp,H' b=none) E s1) E s
 done:∀(X:Cx),X.prog=P->X.w=w->X.K=K->X.calm=true->∀(i:Nat) (ic:List (ig×Obj)) (s:ij) (σ:St) (H:Hp) (E:ie->ij->Prop),Inv X ic σ H s->(∀b∈fp,FpOk X ic H b)->tn i s.heap->J.stop i H->
  wpAny (model P w) X.A (pyNext (.ref it)) (λr s1=>r=none/\Inv X ic σ H s1) E s
 self:∀(A:Around) (i:Nat) (s:ij) (Q:ie->ij->Prop) (E:ie->ij->Prop),tn i s.heap->Q (.ref it) s->wpAny (model P w) A (pyIter (.ref it)) Q E s
abbrev TI:=St->Hp->(It->Hp->Prop)->Prop
def PIE(X:Cx)(ic:List (ig×Obj))(σ:St)(tg:Expr)(R:It->Hp->Prop)(itv:ie)(s2:ij):Prop:=
 ∃(it:ig) (fp:List ig) (tn:Nat->Heap->Prop) (J:It) (H':Hp),itv=.ref it/\Inv X ic σ H' s2/\Turn X.prog X.w X.K tg J fp it tn/\tn 0 s2.heap/\(∀b∈fp,FpOk X ic H' b)/\R J H'
def PI(X:Cx)(tg iter:Expr)(wi:TI):Prop:=
 ∀(ic:List (ig×Obj)) (s:ij) (σ:St) (H:Hp) (R:It->Hp->Prop),Inv X ic σ H s->wi σ H R->
  wpAny (model X.prog X.w) X.A (eval iter X.env) (λv s1=>wpAny (model X.prog X.w) X.A (pyIter v) (PIE X ic σ tg R) X.xe s1) X.xe s
theorem Mw{M:Model}{A:Around}{it:ig}{o:Obj}{n:String}{vs:Array ie}(ho:s.heap.get? it=some o)(hc:o.cls=.type n)(hd:o.data=.fields vs)
 (hn:["enumerate", "zip", "dict_itemiterator", "dict_reverseitemiterator", "odict_iterator", "itertools.zip_longest", "itertools.pairwise"].contains n=false) (hQ:Q () s):wpAny M A (letOwnedTupleGo tg (.ref it) u) Q E s:=by
 unfold letOwnedTupleGo
 cases tg<;>first
  |exact un0 hQ
  | (cases u <;> first
      |exact un0 hQ
      | (refine um9 (wpAny_load ho ?_)
         rw[hc,hd];show wpAny M A (if (["enumerate", "zip", "dict_itemiterator", "dict_reverseitemiterator", "odict_iterator", "itertools.zip_longest", "itertools.pairwise"].contains n&&vs[0]?==some (rawInt _))=true then _ else _) Q E s;rw[lE (by intro h;rw[hn,uj7] at h;cases h)]
         exact un0 hQ))
def Itl(K:ib)(a:ig):It:=
 ⟨λi H=>∃xs x,SqL K H a xs/\xs[i]?=some x,λi H x H'=>H'=H/\∀xs,SqL K H a xs->xs[i]?=some x,λi H=>∃xs,SqL K H a xs/\xs.length<=i⟩
def Itt(K:ib)(a:ig):It:=
 ⟨λi H=>∃xs x,SqT K H a xs/\xs[i]?=some x,λi H x H'=>H'=H/\∀xs,SqT K H a xs->xs[i]?=some x,λi H=>∃xs,SqT K H a xs/\xs.length<=i⟩
noncomputable def Itr(lo:Int)(n:Nat):It:=⟨λi _=>i<n,λi H x H'=>H'=H/\x=.int (lo+i),λi _=>n<=i⟩
theorem SE(a it:ig):Turn P w K tg (Itl K a) [it] it (λi h=>h.IsListIter it a i) where
 mem:=by simp
 obj:=λi h st b hb=>by
  have e:b=it:=by simpa using hb
  subst e;clear 5 st o e c d;exact⟨o,e,λv z=>by rw[d] at z;cases z⟩
 keep:=λi h h' st k=>st.at λo e=>k it (by simp) o e
 item:=by
  intro X hP hw hK hc i ic s σ H E I hf st hg;subst hP hw hK;clear 5 hg xs x hq hx;clear 5(I.list hq)its rv p hz;clear 5(rv.get hx)u hu ru;clear 5(hf it (by simp))f0 f1 f2 f3 f4 f5;refine wpAny_pyNext_list_item st p.isList (x:=u) (by simpa using hu) λh' st' sb=>?_;have I1:Inv X ic σ H {s with heap:=h'}:=I.turned (t':=s.toks) (λb o hb e=>(sb.2 b hb).trans e) f0 f1 f3 f4 f5;clear 5(id st')o e c d;exact⟨u,rfl,Mw (s:={s with heap:=h'}) e c d (by decide) ⟨x,H,I1,ru,⟨rfl,λys hy=>by rw[I.list_inj hy hq];exact hx⟩,st',λb hb=>(hf b hb).1⟩⟩
 done:=by
  intro X hP hw hK hc i ic s σ H E I hf st hg;subst hP hw hK;clear 5 hg xs hq hx;clear 5(I.list hq)its rv p hz;clear 5(hf it (by simp))f0 f1 f2 f3 f4 f5;have hl:=rv.length;exact wpAny_pyNext_list_end (I.ok.hd hc) st p.isList (by simp;lia) λh' eb=>⟨rfl,I.turned (t':=s.toks) (λb o hb e=>eb b o hb e) f0 f1 f3 f4 f5⟩
 self:=λ_ _ _ _ _ st h=>wpAny_pyIter_listiter st h
theorem Qo(a it:ig):Turn P w K tg (Itt K a) [it] it (λi h=>h.IsTupleIter it a i) where
 mem:=by simp
 obj:=λi h st b hb=>by
  have e:b=it:=by simpa using hb
  subst e;clear 5 st o e c d;exact⟨o,e,λv z=>by rw[d] at z;cases z⟩
 keep:=λi h h' st k=>st.at λo e=>k it (by simp) o e
 item:=by
  intro X hP hw hK hc i ic s σ H E I hf st hg;subst hP hw hK;clear 5 hg xs x hq hx;clear 5(I.tuple hq)its rv p hz;clear 5(rv.get hx)u hu ru;clear 5(hf it (by simp))f0 f1 f2 f3 f4 f5;refine wpAny_pyNext_tuple_item st (show s.heap.IsTuple a its.toArray from p) (x:=u) (by simpa using hu) λh' st' sb=>?_;have I1:Inv X ic σ H {s with heap:=h'}:=I.turned (t':=s.toks) (λb o hb e=>(sb.2 b hb).trans e) f0 f1 f3 f4 f5;clear 5(id st')o e c d;exact⟨u,rfl,Mw (s:={s with heap:=h'}) e c d (by decide) ⟨x,H,I1,ru,⟨rfl,λys hy=>by rw[I.tuple_inj hy hq];exact hx⟩,st',λb hb=>(hf b hb).1⟩⟩
 done:=by
  intro X hP hw hK hc i ic s σ H E I hf st hg;subst hP hw hK;clear 5 hg xs hq hx;clear 5(I.tuple hq)its rv p hz;clear 5(hf it (by simp))f0 f1 f2 f3 f4 f5;have hl:=rv.length;exact wpAny_pyNext_tuple_end (I.ok.hd hc) st (show s.heap.IsTuple a its.toArray from p) (by simp;lia) λh' eb=>⟨rfl,I.turned (t':=s.toks) (λb o hb e=>eb b o hb e) f0 f1 f3 f4 f5⟩
 self:=λ_ _ _ _ _ st h=>wpAny_pyIter_tupleiter st h
theorem Qn(it:ig)(lo:Int)(n:Nat):Turn P w K tg (Itr lo n) [it] it (λi h=>IsRangeIter h it (lo+(i:Nat)*1) ((n:Int)-(i:Nat)) 1) where
 mem:=by simp
 obj:=λi h st b hb=>by
  have e:b=it:=by simpa using hb
  subst e;exact⟨_,st,λv z=>by
   have z':Data.fields _=Data.cell v:=z
   cases z'⟩
 keep:=λi h h' st k=>k it (by simp) _ st
 item:=by
  intro X hP hw hK hc i ic s σ H E I hf st hg;subst hP hw hK;clear 5(hf it (by simp))f0 f1 f2 f3 f4 f5;have W:=Walks.range (prog:=X.prog) (w:=X.w) (I.ok.hd hc) it lo 1 n;refine W.item i s _ _ hg st λv h' tk hv st' kk=>?_;clear 5 hv t rfl;have I1:Inv X ic σ H {s with heap:=h',toks:=tk}:=I.turned (λb o hb e=>kk b o (by simpa using hb) e) f0 f1 f3 f4 f5;refine⟨_,rfl,Mw (s:={s with heap:=h',toks:=tk}) (n:="range_iterator") st' rfl rfl (by decide) ⟨.int (lo+i),H,I1,⟨t,?_⟩,⟨rfl,rfl⟩,st',λb hb=>(hf b hb).1⟩⟩;rw[Int.mul_one]
 done:=by
  intro X hP hw hK hc i ic s σ H E I hf st hg;subst hP hw hK;clear 5(hf it (by simp))f0 f1 f2 f3 f4 f5;exact wpAny_pyNext_range_end (I.ok.hd hc) st (by have:n<=i:=hg;lia) λh' eb=>⟨rfl,I.turned (t':=s.toks) (λb o hb e=>eb b o hb e) f0 f1 f3 f4 f5⟩
 self:=λ_ _ _ _ _ st h=>wpAny_pyIter_rangeiter st h
variable{fp:List ig}
section
variable{X:Cx}{tg:Expr}
theorem NJ{R:It->Hp->Prop}{lo hi:Int}{t u v:Tok}{tk:Nat}(I:Inv X ic σ H s)(h1 : -(2 ^ 62)<=lo)(h2:lo<2 ^ 62)(h3 : -(2 ^ 62)<=hi)(h4:hi<2 ^ 62)
 (q:R (Itr lo (hi-lo).toNat) H):wpAny (model X.prog X.w) X.A (pyIter (.ref s.heap.objs.size)) (PIE X ic σ tg R) E {s with heap:=s.heap.push {cls:=.type "range",data:=.fields #[.int lo t,.int hi u,.int 1 v]},toks:=tk}:=by
 refine wpAny_pyIter_range (IsRange.new ..) (small_one h1 h2 h3 h4) ?_;have I1:Inv X ic σ H {s with heap:=s.heap.push {cls:=.type "range",data:=.fields #[.int lo t,.int hi u,.int 1 v]},toks:=tk}:=I.kept λb o e=>ub9 _ e;refine⟨(s.heap.push {cls:=.type "range",data:=.fields #[.int lo t,.int hi u,.int 1 v]}).objs.size,[(s.heap.push {cls:=.type "range",data:=.fields #[.int lo t,.int hi u,.int 1 v]}).objs.size],_,_,H,rfl,
  I1.kept (t':=tk) λb o e=>ub9 _ e,Qn _ lo (hi-lo).toNat,?_,λb hb=>?_,q⟩
 .have e1:lo+((0:Nat):Int)*1=lo:=by simp
  have e2:(((hi-lo).toNat:Nat):Int)-((0:Nat):Int)=Builtin.Range.rangeSize lo hi 1:=by rw[rangeSize_one];split<;>lia
  show IsRangeIter _ _ (lo+((0:Nat):Int)*1) ((((hi-lo).toNat:Nat):Int)-((0:Nat):Int)) 1;rw[e1,e2];exact ud6 _ rfl
 .have e:b=(s.heap.push {cls:=.type "range",data:=.fields #[.int lo t,.int hi u,.int 1 v]}).objs.size:=by simpa using hb
  subst e;exact I1.fpOk (um5 _) (I1.hok.fresh (um5 _))
def bp(ta:TA):TI:=λσ H R=>ta σ H λvs H1=>∃j:Int,vs=[.int j]/\-(2 ^ 62)<=j/\j<2 ^ 62/\R (Itr 0 j.toNat) H1
def bq(ta:TA):TI:=λσ H R=>ta σ H λvs H1=>∃i j:Int,vs=[.int i,.int j]/\(-(2 ^ 62)<=i/\i<2 ^ 62/\-(2 ^ 62)<=j/\j<2 ^ 62)/\R (Itr i (j-i).toNat) H1
theorem R4{a:Expr}{ta:TA}{p pos:Pos}(hg:Gl X "range")(hm:X.mg "range" = none)(ha:PA X [a] ta)(hs:starEach [a] X.env=[(false,eval a X.env)]:=by rfl):PI X tg (.Call (.Name "range" p) [a] [] pos) (bp ta):=by
 intro ic s σ H R I h;refine Call_ (Go I hg hm boot_range (ua5 (thn (ha pos ic s σ H _ I h) λus s1 z9=>?_) hs rfl));clear 5 z9 vs H1 I1 r1 q1;clear 5 q1 j e q1 q2 q;subst e
 cases r1 with
 |cons r rr=>
   cases rr
   clear 5 r t rfl;exact call_range_1 (NJ I1 (by lia) (by lia) q1 q2 (by simpa using q))
theorem R5{a b:Expr}{ta:TA}{p pos:Pos}(hg:Gl X "range")(hm:X.mg "range" = none)(ha:PA X [a,b] ta)(hs:starEach [a,b] X.env=[(false,eval a X.env),(false,eval b X.env)]:=by rfl)(hs2:starEach [b] X.env=[(false,eval b X.env)]:=by rfl) :
 PI X tg (.Call (.Name "range" p) [a,b] [] pos) (bq ta):=by
 intro ic s σ H R I h;refine Call_ (Go I hg hm boot_range (ua5 (thn (ha pos ic s σ H _ I h) λus s1 z9=>?_) (by rw[hs,hs2]) (by rw[hs2];rfl)));clear 5 z9 vs H1 I1 r1 q1;obtain⟨i,j,e,⟨q1,q2,q3,q4⟩,q⟩:=q1;subst e
 cases r1 with
 |cons r rr=>
   cases rr with
   |cons r' rr=>
     cases rr
     clear 5 r t rfl;clear 5 r' t' rfl;exact call_range_2 (NJ I1 q1 q2 q3 q4 q)
def UF(wi:TI)(g:TG)(tb:TS):TS:=λD σ H=>wi σ H λJ H1=>∃W:Nat->Nat->St->Hp->Prop,(∃m,W 0 m σ H1)/\∀i m σ H,W i m σ H->
 (J.stop i H/\D.nx σ H)\/(J.go i H/\∃N:St->Hp->Prop,(∀σ' H',N σ' H'->∃m',m'<m/\W (i+1) m' σ' H')/\∀x H',J.yld i H x H'->g x σ H' λσ2 H2=>tb {D with nx:=N,ct:=N,bk:=D.nx} σ2 H2)
noncomputable def IL(fp:List ig)(h:Heap):List (ig×Obj):=fp.filterMap λb=>(h.get? b).map λo=>(b,o)
theorem FO{o:Obj}(hb:b∈fp)(e:h.get? b=some o):(b,o)∈IL fp h:=List.mem_filterMap.mpr ⟨b,hb,by rw[e];rfl⟩
theorem RK{p:ig×Obj}(hp:p∈IL fp h):p.1∈fp/\h.get? p.1=some p.2:=by
 clear 5(List.mem_filterMap.mp hp)b hb e
 cases q:h.get? b with
 |none=>rw[q] at e;cases e
 |some o=>
   rw[q] at e;have e':(b,o)=p:=ui1 e;subst e';exact⟨hb,q⟩
theorem Inv.pinned(I:Inv X ic σ H s)(hf:∀b∈fp,FpOk X ic H b)(ho:∀b∈fp,∃o,s.heap.get? b=some o/\∀v,o.data≠.cell v):Inv X (ic++IL fp s.heap) σ H s:=
 I.pins_of λp hp=>(ui0.mp hp).elim (λz=>I.pin p (uc6 _ z)) λz=>by
  clear 5(RK z)hb e;obtain⟨f0,f1,f2,_⟩:=hf p.1 hb;clear 5(ho p.1 hb)o e' d;rw[e] at e';cases e'
  exact⟨e,f0,f1,f2,d⟩
theorem Inv.unpinned{pl:List (ig×Obj)}(I:Inv X (ic++pl) σ H s):Inv X ic σ H s:=I.pins_of λp hp=>I.pin p (uc6 _ (List.mem_append_left _ hp))
theorem Sb{iter:Expr}{body:List Stmt}{wi:TI}{g:TG}{tb:TS}{pos:Pos}(hp:PassesOwn (model X.prog X.w) X.A X.env X.xe)(hc:X.calm=true)(hi:PI X tg iter wi)(hg:PG X tg g)(hb:PSs X body tb)
 (hs:∀x,foldedSetIterable iter X.env x=pure x:=by intro _;rfl):PS X (.For tg iter body [] pos) (UF wi g tb):=by
 intro ic s σ H D I h;refine wpAny_For (thn (hi ic s σ H _ I h) λv s1 h1=>thn h1 λitv s2 h2=>?_) hs;obtain⟨it,fp,tn,J,H2,e,I2,T,st2,f2,W,⟨m0,w0⟩,turn⟩:=h2;subst e
 -- what stays true of the iterator's objects through the loop
 have stat:∀{H':Hp},(∀b∈fp,H' b=none)->∀b∈fp,FpOk X ic H' b:=λhn b hb=>⟨hn b hb,(f2 b hb).2⟩;refine codeAny_forLoop_any (λn s'=>∃i σ' H',Inv X ic σ' H' s'/\tn i s'.heap/\(∀b∈fp,H' b=none)/\W i n σ' H') ?_ m0 ⟨0,σ,H2,I2,st2,λb hb=>(f2 b hb).1,w0⟩;rintro n s3 ⟨i,σ3,H3,I3,st3,fr3,w3⟩;rcases turn i n σ3 H3 w3 with⟨stop,qn⟩|⟨go,N,hN,step⟩
 .refine kO hp (thn (T.done X rfl rfl rfl hc i ic s3 σ3 H3 X.xe I3 (stat fr3) st3 stop) λr s4 z9=>?_);clear 5 z9 hr I4;subst hr;exact kN ⟨σ3,H3,I4,qn⟩
 .refine kO hp (thn (T.item X rfl rfl rfl hc i ic s3 σ3 H3 X.xe I3 (stat fr3) st3 go) λr s4 z9=>?_);clear 5 z9 u hr h4;subst hr;refine kO hp (thn h4 λ_ s5 z9=>?_);clear 5 z9 x H5 I5 r5 y5 st5 fr5;have I5':=I5.pinned (stat fr5) (T.obj _ _ st5);refine kO hp (thn (hg _ s5 σ3 H5 x u _ I5' r5 (step x H5 y5)) λ_ s6 z9=>?_);clear 5 z9 σ6 H6 I6 q6;refine kO hp (thn (hb _ s6 σ6 H6 _ I6 q6) λf s7 q7=>?_);have again:∀{σ7:St}{H7:Hp},Inv X (ic++IL fp s5.heap) σ7 H7 s7->N σ7 H7->∃m,m<n/\∃i σ' H',Inv X ic σ' H' s7/\tn i s7.heap/\(∀b∈fp,H' b=none)/\W i m σ' H':=λ{σ7 H7} I7 n7=>by
   clear 5(hN σ7 H7 n7)m' hm w7;refine⟨m',hm,i+1,σ7,H7,I7.unpinned,T.keep _ _ _ st5 λb hb o e=>(I7.pin (b,o) (uc6 _ (uc6 _ (FO hb e)))).1,λb hb=>?_,w7⟩;clear 5(T.obj _ _ st5 b hb)o e d;exact(I7.pin (b,o) (uc6 _ (uc6 _ (FO hb e)))).2.1
  cases f with
  |next=>clear 5 q7 σ7 H7 I7 n7;exact again I7 n7
  |cont=>clear 5 q7 σ7 H7 I7 n7;exact again I7 n7
  |brk=>clear 5 q7 σ7 H7 I7 q7;exact⟨σ7,H7,I7.unpinned,q7⟩
  |ret v=>clear 5 q7 x7 σ7 H7 I7 r7 q7;exact⟨x7,σ7,H7,I7.unpinned,r7,q7⟩
end
abbrev R2:=V->V->Hp->VK->Prop
def OpR(X:Cx)(f:ie->ie->Sem ie)(r:R2):Prop:=
 ∀(ic:List (ig×Obj)) (s:ij) (σ:St) (H:Hp) (x y:V) (v u:ie) (Q:VK),Inv X ic σ H s->RelV x v->RelV y u->r x y H Q->
  wpAny (model X.prog X.w) X.A (f v u) (EP X ic σ Q) X.xe s
def Dc(X:Cx)(f:ie)(r:List V->Hp->VK->Prop):Prop:=
 ∀(ic:List (ig×Obj)) (s:ij) (σ:St) (H:Hp) (xs:List V) (us:List ie) (Q:VK),Inv X ic σ H s->Vals xs us->r xs H Q->
  wpAny (model X.prog X.w) X.A (call f us) (EP X ic σ Q) X.xe s
def tOp(r:R2)(ta tb:TE):TE:=λσ H Q=>ta σ H λx H1=>tb σ H1 λy H2=>r x y H2 Q
def rI(C:Int->Int->Prop)(g:Int->Int->V):R2:=λx y H Q=>∃i j,x=.int i/\y=.int j/\C i j/\Q (g i j) H
def rI0(g:Int->Int->V):R2:=λx y H Q=>∃i j,x=.int i/\y=.int j/\Q (g i j) H
variable{r:R2}{f:ie->ie->Sem ie}
section
variable{X:Cx}{a b c:Expr}{ta tb tc:TE}{pos:Pos}
theorem SW(ha:PE X a ta)(hb:PE X b tb){ic:List (ig×Obj)}{s:ij}{σ:St}{H:Hp}{R:V->V->Hp->Prop}(I:Inv X ic σ H s)
 (h:ta σ H λx H1=>tb σ H1 λy H2=>R x y H2){Q:ie->ij->Prop}{f:ie->ie->Sem ie}
 (hf:∀v u s2 x y H2,Inv X ic σ H2 s2->RelV x v->RelV y u->R x y H2->wpAny (model X.prog X.w) X.A (f v u) Q X.xe s2) :
 wpAny (model X.prog X.w) X.A (eval a X.env) (λv s₁=>wpAny (model X.prog X.w) X.A (eval b X.env) (λu s₂=>wpAny (model X.prog X.w) X.A (f v u) Q X.xe s₂) X.xe s₁) X.xe s:=by
 refine thn (ha ic s σ H _ I h) λv s1 z9=>?_;clear 5 z9 x H1 I1 r1 q1;refine thn (hb ic s1 σ H1 _ I1 q1) λu s2 z9=>?_;clear 5 z9 y H2 I2 r2 q2;exact hf v u s2 x y H2 I2 r1 r2 q2
theorem Qb{op:Operator}(ho:OpR X (binaryOp op) r)(ha:PE X a ta)(hb:PE X b tb):PE X (.BinOp a op b pos) (tOp r ta tb):=by
 intro ic s σ H Q I h;exact wpAny_BinOp (SW ha hb I h λv u s2 x y H2 I2 rx ry q=>ho ic s2 σ H2 x y v u Q I2 rx ry q)
theorem opI{C:Int->Int->Prop}{g:Int->Int->Int}
 (rule:∀(i j:Int) (t u:Tok) (s:ij) (Q:ie->ij->Prop) (E:ie->ij->Prop),C i j->Q (.int (g i j) s.toks) {s with toks:=s.toks+1}->wpAny (model X.prog X.w) X.A (f (.int i t) (.int j u)) Q E s) :
 OpR X f (rI C λi j=>.int (g i j)):=by
 intro ic s σ H x y v u Q I rx ry h;clear 5 h i j rfl rfl hc q;clear 5 rx t rfl;clear 5 ry t' rfl;exact rule i j t t' s _ _ hc ⟨.int (g i j),H,I.tok _,⟨_,rfl⟩,q⟩
theorem Zg{g:Int->Int->Int}
 (rule:∀(i j:Int) (t u:Tok) (s:ij) (Q:ie->ij->Prop) (E:ie->ij->Prop),Q (.int (g i j) s.toks) {s with toks:=s.toks+1}->wpAny (model X.prog X.w) X.A (f (.int i t) (.int j u)) Q E s) :
 OpR X f (rI0 λi j=>.int (g i j)):=by
 intro ic s σ H x y v u Q I rx ry h;clear 5 h i j rfl rfl q;clear 5 rx t rfl;clear 5 ry t' rfl;exact rule i j t t' s _ _ ⟨.int (g i j),H,I.tok _,⟨_,rfl⟩,q⟩
theorem P9{g:Int->Int->Bool}
 (rule:∀(i j:Int) (t u:Tok) (s:ij) (Q:ie->ij->Prop) (E:ie->ij->Prop),Q (.bool (g i j)) s->wpAny (model X.prog X.w) X.A (f (.int i t) (.int j u)) Q E s) :
 OpR X f (rI0 λi j=>.bl (g i j)):=by
 intro ic s σ H x y v u Q I rx ry h;clear 5 h i j rfl rfl q;clear 5 rx t rfl;clear 5 ry t' rfl;exact rule i j t t' s _ _ ⟨.bl (g i j),H,I,rfl,q⟩
def XN(i j:Int):Prop:=0<j/\j<1073741824
def CMul(i j:Int):Prop:=(-(2 ^ 64)<i/\i<2 ^ 64)\/(-(2 ^ 64)<j/\j<2 ^ 64)
theorem CMul.ok{i j:Int}(h:CMul i j):IntMulOk i j:=by
 rcases h with⟨h1,h2⟩|⟨h1,h2⟩
 .exact .of_left (intBits_le_64 h1 h2)
 .exact .of_right (intBits_le_64 h1 h2)
theorem two_pow_nn(k:Nat):(0:Int)<=2 ^ k:=by
 rw[two_pow_cast];exact Int.natCast_nonneg _
theorem op_add:OpR X (binaryOp .Add) (rI0 λi j=>.int (i+j)):=Zg λ_ _ _ _ _ _ _ q=>add_int q
theorem Zn:OpR X (binaryOp .Sub) (rI0 λi j=>.int (i-j)):=Zg λ_ _ _ _ _ _ _ q=>sub_int q
theorem Zl:OpR X (binaryOp .Mult) (rI CMul λi j=>.int (i*j)):=opI λ_ _ _ _ _ _ _ hc q=>mul_int q hc.ok
theorem Wy:OpR X (binaryOp .FloorDiv) (rI XN λi j=>.int (i/j)):=opI λi j _ _ _ _ _ hc q=>by
 have h1:(0:Int)<j:=hc.1;have h2:j<1073741824:=hc.2;exact floordiv_int (by lia) (by rw[ja i (by lia)];exact q) (.inl (PyProof.noPylong_small (by lia)))
theorem Zk:OpR X (binaryOp .Mod) (rI (λ_ j=>0<j) λi j=>.int (i%j)):=opI λi j _ _ _ _ _ hc q=>by
 have h1:(0:Int)<j:=hc;exact mod_int' (by lia) (by rw[Int.fmod_eq_emod_of_nonneg i (by lia)];exact q)
theorem Zm:OpR X (binaryOp .RShift) (rI (λ_ j=>0<=j) λi j=>.int (i/2 ^ j.toNat)):=opI λi j _ _ _ _ _ hc q=>
 rshift_int hc (by rw[ja i (two_pow_nn _)];exact q)
end
variable{op:CmpOp}{us:List ie}
section
variable{X:Cx}{a b c:Expr}{ta tb tc:TE}{pos:Pos}
theorem op_lt:OpR X (compareOp .Lt) (rI0 λi j=>.bl (decide (i<j))):=P9 λ_ _ _ _ _ _ _ q=>lt_int q
theorem op_le:OpR X (compareOp .LtE) (rI0 λi j=>.bl (decide (i<=j))):=P9 λ_ _ _ _ _ _ _ q=>le_int q
theorem op_gt:OpR X (compareOp .Gt) (rI0 λi j=>.bl (decide (j<i))):=P9 λ_ _ _ _ _ _ _ q=>gt_int q
theorem op_ge:OpR X (compareOp .GtE) (rI0 λi j=>.bl (decide (j<=i))):=P9 λ_ _ _ _ _ _ _ q=>ge_int q
theorem OpR.or{r':R2}(h:OpR X f r)(h':OpR X f r'):OpR X f (λx y H Q=>r x y H Q\/r' x y H Q):=by
 intro ic s σ H x y v u Q I rx ry q;rcases q with q|q
 .exact h ic s σ H x y v u Q I rx ry q
 .exact h' ic s σ H x y v u Q I rx ry q
theorem Ee(b:Expr){op:CmpOp}(h:op≠.In:=by decide)(h2:op≠.NotIn:=by decide):behindInMarks op b=false:=by
 have e1:(op==CmpOp.In)=false:=by cases op<;>first|rfl|exact absurd rfl h
 have e2:(op==CmpOp.NotIn)=false:=by cases op<;>first|rfl|exact absurd rfl h2
 cases b<;>simp[behindInMarks,e1,e2]
theorem WF(ho:OpR X (compareOp op) r)(ha:PE X a ta)(hb:PE X b tb)(hm:behindInMarks op b=false):PE X (.Compare a [op] [b] pos) (tOp r ta tb):=by
 intro ic s σ H Q I h;exact wpAny_Compare1 (SW ha hb I h λv u s2 x y H2 I2 rx ry q=>ho ic s2 σ H2 x y v u Q I2 rx ry q) hm
def b7(t:TE):TT:=λσ H Q=>t σ H λx H'=>∃k,x=.bl k/\Q k H'
theorem WV(ho:OpR X (compareOp op) r)(ha:PE X a ta)(hb:PE X b tb)(hm:behindInMarks op b=false):PT X (.Compare a [op] [b] pos) (b7 (tOp r ta tb)):=by
 intro ic s σ H Q I h;refine wpAny_isTrue_Compare1 (thn (ha ic s σ H _ I h) λv s1 ⟨x,H1,I1,r1,q1⟩=>thn (hb ic s1 σ H1 _ I1 q1) λu s2 ⟨y,H2,I2,r2,q2⟩=>
  thn (ho ic s2 σ H2 x y v u _ I2 r1 r2 q2) λc s3 ⟨z,H3,I3,r3,k,e,q3⟩=>?_) hm
 subst e
 cases r3
 exact ku ⟨H3,I3,q3⟩
def Sz(r r':R2)(ta tb tc:TE):TE:=λσ H Q=>ta σ H λx H1=>tb σ H1 λy H2=>r x y H2 λz H3=>∃k,z=.bl k/\
 (if k=true then tc σ H3 λw' H4=>r' y w' H4 Q else Q (.bl false) H3)
theorem T9{op':CmpOp}{r':R2}(ho:OpR X (compareOp op) r)(ho':OpR X (compareOp op') r')(ha:PE X a ta)(hb:PE X b tb)(hc:PE X c tc)
 (hm:lastMarks [op,op'] [b,c]=false:=by with_unfolding_all rfl):PE X (.Compare a [op,op'] [b,c] pos) (Sz r r' ta tb tc):=by
 intro ic s σ H Q I h;refine Compare_chain (thn (ha ic s σ H _ I h) λv s1 ⟨x,H1,I1,r1,q1⟩=>chain_link (thn (hb ic s1 σ H1 _ I1 q1) λu s2 ⟨y,H2,I2,r2,q2⟩=>
  thn (ho ic s2 σ H2 x y v u _ I2 r1 r2 q2) λd s3 ⟨z,H3,I3,r3,k,e,q3⟩=>?_)) hm
 subst e
 cases r3
 refine ku ?_
 cases k with
 |false=>exact ite_ff ⟨.bl false,H3,I3,rfl,q3⟩
 |true=>exact ite_tt (chain_last (thn (hc ic s3 σ H3 _ I3 q3) λw' s4 z9=>by clear 5 z9 z' H4 I4 r4 q4;exact ho' ic s4 σ H4 y z' u w' Q I4 r2 r4 q4))
theorem KC:(sizeLine:Nat)<2 ^ 63:=by rw[li];decide
theorem op_add_str:OpR X (binaryOp .Add) (λx y H Q=>∃i j,x=.str i/\y=.str j/\i.length+j.length<=sizeLine/\Q (.str (i++j)) H):=by
 intro ic s σ H x y v u Q I rx ry h;clear 5 h i j rfl rfl hz q;clear 5 rx t rfl;clear 5 ry t' rfl;exact add_str (λt' tk=>⟨.str (i++j),H,I.tok _,⟨_,rfl⟩,q⟩) hz
theorem GQ{x:V}(r:Vals [x] us):∃u,us=[u]/\RelV x u:=by
 cases r with
 |cons r1 r2=>cases r2;exact⟨_,rfl,r1⟩
theorem Qp{x y:V}(r:Vals [x,y] us):∃u w',us=[u,w']/\RelV x u/\RelV y w':=by
 cases r with
 |cons r1 r2=>
   cases r2 with
   |cons r3 r4=>cases r4;exact⟨_,_,rfl,r1,r3⟩
theorem QK(hc:X.calm=true):Dc X (.builtin "max") (λxs H Q=>∃i j,xs=[.int i,.int j]/\Q (.int (if j > i then j else i)) H):=by
 intro ic s σ H xs us Q I r h;clear 5 h i j rfl q;obtain⟨u,w',rfl,⟨t,rfl⟩,⟨t',rfl⟩⟩:=Qp r;refine max_two_ints (I.ok.hd hc) λh' tk k=>⟨_,H,I.kept k,?_,q⟩
 by_cases hj:j > i
 .rw[lD hj,lD hj];exact⟨_,rfl⟩
 .rw[lE hj,lE hj];exact⟨_,rfl⟩
theorem QL(hc:X.calm=true):Dc X (.builtin "min") (λxs H Q=>∃i j,xs=[.int i,.int j]/\Q (.int (if j<i then j else i)) H):=by
 intro ic s σ H xs us Q I r h;clear 5 h i j rfl q;obtain⟨u,w',rfl,⟨t,rfl⟩,⟨t',rfl⟩⟩:=Qp r;refine min_two_ints (I.ok.hd hc) λh' tk k=>⟨_,H,I.kept k,?_,q⟩
 by_cases hj:j<i
 .rw[lD hj,lD hj];exact⟨_,rfl⟩
 .rw[lE hj,lE hj];exact⟨_,rfl⟩
theorem QJ:Dc X (.type "int") (λxs H Q=>(∃i,xs=[.int i]/\Q (.int i) H)\/∃k,xs=[.bl k]/\Q (.int (if k then 1 else 0)) H):=by
 intro ic s σ H xs us Q I r h;rcases h with⟨i,rfl,q⟩|⟨k,rfl,q⟩
 .clear 5(GQ r)u rfl t rfl;exact call_int_int ⟨.int i,H,I,⟨_,rfl⟩,q⟩
 .obtain⟨u,rfl,r1⟩:=GQ r
  cases r1
  exact call_int_bool ⟨.int (if k then 1 else 0),H,I.tok _,⟨_,rfl⟩,q⟩
theorem Tb:Dc X (.builtin "ord") (λxs H Q=>∃x,xs=[.str x]/\x.length=1/\Q (.int (x.cps.getD 0 0:Nat)) H):=by
 intro ic s σ H xs us Q I r h;clear 5 h x rfl hz q;clear 5(GQ r)u rfl t rfl;exact ord_of_one hz ⟨.int _,H,I.tok _,⟨_,rfl⟩,q⟩
def XR(K:ib)(x:V)(H:Hp)(n:Nat):Prop:=
 match x with
 |.str y=>y.length<=sizeLine/\n=y.length
 |.byt y=>y.size<=sizeLine/\n=y.size
 |.ref p=>(∃xs,SqL K H p xs/\n=xs.length)\/∃xs,SqT K H p xs/\n=xs.length
 |_=>False
theorem Ta:Dc X (.builtin "len") (λxs H Q=>∃x n,xs=[x]/\XR X.K x H n/\Q (.int n) H):=by
 intro ic s σ H xs us Q I r h;clear 5 h x n rfl e q;clear 5(GQ r)u rfl rx;have hl:=KC;have hs:sizeLine=16777216:=li
 cases x with
 |str y=>
   clear 5 rx t rfl;obtain⟨hy,e'⟩:y.length<=sizeLine/\n=y.length:=e;subst e';exact len_str (by lia) ⟨.int _,H,I.tok _,⟨_,rfl⟩,q⟩
 |byt y=>
   clear 5 rx t rfl;obtain⟨hy,e'⟩:y.size<=sizeLine/\n=y.size:=e;subst e';exact PySem.W.len_bytes (by lia) ⟨.int _,H,I.tok _,⟨_,rfl⟩,q⟩
 |ref p=>
   cases rx
   have e':(∃xs,SqL X.K H p xs/\n=xs.length)\/∃xs,SqT X.K H p xs/\n=xs.length:=e;rcases e' with⟨xs,hx,e'⟩|⟨xs,hx,e'⟩
   .subst e';clear 5(I.list hx)its r' pl hz;have hlen:=r'.length;exact Calls.call_len_list pl.isList (by simp only[uf3];lia) ⟨.int xs.length,H,I.tok _,⟨_,by simp only[uf3];rw[hlen]⟩,q⟩
   .subst e';clear 5(I.tuple hx)its r' pl hz;have hlen:=r'.length;exact len_tuple pl (by simp only[uf3];lia) ⟨.int xs.length,H,I.tok _,⟨_,by simp only[uf3];rw[hlen]⟩,q⟩
 |_=>exact(show False from e).elim
end
structure ObjM(h:Heap)(x dx C:ig)(mA:Str->Option ie):Prop where
 obj:h.get? x=some (PySem.W.instObj C dx)
 ns:h.Ns1 dx mA
 ne:dx≠x
set_option tactic.hygienic true in
theorem L9{dx:ig}{mA:Str->Option ie}(n:h.Ns1 dx mA):∃od,h.get? dx=some od/\∀name,PySem.W.lookIn name od=some (mA name):=by
 obtain⟨o,es,ep,ho,hd,hk,_,hm⟩:=n;refine⟨o,ho,λname=>?_⟩;have e:=hm name;unfold nsFind findBy at e;rw[<-ue4] at e;unfold PySem.W.lookIn;rw[hd];dsimp only
 split
 .rename_i y q;rw[q] at e;exact lu some e
 .rename_i q;rw[q] at e;have a:es.toList.any (·.refKey)=false:=by
   rw[List.any_eq_false];intro y hy;clear 5(hk y (Array.mem_toList_iff.mp hy))z t hkey;simp[DictEntry.refKey,hkey]
  have a':¬es.toList.any (·.refKey)=true:=by rw[a];exact ue3
  rw[lE a'];exact lu some e
variable{C:ig}
theorem ObjM.look{x dx:ig}{mA:Str->Option ie}(I:ObjM h x dx C mA):∃od,PySem.W.InstAt h x (PySem.W.instObj C dx) C (some od)/\∀name,PySem.W.lookIn name od=some (mA name):=
 let ⟨od,ho,hl⟩:=L9 I.ns
 ⟨od,⟨I.obj,rfl,rfl,ho⟩,hl⟩
variable{pl:Sem Bool}{kw:List (Str×ie)}
section
variable{prog:im}{w:ir}{A:Around}{E:ie->ij->Prop}{s:ij}{K:ib}{x dx C f:ig}{mA:Str->Option ie}{name:Str}{v:ie}
theorem V4{expr:Bool}{Q:ie->ij->Prop}(X:K.In s.heap)(I:ObjM s.heap x dx C mA)(hg:PySem.W.plainGet K C name=true)(hh:PySem.W.hasDictIn K C=true)
 (ha:PySem.W.findIn K (.ref C) name=some none) (hv:mA name=some v) (hv':PySem.W.handedIn v=true) (h:Q v {s with toks:=s.toks+1}) :
 wpAny (model prog w) A (getAttr (.ref x) name expr) Q E s:=by
 clear 5 I.look od J hl;exact PySem.W.get_value X J (ud7 hg).1 (PySem.W.findObj_own hh ha rfl (by rw[hl,hv])) hv' h
theorem Tz{Q:ie×List ie->ij->Prop}(X:K.In s.heap)(I:ObjM s.heap x dx C mA)(hg:PySem.W.plainGet K C name=true)
 (hf:PySem.W.findIn K (.ref C) name=some (some (.ref f))) (ht:PySem.W.isFn K (.ref f)=true) (hv:mA name=none) (h:Q (.ref f,[.ref x]) s) :
 wpAny (model prog w) A (getMethod (.ref x) name pl) Q E s:=by
 clear 5 I.look od J hl;exact PySem.W.method_fn X J (ud7 hg).1 (ud7 hg).2 hf (lm.mp ht) (by show(PySem.W.lookIn name od).map (·.isSome)=some false;rw[hl,hv];rfl) h
theorem Xp{ns:List Str}(X:K.In s.heap)(I:ObjM s.heap x dx C mA)
 (hs:PySem.W.findIn K (.ref C) "__setattr__" = some (some (.builtin "object.__setattr__"))) (hp:PySem.W.plainOver K C=true) (ht:PySem.W.takerIn K C name=some none) (hh:PySem.W.hasDictIn K C=true)
 (hw:PySem.Within mA ns) (hsz:ns.length<=sizeLine)
 (h:∀h',ObjM h' x dx C (λy=>if y=name then some v else mA y)->Heap.SameBut dx s.heap h'->Q () {s with heap:=h',toks:=s.toks+2}) :
 wpAny (model prog w) A (setAttr (.ref x) name v) Q E s:=by
 clear 5 I.look od J hl;refine PySem.W.set_plain X J hs (PySem.W.osa_open (s:={s with toks:=s.toks+1}) (r:=none) X J hp ht λb=>?_);clear 5(PySem.W.any_some hh)cd hc hd';have hx:s.heap.get? x=some ⟨.ref C,some dx,.plain,#[]⟩:=I.obj;refine um9 (un0 (um9 (um9 (wpAny_loadPart hx (um9 (PySem.W.Looks.here (s:={s with toks:=s.toks+1}) (PySem.W.looks_clsIn X hc) ?_))))));rw[hd'];refine un0 (a:=some dx) (um9 (un0 (um9 ?_)));refine wpAny_nsSet1 (s:={s with toks:=s.toks+1}) I.ns λh' hn2 hs2=>?_;clear 5(hn2.count (PySem.Within.cons name v hw))oD esD epD hoD hdD hcD;refine um9 (wpAny_lookBehind hoD (by rw[hdD];exact pastItsLine_dict (ul7 hcD (by rw[ug5];lia))) ?_);exact un0 (h _ ⟨(hs2.2 _ (Ne.symm I.ne)).trans I.obj,hn2,I.ne⟩ hs2)
theorem TV{R:Result->ij->Prop}{vs:List ie}(X:K.In s.heap)(hm:PySem.W.makesIn K C=true)
 (hi:PySem.W.findIn K (.ref C) "__init__" = some (some (.ref f))) (hf:PySem.W.typeIn K (.ref f)=some (.type "function"))
 (h:codeAny (model prog w) (A.under (.builtin "type.__call__" ⟨.ref C :: vs,kw⟩)) (.call (.ref f) ⟨.ref (s.heap.objs.size + 1) :: vs,kw⟩) (PySem.W.InitBack (s.heap.objs.size + 1) R)
   {s with heap:=(s.heap.push PySem.W.emptyDict).push (PySem.W.instObj C s.heap.objs.size)}) :
 codeAny (model prog w) A (.call (.ref C) ⟨vs,kw⟩) R s:=by
 clear 5 s hh g d t os;exact PySem.W.make_core (PySem.W.makes_of X hm) (PySem.W.looks_findIn X hi) (λself=>PySem.W.bind_fn X self hf) (.inl rfl) h
end
noncomputable def DA(f:Str)(v:V):List (Str×V)->List (Str×V)
 |[]=>[(f,v)]
 |(g,x)::r=>if g=f then(g,v)::r else(g,x)::DA f v r
theorem JA(f g:Str)(v:V):∀fs:List (Str×V),(DA f v fs).lookup g=if g=f then some v else fs.lookup g
 |[]=>by
   show List.lookup g [(f,v)]=_
   by_cases h:g=f
   .have hb:(g==f)=true:=lm.mpr h;simp only[List.lookup,hb,lD h]
   .have hb:(g==f)=false:=kl.mpr h;simp only[List.lookup,hb,lE h]
 |(k,x)::r=>by
   have ih:=JA f g v r;rw[show DA f v ((k,x)::r)=(if k=f then(k,v)::r else(k,x)::DA f v r) from rfl]
   by_cases hk:k=f
   .rw[lD hk]
    by_cases h:g=k
    .have hb:(g==k)=true:=lm.mpr h;simp only[List.lookup,hb,lD (h.trans hk)]
    .have hb:(g==k)=false:=kl.mpr h;simp only[List.lookup,hb,lE (λe:g=f=>h (e.trans hk.symm))]
   .rw[lE hk]
    by_cases h:g=k
    .have hb:(g==k)=true:=lm.mpr h;simp only[List.lookup,hb,lE (λe:g=f=>hk (h.symm.trans e))]
    .have hb:(g==k)=false:=kl.mpr h;simp only[List.lookup,hb];exact ih
theorem Iz(f:Str)(v:V):∀fs:List (Str×V),f∈(DA f v fs).map (·.1)/\∀g,g∈fs.map (·.1)->g∈(DA f v fs).map (·.1)
 |[]=>⟨by simp[DA],λg h=>by simp at h⟩
 |(k,x)::r=>by
   clear 5(Iz f v r)i1 i2;rw[show DA f v ((k,x)::r)=(if k=f then(k,v)::r else(k,x)::DA f v r) from rfl]
   by_cases hk:k=f
   .rw[lD hk];subst hk;exact⟨by simp,λg h=>by simpa using h⟩
   .rw[lE hk];refine⟨?_,λg h=>?_⟩
    .rw[uk4];exact ud1 _ i1
    .rw[uk4] at h⊢;rcases uk3.mp h with e|e
     .exact uk3.mpr (.inl e)
     .exact ud1 _ (i2 g e)
theorem Jx(f:Str)(v:V):∀fs:List (Str×V),(DA f v fs).length<=fs.length+1
 |[]=>by simp[DA]
 |(k,x)::r=>by
   have ih:=Jx f v r;rw[show DA f v ((k,x)::r)=(if k=f then(k,v)::r else(k,x)::DA f v r) from rfl]
   by_cases hk:k=f
   .rw[lD hk,ug5,ug5];lia
   .rw[lE hk,ug5,ug5];lia
theorem RelO.some_of{o:Option ie}(r:RelO (some v) o):∃u,o=some u/\RelV v u:=by
 cases o with
 |none=>exact(show False from r).elim
 |some u=>exact⟨u,rfl,r⟩
theorem RelO.none_of{o:Option ie}(r:RelO none o):o=none:=by
 cases o with
 |none=>rfl
 |some u=>exact(show False from r).elim
theorem L3(r:RelV v u):PySem.W.handedIn u=true:=by
 cases v with
 |non=>cases (show u=Value.none from r);rfl
 |bl b=>cases (show u=Value.bool b from r);rfl
 |int i=>clear 5((show ∃t,u=Value.int i t from r))t e;cases e;rfl
 |str x=>clear 5((show ∃t,u=Value.str x t from r))t e;cases e;rfl
 |byt b=>clear 5((show ∃t,u=Value.bytes b t from r))t e;cases e;rfl
 |flt b=>clear 5((show ∃t,u=Value.float b t from r))t e;cases e;rfl
 |ref a=>cases (show u=Value.ref a from r);rfl
 |ty n=>cases (show u=Value.type n from r);rfl
section
variable{P:im}{w:ir}{H H':Hp}{h h':Heap}{a C dx:ig}{fs fs':List (Str×V)}
theorem Jd(hok:HOk P w H h)(e:H a=some (.ins C dx fs)):∃mA,ObjM h a dx C mA/\(∀f,RelO (fs.lookup f) (mA f))/\PySem.Within mA (fs.map (·.1))/\fs.length<=1000/\H dx=some (.own a):=by
 clear 5((show ObjOk P w H h a (.ins C dx fs) from hok a _ e))d z ne ob mA n r q;exact⟨mA,⟨ob,n,ne⟩,r,q,z,d⟩
end
structure Cls(K:ib)(C:ig):Prop where
 pg:PySem.W.plainGet K C Str.empty=true
 hd:PySem.W.hasDictIn K C=true
 po:PySem.W.plainOver K C=true
 sa:PySem.W.findIn K (.ref C) "__setattr__" = some (some (.builtin "object.__setattr__"))
theorem Cls.get{K:ib}{C:ig}(c:Cls K C)(f:Str):PySem.W.plainGet K C f=true:=c.pg
def NoAttr(K:ib)(C:ig)(f:Str):Prop:=PySem.W.findIn K (.ref C) f=some none
theorem NoAttr.taker{f:Str}(n:NoAttr K C f):PySem.W.takerIn K C f=some none:=by
 unfold PySem.W.takerIn;rw[show PySem.W.findIn K (.ref C) f=some none from n];rfl
structure Con(K:ib)(C:ig)(f:Str)(v:V)(u:ie):Prop where
 at_:PySem.W.findIn K (.ref C) f=some (some u)
 rel:RelV v u
 get:PySem.W.specialIn K u "__get__" = some none
 cp:PySem.W.copiedNames.contains f=false
structure Meth(K:ib)(C:ig)(m:Str)(f:ig):Prop where
 at_:PySem.W.findIn K (.ref C) m=some (some (.ref f))
 fn:PySem.W.isFn K (.ref f)=true
 kp:PySem.W.keepIn K (.ref f)=true
section
variable{X:Cx}{ic:List (ig×Obj)}{σ:St}{H:Hp}{s:ij}{a C dx:ig}{fs:List (Str×V)}{f:Str}{v:V}{A:Around}{E:ie->ij->Prop}
theorem PK{b:Bool}{Q:ie->ij->Prop}(I:Inv X ic σ H s)(e:H a=some (.ins C dx fs))(c:Cls X.K C)(n:NoAttr X.K C f)(l:fs.lookup f=some v)
 (h:∀u s',Inv X ic σ H s'->RelV v u->Q u s'):wpAny (model X.prog X.w) A (getAttr (.ref a) f b) Q E s:=by
 obtain⟨mA,O,r,_,_,_⟩:=Jd I.hok e;clear 5(RelO.some_of (v:=v) (o:=mA f) (by rw[<-l];exact r f))u hu ru;exact V4 I.kIn O (c.get f) c.hd n hu (L3 ru) (h u _ (I.tok _) ru)
theorem Hz{m:Str}{g:ig}{Q:ie×List ie->ij->Prop}(I:Inv X ic σ H s)(e:H a=some (.ins C dx fs))(c:Cls X.K C)(k:Meth X.K C m g)(l:fs.lookup m=none)
 (h:Q (.ref g,[.ref a]) s):wpAny (model X.prog X.w) A (getMethod (.ref a) m pl) Q E s:=by
 obtain⟨mA,O,r,_,_,_⟩:=Jd I.hok e;have hn:mA m=none:=RelO.none_of (by rw[<-l];exact r m);exact Tz I.kIn O (c.get m) k.at_ k.fn hn h
theorem Qk{y:V}(I:Inv X ic σ H s)(e:H a=some (.ins C dx fs))(c:Cls X.K C)(n:NoAttr X.K C f)(hl:fs.length<1000)(ry:RelV y u)
 (h:∀s',Inv X ic σ (upd H a (.ins C dx (DA f y fs))) s'->Q () s'):wpAny (model X.prog X.w) A (setAttr (.ref a) f u) Q E s:=by
 obtain⟨mA,O,r,wi,_,ho⟩:=Jd I.hok e;have hz:(fs.map (·.1)).length<=sizeLine:=by rw[ui2,li];lia
 refine Xp I.kIn O c.sa c.po n.taker c.hd wi hz λh' O' sb=>h _ ?_;have hd:∃o,h'.get? dx=some o:=let ⟨o,_,_,e',_⟩:=O'.ns;⟨o,e'⟩;refine I.write (x:=a) (e:=dx) (by rw[e];exact True.intro) (.inr ho) (λb q hb z=>(sb.2 b hb).trans z) hd ?_;refine⟨by rw[Ap O.ne];exact ho,?_,O.ne,O'.obj,_,O'.ns,λg=>?_,λg hg=>?_⟩
 .have:=Jx f y fs;lia
 .show RelO ((DA f y fs).lookup g) (if g=f then some u else mA g);rw[JA]
  by_cases q:g=f
  .rw[lD q,lD q];exact ry
  .rw[lE q,lE q];exact r g
 .by_cases q:g=f
  .rw[q];exact(Iz f y fs).1
  .refine(Iz f y fs).2 g (wi g λz=>hg ?_);show(if g=f then some u else mA g)=none;rw[lE q];exact z
theorem Inv.made(I:Inv X ic σ H s):Inv X ic σ (upd (upd H s.heap.objs.size (.own (s.heap.objs.size+1))) (s.heap.objs.size+1) (.ins C s.heap.objs.size []))
 {s with heap:=(s.heap.push PySem.W.emptyDict).push (PySem.W.instObj C s.heap.objs.size)}:=by
 have e1:(s.heap.push PySem.W.emptyDict).get? s.heap.objs.size=some PySem.W.emptyDict:=ud6 s.heap rfl;have e2:((s.heap.push PySem.W.emptyDict).push (PySem.W.instObj C s.heap.objs.size)).get? (s.heap.objs.size+1)=some (PySem.W.instObj C s.heap.objs.size):=by
  have:=ud6 (s.heap.push PySem.W.emptyDict) (o:=PySem.W.instObj C s.heap.objs.size) rfl
  rwa [uj8] at this
 have e3:(s.heap.push PySem.W.emptyDict).Ns s.heap.objs.size (λ_=>none):=⟨PySem.W.emptyDict,#[],_,e1,rfl,(λe he=>absurd he (by simp)),λ_=>rfl⟩;have I1:=I.laid (a:=s.heap.objs.size) (o:=.own (s.heap.objs.size+1)) (h':=s.heap.push PySem.W.emptyDict) (t':=s.toks) (λb u q=>ub9 _ q) (um5 _) ⟨_,e1⟩;refine I1.laid (a:=s.heap.objs.size+1) (o:=.ins C s.heap.objs.size []) (t':=s.toks) (λb u q=>ub9 _ q) (ul9 (uj8 _ _)) ?_;have ne:s.heap.objs.size≠s.heap.objs.size+1:=ul6 (ug6 _);refine⟨by rw[Ap ne,AG],um6 _,ne,e2,λ_=>none,(Heap.Ns1.of_empty e3).at λo q=>ub9 _ q,λ_=>True.intro,λy hy=>absurd rfl hy⟩
theorem Oj{prog:im}{env:Env}{f:Str}{pos:Pos}{s:ij}{Q:ie->ij->Prop}(hb:attributeBase e f env (eval e env)=eval e env)
 (h:wpAny (model prog w) A (eval e env) (λo s₁=>wpAny (model prog w) A (getAttr o f true) Q E s₁) E s):wpAny (model prog w) A (eval (.Attribute e f pos) env) Q E s:=
 Attribute_any_ h (by rw[arm_eval_Attribute,hb])
end
def eA(K:ib)(ta:TE)(f:Str):TE:=λσ H Q=>ta σ H λx H1=>∃a C dx fs v,x=.ref a/\H1 a=some (.ins C dx fs)/\Cls K C/\NoAttr K C f/\fs.lookup f=some v/\Q v H1
def d8(K:ib)(ta tv:TE)(f:Str):TS:=λD σ H=>tv σ H λy H1=>ta σ H1 λx H2=>∃a C dx fs,x=.ref a/\H2 a=some (.ins C dx fs)/\Cls K C/\NoAttr K C f/\fs.length<1000/\
 D.nx σ (upd H2 a (.ins C dx (DA f y fs)))
section
variable{X:Cx}{o e value:Expr}{f:Str}{pos pos' tpos:Pos}{ta tv:TE}
theorem Zt(he:PE X e ta)(hb:attributeBase e f X.env (eval e X.env)=eval e X.env):PE X (.Attribute e f pos) (eA X.K ta f):=by
 intro ic s σ H Q I h;refine Oj hb (thn (he ic s σ H _ I h) λu s1 z9=>?_);clear 5 z9 x H1 I1 rx a C dx fs v ex ea c n l q;subst ex;obtain rfl:u=Value.ref a:=rx;exact PK I1 ea c n l λu' s2 I2 ru=>⟨v,H1,I2,ru,q⟩
theorem ZF(ha:PE X o ta)(hv:PE X value tv)(hs:swapsWith value (some (.Attribute o f pos')) pos.line X.env=pure false):PS X (.Assign [.Attribute o f pos'] value pos) (d8 X.K ta tv f):=by
 intro ic s σ H D I h;refine iy (thn (hv ic s σ H _ I h) λu s1 ⟨y,H1,I1,ry,q⟩=>thn (ha ic s1 σ H1 _ I1 q) λov s2 z9=>?_) hs;clear 5 z9 x H2 I2 rx a C dx fs ex ea c n l q2;subst ex;obtain rfl:ov=Value.ref a:=rx;exact Qk I2 ea c n l ry λs3 I3=>⟨σ,_,I3,q2⟩
end
section
variable{X:Cx}{ic:List (ig×Obj)}{σ:St}{H:Hp}{s:ij}{A:Around}{E:ie->ij->Prop}{Q:ie->ij->Prop}{c:ie}{b:Bool}
inductive TyOf(K:ib)(H:Hp):V->ie->Prop where
 |non:TyOf K H .non (.type "NoneType")
 |bl (x:Bool):TyOf K H (.bl x) (.type "bool")
 |int (i:Int):TyOf K H (.int i) (.type "int")
 |str (x:Str):TyOf K H (.str x) (.type "str")
 |flt (x:UInt64):TyOf K H (.flt x) (.type "float")
 |lst {a:ig}{xs:List V} (e:H a=some (.lst xs)):TyOf K H (.ref a) (.type "list")
 |frz {a:ig}{o:Obj}{xs:List V} (e:H a=some (.frz o (.lst xs))):TyOf K H (.ref a) (.type "list")
 |tup {a:ig}{xs:List V} (e:H a=some (.tup xs)):TyOf K H (.ref a) (.type "tuple")
 |dK {a:ig}{kvs:List (Key×V)} (e:H a=some (.dK kvs)):TyOf K H (.ref a) (.type "dict")
 |dT {a:ig}{kvs:List (List Key×V)} (e:H a=some (.dT kvs)):TyOf K H (.ref a) (.type "dict")
 | ins {a C dx:ig} {fs:List (Str×V)} (e:H a=some (.ins C dx fs)) (cl:Cls K C) (ha:PySem.W.findIn K (.ref C) "__class__" = some (some (.builtin "object.__class__")))
    (hn:PySem.W.specialIn K (.builtin "object.__class__") "__get__" = some (some (.builtin "getset_descriptor.__get__"))) (htk:PySem.W.takesIn K (.builtin "object.__class__")=some true)
    (hm:PySem.W.mroIn K C (.type "object")=some true):TyOf K H (.ref a) (.ref C)
theorem Rj{x:V}{t:ie}(I:Inv X ic σ H s)(rx:RelV x u)(ty:TyOf X.K H x t)(e:PySem.W.kitOne X.K t c=some b)(h:∀tk,Q (.bool b) {s with toks:=tk}) :
 wpAny (model X.prog X.w) A (call (.builtin "isinstance") [u,c]) Q E s:=by
 cases ty with
 |non=>cases (show u=Value.none from rx);exact ui3 PySem.W.kitx_none I.kIn True.intro e (λz=>nomatch z) h
 |bl y=>cases (show u=Value.bool y from rx);exact ui3 PySem.W.kitx_bool I.kIn True.intro e (λz=>nomatch z) h
 |int i=>clear 5((show ∃t,u=Value.int i t from rx))t q;cases q;exact ui3 PySem.W.kitx_int I.kIn True.intro e (λz=>nomatch z) h
 |str y=>clear 5((show ∃t,u=Value.str y t from rx))t q;cases q;exact ui3 PySem.W.kitx_str I.kIn True.intro e (λz=>nomatch z) h
 |flt y=>clear 5((show ∃t,u=Value.float y t from rx))t q;cases q;exact ui3 PySem.W.kitx_float I.kIn True.intro e (λz=>nomatch z) h
 |@lst a xs ea=>
   cases (show u=Value.ref a from rx)
   obtain⟨_,_,n,_,h1⟩:=(show ObjOk X.prog X.w H s.heap a (.lst xs) from I.hok a _ ea);exact ui3 PySem.W.kitx_list I.kIn ⟨_,h1,rfl⟩ e (λz=>nomatch z) h
 |@frz a ob xs ea=>
   cases (show u=Value.ref a from rx)
   obtain⟨_,_,_,n,_,h1⟩:=(show ObjOk X.prog X.w H s.heap a (.frz ob (.lst xs)) from I.hok a _ ea);exact ui3 PySem.W.kitx_list I.kIn ⟨_,h1,rfl⟩ e (λz=>nomatch z) h
 |@tup a xs ea=>
   cases (show u=Value.ref a from rx)
   obtain⟨_,_,_,p⟩:=(show ObjOk X.prog X.w H s.heap a (.tup xs) from I.hok a _ ea);obtain⟨o,h1,h2,_⟩:=p;exact ui3 PySem.W.kitx_tuple I.kIn ⟨o,h1,h2⟩ e (λz=>nomatch z) h
 |@dK a kvs ea=>
   cases (show u=Value.ref a from rx)
   obtain⟨_,_,vs,_,p⟩:=(show ObjOk X.prog X.w H s.heap a (.dK kvs) from I.hok a _ ea);obtain⟨o,es,ep,h1,h2,_⟩:=p;exact ui3 PySem.W.kitx_dict I.kIn ⟨o,h1,h2.1⟩ e (λz=>nomatch z) h
 |@dT a kvs ea=>
   cases (show u=Value.ref a from rx)
   obtain⟨_,_,xs,_,o,es,ep,h1,h2,_⟩:=(show ObjOk X.prog X.w H s.heap a (.dT kvs) from I.hok a _ ea);exact ui3 PySem.W.kitx_dict I.kIn ⟨o,h1,h2.1⟩ e (λz=>nomatch z) h
 |@ins a C dx fs ea cl ha hn htk hm=>
   cases (show u=Value.ref a from rx)
   obtain⟨mA,O,_⟩:=Jd I.hok ea;obtain⟨od,J,_⟩:=O.look;exact ui3 (PySem.W.kitx_own (cl.get _) cl.hd ha hn htk hm) I.kIn J e (λz=>nomatch z) h
end
structure Room(k:Nat)(A:Around):Prop where
 hd:A.handled=none
 dp:A.depth+3*k+5<recursionLimit
 un:A.units+16*k+200<cLine
theorem Room.mono{j k:Nat}{A:Around}(r:Room k A)(h:j<=k):Room j A:=⟨r.hd,by have:=r.dp;lia,by have:=r.un;lia⟩
theorem Room.deeper{k:Nat}{A:Around}(r:Room (k+1) A)(env:Env):Room k (A.deeper env):=
 ⟨r.hd,by have:=r.dp;show A.depth+1+3*k+5<_;lia,by have:=r.un;show A.units+3+16*k+200<_;lia⟩
theorem PV{A:Around}:(A.under (.builtin "type.__call__" ⟨.ref C::us,kw⟩)).depth=A.depth+1:=by
 first|rfl|simp[Around.under,Code.weight,Code.isCreation,Code.isGuard,Code.isCaller,Code.frames,Code.isFrame,guardIds]
theorem PX{A:Around}:(A.under (.builtin "type.__call__" ⟨.ref C::us,kw⟩)).units=A.units+1:=by
 first|rfl|simp[Around.under,Code.cUnits,Code.frames,Code.isFrame]
theorem Room.make{k:Nat}{A:Around}(r:Room (k+1) A)(C:ig)(us:List ie)(kw:List (Str×ie)):Room k (A.under (.builtin "type.__call__" ⟨.ref C::us,kw⟩)):=
 ⟨r.hd,by have:=r.dp;rw[PV];lia,by have:=r.un;rw[PX];lia⟩
theorem Room.depth{k:Nat}{A:Around}(r:Room k A):A.depth<recursionLimit:=by have:=r.dp;lia
theorem Room.units{k:Nat}{A:Around}(r:Room k A):A.units+64<cLine:=by have:=r.un;lia
def ay:TA:=λ_ H Q=>Q [] H
def bU(ta:TE)(tr:TA):TA:=λσ H Q=>ta σ H λx H1=>tr σ H1 λxs H2=>Q (x::xs) H2
section
variable{X:Cx}{e:Expr}{es:List Expr}{te:TE}{t:TA}{pos:Pos}
theorem Zq:PA X [] ay:=λ_ _ _ _ H Q I h=>Calls.spliced_nil ⟨[],H,I,.nil,h⟩
theorem WC(ha:PE X e te)(hr:PA X es t)(hs:starEach (e::es) X.env=(false,eval e X.env)::starEach es X.env:=by rfl):PA X (e::es) (bU te t):=by
 intro pos ic s σ H Q I h;rw[hs];show wpAny _ _ (spliced ((false,eval e X.env)::backTo pos (starEach es X.env))) _ _ s;refine Calls.spliced_cons (thn (ha ic s σ H _ I h) λu s1 z9=>?_);clear 5 z9 x H1 I1 r1 q1;exact thn (hr pos ic s1 σ H1 _ I1 q1) λus s2 ⟨xs,H2,I2,r2,q2⟩=>⟨x::xs,H2,I2,.cons r1 r2,q2⟩
def eJ(t:TA):TE:=λσ H Q=>t σ H λxs H1=>xs.length<=sizeLine/\∀p,H1 p=none->Q (.ref p) (upd H1 p (.tup xs))
def eE(t:TA):TE:=λσ H Q=>t σ H λxs H1=>xs.length<=sizeLine/\∀p,H1 p=none->Q (.ref p) (upd H1 p (.lst xs))
theorem Zz{x1}(h:PA X es t):PE X (.Tuple es x1 pos) (eJ t):=by
 intro ic s σ H Q I hq;refine wpAny_Tuple_spliced (thn (h pos ic s σ H _ I hq) λus s1 z9=>?_);clear 5 z9 xs H1 I1 r z q;refine⟨by rw[<-r.length];exact z,?_⟩;have hf:H1 s1.heap.objs.size=none:=I1.hok.fresh (um5 _);refine⟨.ref s1.heap.objs.size,upd H1 s1.heap.objs.size (.tup xs),I1.laid (t':=s1.toks) (λb u e=>ub9 _ e) (um5 _) ?_,rfl,q _ hf⟩;exact⟨z,us,r,⟨_,ud6 _ rfl,rfl,_,rfl⟩⟩
theorem Zv(h:PA X es t):PE X (.List es pos) (eE t):=by
 intro ic s σ H Q I hq;refine wpAny_List_spliced (thn (h pos ic s σ H _ I hq) λus s1 z9=>?_);clear 5 z9 xs H1 I1 r z q;refine⟨by rw[<-r.length];exact z,?_⟩;have hf:H1 s1.heap.objs.size=none:=I1.hok.fresh (um5 _);refine⟨.ref s1.heap.objs.size,upd H1 s1.heap.objs.size (.lst xs),I1.laid (t':=s1.toks) (λb u e=>ub9 _ e) (um5 _) ?_,rfl,q _ hf⟩;exact⟨z,us,0,r,ud6 _ rfl⟩
end
abbrev Sp:=List V->Hp->VK->XK->Prop
abbrev CXT:=List Env->Hp->ij->XK->ie->ij->Prop
structure Env0(P:im)(w:ir)(K:ib)(mg:Str->Option ie)(base:Heap)(A:Around)(outer:List Env)(s:ij)(H:Hp):Prop where
 frames:A.frames=some outer
 mod:Mod K mg base
 bs:∀b o,base.get? b=some o->s.heap.get? b=some o/\H b=none
 bsz:base.objs.size<=s.heap.objs.size
 funs:s.heap.FunFrames base outer
 frf:∀b∈frs outer,H b=none
 hok:HOk P w H s.heap
 bare:AllBare s.gens
def CE(outer:List Env)(P:im)(w:ir)(H:Hp)(s:ij)(Q:VK)(u:ie)(s':ij):Prop:=
 ∃v H',s'.os=s.os/\AllBare s'.gens/\Un (frs outer) [] H H' s.heap s'.heap/\HOk P w H' s'.heap/\RelV v u/\Q v H'
def CR(CX:CXT)(outer:List Env)(P:im)(w:ir)(H:Hp)(s:ij)(Q:VK)(E:XK)(r:Result)(s':ij):Prop:=
 match r with
 |.ok (.ret u)=>CE outer P w H s Q u s'
 |.ok _=>False
 |.error e=>CX outer H s E e s'
structure FnOk(P:im)(w:ir)(K:ib)(mg:Str->Option ie)(base:Heap)(CX:CXT)(k:Nat)(f:ig)(fd:iu)(ps:List Str)(sp:Sp):Prop where
 len:∀vs H Q E,sp vs H Q E->vs.length=ps.length
 run:∀(A:Around) (outer:List Env) (s:ij) (H:Hp) (args:Args) (us:List ie) (vs:List V) (Q:VK) (E:XK),Room k A->Env0 P w K mg base A outer s H->BindsTo s fd args (ps.zip us)->Vals vs us->sp vs H Q E->
  codeAny (model P w) A (.call (.ref f) args) (CR CX outer P w H s Q E) s
theorem FnOk.mono{P:im}{w:ir}{K:ib}{mg:Str->Option ie}{base:Heap}{CX:CXT}{j k:Nat}{f:ig}{fd:iu}{ps:List Str}{sp:Sp}(F:FnOk P w K mg base CX j f fd ps sp)(h:j<=k) :
 FnOk P w K mg base CX k f fd ps sp:=⟨F.len,λA outer s H args us vs Q E hr=>F.run A outer s H args us vs Q E (hr.mono h)⟩
variable{mg:Str->Option ie}{base:Heap}
theorem Env0.make{A:Around}{outer:List Env}(e:Env0 P w K mg base A outer s H)(C:ig)(us:List ie)(kw:List (Str×ie)) :
 Env0 P w K mg base (A.under (.builtin "type.__call__" ⟨.ref C::us,kw⟩)) outer s H:=⟨by first|exact e.frames|(simpa[Around.under,Code.envs,Code.isFrame,pushEnvs] using e.frames),e.mod,e.bs,e.bsz,e.funs,e.frf,e.hok,e.bare⟩
section
variable{X:Cx}{ic:List (ig×Obj)}{σ:St}{H:Hp}{s s':ij}
theorem Inv.env0(I:Inv X ic σ H s):Env0 X.prog X.w X.K X.mg X.base X.A X.stack s H:=
 ⟨I.ok.frames,I.ok.mod,I.bs,ul7 I.ok.bsz I.sz,I.stack,I.stkFree,I.hok,I.bare⟩
theorem Inv.after{Q:VK}(I:Inv X ic σ H s)(h:CE X.stack X.prog X.w H s Q u s'):EP X ic σ Q u s':=by
 clear 5 h v H' os bare un hok r q;clear 5 s' hh g d t os';obtain rfl:os'=s.os:=os;exact⟨v,H',I.call (h':=hh) (g':=g) (d':=d) (t':=t) (ch:=[]) un hok bare (λb z=>absurd z (by simp)),r,q⟩
end
def bT(sp:Sp)(dvs:List V)(E:XK)(t:TA):TE:=λσ H Q=>t σ H λvs H1=>sp (vs++dvs) H1 Q E
def Vl(C:ig)(m:Str)(sp:Sp)(dvs:List V)(E:XK)(ta:TE)(t:TA):TE:=λσ H Q=>ta σ H λx H1=>∃a dx fs,x=.ref a/\H1 a=some (.ins C dx fs)/\fs.lookup m=none/\
 t σ H1 λvs H2=>sp (x::(vs++dvs)) H2 Q E
def bX(C:ig)(sp:Sp)(dvs:List V)(E:XK)(t:TA):TE:=λσ H Q=>t σ H λvs H1=>∀x dx,H1 x=none->H1 dx=none->dx≠x->
 sp (.ref x::(vs++dvs)) (upd (upd H1 dx (.own x)) x (.ins C dx [])) (λv H2=>v=.non/\Q (.ref x) H2) E
def Binds(K:ib)(fd:iu)(ps:List Str)(ds:List ie):Prop:=
 ∀(s:ij) (us:List ie),K.In s.heap->(us++ds).length=ps.length->BindsTo s fd ⟨us,[]⟩ (ps.zip (us++ds))
theorem Binds.all{fd:iu}{ps:List Str}(h:∀us:List ie,us.length=ps.length->bindArgs fd ⟨us,[]⟩=pure (ps.zip us)):Binds K fd ps []:=λs us _ hl=>by
 rw[ui4] at hl⊢;exact .of_eq (h us hl)
def F0(CX:CXT)(X:Cx)(E:XK):Prop:=∀(ic:List (ig×Obj)) (σ:St) (H:Hp) (s:ij) (e:ie) (s':ij),Inv X ic σ H s->CX X.stack H s E e s'->X.xe e s'
variable{vs:List V}
section
variable{X:Cx}{CX:CXT}{k:Nat}{f C:ig}{fd:iu}{ps:List Str}{sp:Sp}{dvs:List V}{ds:List ie}{E:XK}{x m:Str}{p pos apos:Pos}{e o:Expr}{es:List Expr}{ta:TE}{t:TA}
theorem NO{Q:VK}(F:FnOk X.prog X.w X.K X.mg X.base CX k f fd ps sp)(hr:Room k X.A)(hb:Binds X.K fd ps ds)(hd:Vals dvs ds)(hx:F0 CX X E)
 (I:Inv X ic σ H s) (r:Vals vs us) (h:sp (vs++dvs) H Q E):wpAny (model X.prog X.w) X.A (call (.ref f) us) (EP X ic σ Q) X.xe s:=by
 have r2:Vals (vs++dvs) (us++ds):=r.append hd;have hl:(us++ds).length=ps.length:=by rw[<-r2.length];exact F.len _ _ _ _ h
 refine ln (kZ (F.run X.A X.stack s H ⟨us,[]⟩ (us++ds) (vs++dvs) Q E hr I.env0 (hb s us I.kIn hl) r2 h) λr s' hq=>?_)
 cases r with
 |error e=>exact hx ic σ H s e s' I hq
 |ok fl=>
   cases fl with
   |ret u=>exact I.after hq
   |next=>exact False.elim hq
   |brk=>exact False.elim hq
   |cont=>exact False.elim hq
theorem OP(F:FnOk X.prog X.w X.K X.mg X.base CX k f fd ps sp)(hr:Room k X.A)(hg:Gl X x)(hm:X.mg x=some (.ref f))(hk:PySem.W.keepIn X.K (.ref f)=true)(hb:Binds X.K fd ps ds)(hd:Vals dvs ds)(hx:F0 CX X E)
 (ha:PA X (e::es) t) (hdb:(x==("__debug__":Str))=false:=by decide) (he:starEach (e::es) X.env=(false,eval e X.env)::starEach es X.env:=by rfl) (hpl:(backTo pos (starEach es X.env)).any (·.1)=false:=by rfl) :
 PE X (.Call (.Name x p) (e::es) [] pos) (bT sp dvs E t):=by
 intro ic s σ H Q I h;refine kq (En I hg hm ?_ hdb);refine ue5 (h₀:=X.base) I.ok.mod.kin hk (thn (ha pos ic s σ H _ I h) λus s1 z9=>?_) he hpl;clear 5 z9 vs H1 I1 r q;refine⟨I1.kIn,?_⟩;exact NO F hr hb hd hx I1 r q
theorem WI(he:PE X o ta)(c:Cls X.K C)(hm:Meth X.K C m f)(F:FnOk X.prog X.w X.K X.mg X.base CX k f fd ps sp)(hr:Room k X.A)(hb:Binds X.K fd ps ds)(hd:Vals dvs ds)(hx:F0 CX X E)(ha:PA X (e::es) t)
 (hst:starEach (e::es) X.env=(false,eval e X.env)::starEach es X.env:=by rfl) (hpl:(backTo pos (starEach es X.env)).any (·.1)=false:=by rfl)
 (ht:eval (.Call (.Attribute o m apos) (e :: es) [] pos) X.env=(do
   let ov <-eval o X.env
   standAt apos.atName
   let (f,first) <-holding [ov] (getMethod ov m pl)
   callWith pos f first (backTo pos (starEach (e::es) X.env)) (backToKw pos (keywordEach [] X.env))):=by rfl) :
 PE X (.Call (.Attribute o m apos) (e::es) [] pos) (Vl C m sp dvs E ta t):=by
 intro ic s σ H Q I h;refine uc7 (pl:=pl) (thn (he ic s σ H _ I h) λu s1 z9=>?_) ht;clear 5 z9 x H1 I1 rx a dx fs ex ea l q;subst ex;obtain rfl:u=Value.ref a:=rx;refine Hz I1 ea c hm l ?_;refine ue5 (first:=[.ref a]) (h₀:=X.base) I.ok.mod.kin hm.kp (thn (ha pos ic s1 σ H1 _ I1 q) λus s2 z9=>?_) hst hpl;clear 5 z9 vs H2 I2 r q2;refine⟨I2.kIn,?_⟩;exact NO (us:=.ref a::us) (vs:=.ref a::vs) F hr hb hd hx I2 (.cons rfl r) q2
theorem Uc(he:PE X o ta)(c:Cls X.K C)(hm:Meth X.K C m f)(F:FnOk X.prog X.w X.K X.mg X.base CX k f fd ps sp)(hr:Room k X.A)(hb:Binds X.K fd ps ds)(hd:Vals dvs ds)(hx:F0 CX X E)
 (ht:eval (.Call (.Attribute o m apos) [] [] pos) X.env=(do
   let ov <-eval o X.env
   standAt apos.atName
   let (f,first) <-holding [ov] (getMethod ov m pl)
   callWith pos f first (backTo pos (starEach [] X.env)) (backToKw pos (keywordEach [] X.env))):=by rfl) :
 PE X (.Call (.Attribute o m apos) [] [] pos) (Vl C m sp dvs E ta ay):=by
 intro ic s σ H Q I h;refine uc7 (pl:=pl) (thn (he ic s σ H _ I h) λu s1 z9=>?_) ht;clear 5 z9 x H1 I1 rx a dx fs ex ea l q;subst ex;obtain rfl:u=Value.ref a:=rx;refine Hz I1 ea c hm l ?_;exact PySem.W.callWith_K0 (first:=[.ref a]) I1.kIn hm.kp (NO (us:=[.ref a]) (vs:=[.ref a]) F hr hb hd hx I1 (.cons rfl .nil) q)
structure Mk(K:ib)(C f:ig):Prop where
 makes:PySem.W.makesIn K C=true
 init:PySem.W.findIn K (.ref C) "__init__" = some (some (.ref f))
 fn:PySem.W.isFn K (.ref f)=true
 kp:PySem.W.keepIn K (.ref C)=true
theorem Us{Q:VK}(M:Mk X.K C f)(F:FnOk X.prog X.w X.K X.mg X.base CX k f fd ps sp)(hr:Room (k+1) X.A)(hb:Binds X.K fd ps ds)(hd:Vals dvs ds)
 (hx:F0 CX X E) (I:Inv X ic σ H s) (r:Vals vs us)
 (h:∀x dx,H x=none->H dx=none->dx≠x->sp (.ref x::(vs++dvs)) (upd (upd H dx (.own x)) x (.ins C dx [])) (λv H2=>v=.non/\Q (.ref x) H2) E) :
 wpAny (model X.prog X.w) X.A (call (.ref C) us) (EP X ic σ Q) X.xe s:=by
 have hq:=h (s.heap.objs.size+1) s.heap.objs.size (I.hok.fresh (um7 _)) (I.hok.fresh (um5 _)) (ul6 (ug6 _));have I2:=Inv.made (C:=C) I;have r2:Vals (V.ref (s.heap.objs.size+1)::(vs++dvs)) (Value.ref (s.heap.objs.size+1)::(us++ds)):=.cons rfl (r.append hd);have hl:(Value.ref (s.heap.objs.size+1)::us++ds).length=ps.length:=by
  have e:=r2.length;rw[F.len _ _ _ _ hq] at e;exact e.symm
 refine ln (TV (f:=f) I.kIn M.makes M.init (lm.mp M.fn) (kZ (F.run _ X.stack _ _ ⟨Value.ref (s.heap.objs.size+1)::us,[]⟩ (Value.ref (s.heap.objs.size+1)::(us++ds)) _ _ E (hr.make C us [])
  (I2.env0.make C us []) (hb _ (Value.ref (s.heap.objs.size+1)::us) I2.kIn hl) r2 hq) λr s' hq'=>?_))
 cases r with
 |error e=>exact hx ic σ _ _ e s' I2 hq'
 |ok fl=>
   cases fl with
   |ret u=>
     clear 5(I2.after hq')v H' I3 rv ev q3;subst ev;exact⟨rv,⟨V.ref (s.heap.objs.size+1),H',I3,rfl,q3⟩⟩
   |next=>exact False.elim hq'
   |brk=>exact False.elim hq'
   |cont=>exact False.elim hq'
theorem WH(M:Mk X.K C f)(F:FnOk X.prog X.w X.K X.mg X.base CX k f fd ps sp)(hr:Room (k+1) X.A)(hg:Gl X x)(hm:X.mg x=some (.ref C))(hb:Binds X.K fd ps ds)(hd:Vals dvs ds)(hx:F0 CX X E)
 (ha:PA X (e::es) t) (hdb:(x==("__debug__":Str))=false:=by decide) (he:starEach (e::es) X.env=(false,eval e X.env)::starEach es X.env:=by rfl) (hpl:(backTo pos (starEach es X.env)).any (·.1)=false:=by rfl) :
 PE X (.Call (.Name x p) (e::es) [] pos) (bX C sp dvs E t):=by
 intro ic s σ H Q I h;refine kq (En I hg hm ?_ hdb);refine ue5 (h₀:=X.base) I.ok.mod.kin M.kp (thn (ha pos ic s σ H _ I h) λus s1 z9=>?_) he hpl;clear 5 z9 vs H1 I1 r q;refine⟨I1.kIn,?_⟩;exact Us M F hr hb hd hx I1 r q
end
section
variable{X:Cx}{CX:CXT}{k:Nat}{f C:ig}{fd:iu}{ps ks:List Str}{sp:Sp}{E:XK}{x m:Str}{p pos apos kpos:Pos}{e o:Expr}{es:List Expr}{kws:List Keyword}{te ta:TE}{t tk:TA}{nm:Option Str}
structure KBinds(K:ib)(fd:iu)(ps ks:List Str)(g:List ie->List ie->List ie)(gV:List V->List V->List V):Prop where
 to:∀(s:ij) (us ws:List ie),K.In s.heap->(g us ws).length=ps.length->BindsTo s fd ⟨us,ks.zip ws⟩ (ps.zip (g us ws))
 rel:∀{vs:List V}{us:List ie}{zs:List V}{ws:List ie},Vals vs us->Vals zs ws->Vals (gV vs zs) (g us ws)
variable{g:List ie->List ie->List ie}{gV:List V->List V->List V}
end
structure FnScope(N P:List Str)(sc:Scope):Prop where
 kind:sc.kind=.function
 co:sc.isCoroutine=false
 gen:sc.isGenerator=false
 nd:N.Nodup
 pre:N.take P.length=P
 par:∀x∈P,sc.names.lookup x=some .local\/sc.names.lookup x=some .cell
 nofree:∀y∈sc.names,y.2≠.free
theorem LP{kindOf:Str->Option NameKind}{x:Str}:∀{binds:List (Str×ie)}{m:Str->Option ie},(∀v,(x,v)∉binds)->bindL kindOf binds m x=m x
 |[],_,_=>rfl
 |(n,v)::r,m,h=>by
   unfold bindL;rw[LP λw hw=>h w (ud1 _ hw)]
   split
   .have:x≠n:=by rintro rfl;exact h v ue2
    simp[this]
   .rfl
theorem LN{kindOf:Str->Option NameKind}{x:Str}:∀{binds:List (Str×ie)}{m:Str->Option ie},(∀v,(x,v)∉binds)->bindC kindOf binds m x=m x
 |[],_,_=>rfl
 |(n,v)::r,m,h=>by
   unfold bindC;rw[LN λw hw=>h w (ud1 _ hw)]
   split
   .rfl
   .have:x≠n:=by rintro rfl;exact h v ue2
    simp[this]
theorem LO{kindOf:Str->Option NameKind}{x:Str}{v:ie}:∀{P:List Str}{vs:List ie}{i:Nat}{m:Str->Option ie},P.Nodup->P[i]?=some x->vs[i]?=some v->kindOf x=some .local->
 bindL kindOf (P.zip vs) m x=some v
 |[],_,_,_,_,h,_,_=>by simp at h
 |_::_,[],_,_,_,_,h,_=>by simp at h
 |p::P,w::vs,0,m,nd,h1,h2,hk=>by
   simp at h1 h2;subst h1;subst h2;show bindL kindOf ((p,w)::P.zip vs) m p=_;unfold bindL;rw[LP λv hv=>(ui5.mp nd).1 (ui6 hv).1,lD hk];simp
 |p::P,w::vs,i+1,m,nd,h1,h2,hk=>by
   show bindL kindOf ((p,w)::P.zip vs) m x=_;unfold bindL;exact LO (i:=i) (ui5.mp nd).2 (by simpa using h1) (by simpa using h2) hk
theorem LM{kindOf:Str->Option NameKind}{x:Str}{v:ie}:∀{P:List Str}{vs:List ie}{i:Nat}{m:Str->Option ie},P.Nodup->P[i]?=some x->vs[i]?=some v->kindOf x≠some .local->
 bindC kindOf (P.zip vs) m x=some v
 |[],_,_,_,_,h,_,_=>by simp at h
 |_::_,[],_,_,_,_,h,_=>by simp at h
 |p::P,w::vs,0,m,nd,h1,h2,hk=>by
   simp at h1 h2;subst h1;subst h2;show bindC kindOf ((p,w)::P.zip vs) m p=_;unfold bindC;rw[LN λv hv=>(ui5.mp nd).1 (ui6 hv).1,lE hk];simp
 |p::P,w::vs,i+1,m,nd,h1,h2,hk=>by
   show bindC kindOf ((p,w)::P.zip vs) m x=_;unfold bindC;exact LM (i:=i) (ui5.mp nd).2 (by simpa using h1) (by simpa using h2) hk
noncomputable def EC(N:List Str)(vs:List V):St:=vs.map some++List.replicate (N.length-vs.length) none
noncomputable def E7(CX:CXT)(P:im)(w:ir)(K:ib)(mg:Str->Option ie)(base:Heap)(N:List Str)(qual:Str)(scope:Scope)(f:ig)(cd:ie)(A:Around)(outer:List Env)(s:ij)(H:Hp)(E:XK):Cx where
 prog:=P
 w:=w
 K:=K
 mg:=mg
 base:=base
 A:=A.deeper (envOfC qual scope s.heap.objs.size f cd)
 N:=N
 s₀:=s
 H₀:=H
 env:=envOfC qual scope s.heap.objs.size f cd
 outer:=outer
 stack:=envOfC qual scope s.heap.objs.size f cd::outer
 ex:=[]
 calm:=true
 fn:=λ_=>true
 pn:=[]
 xe:=λe s'=>wpAny (model P w) (A.deeper (envOfC qual scope s.heap.objs.size f cd)) (leaving (envOfC qual scope s.heap.objs.size f cd) e) (λ_ s''=>CX outer H s E e s'') (λe' s''=>CX outer H s E e' s'') s'
theorem M2{sc:Scope}{n:Nat}{x:Str}(h:sc.names.lookup x=some .cell):∃c,(cellsFrom n sc.names []).lookup x=some c:=by
 have q:=jv sc.names n [] (.inl h);exact Option.isSome_iff_exists.mp q
theorem Rf{CX:CXT}{N ps:List Str}{qual:Str}{scope:Scope}{f:ig}{cd:ie}{A:Around}{outer:List Env}{s1:ij}{E:XK}
 (S:FnScope N ps scope) (hd:A.handled=none) (e0:Env0 P w K mg base A outer s H) (hl:vs.length=ps.length) (r:Vals vs us)
 (x:InCallC s s.heap.objs.size (bindL (envOfC qual scope s.heap.objs.size f cd).kindOf (ps.zip us) λ_=>none) (cellsFrom (s.heap.objs.size+1) scope.names []) (bindC (envOfC qual scope s.heap.objs.size f cd).kindOf (ps.zip us) λ_=>none) s1) :
 Inv (E7 CX P w K mg base N qual scope f cd A outer s H E) [] (EC N vs) H s1:=by
 have hpl:ps.length<=N.length:=by have:=lu List.length S.pre;rw[ug7] at this;lia
 clear 5 x.done h1 tk rfl hk;have noA:∀b:ig,b∉(E7 CX P w K mg base N qual scope f cd A outer s H E).ex:=λb z=>absurd (show b∈([]:List ig) from z) (by simp);refine⟨⟨e0.mod,S.kind,rfl,rfl,um5 _,λy z c h1 h2=>?_,λy hy=>?_,λy c _ h=>?_,λ_=>hd,Around.frames_deeper e0.frames,.inr ⟨rfl,rfl⟩,λb z=>absurd z (noA b),e0.bs,e0.bsz,λb _ _=>noA b,λb z=>absurd z (noA b),e0.funs,e0.frf⟩,
  rfl,e0.bare,Un.kept hk,⟨_,x.toInCall.ns,λi y v h1 h2 h3=>?_⟩,λy c h=>⟨_,x.cell y c h⟩,e0.hok.fresh (um5 _),λy c h=>?_,λp hp=>absurd (show p∈([]:List (ig×Obj)) from hp) (by simp),e0.hok.kept hk,?_⟩
 .exact name_of_addr x.apart (km h1) (km h2)
 .have hy:scope.names.lookup y=some .cell\/scope.names.lookup y=some .free:=hy;rcases hy with hy|hy
  .exact M2 hy
  .exact absurd rfl (S.nofree _ (km hy))
 .exact kY (x.above y c (km h))
 .have hi:i<vs.length:=by
   unfold EC at h2
   by_cases hi:i<vs.length
   .exact hi
   .rw[ua7 (by simpa using hi)] at h2;rw[ub4] at h2
    split at h2<;>cases h2
  have ha:vs[i]?=some v:=by
   unfold EC at h2;rw[ub1 (by simpa using hi),uf4] at h2
   cases e:vs[i]? with
   |none=>rw[e] at h2;cases h2
   |some a=>rw[e] at h2;cases h2;rfl
  clear 5(r.get ha)u hu rv;have hp:ps[i]?=some y:=by
   rw[<-S.pre,List.getElem?_take_of_lt (by lia)];exact h1
  have ndP:ps.Nodup:=by rw[<-S.pre];exact S.nd.sublist (List.take_sublist _ _)
  refine⟨u,rv,?_⟩;rcases S.par y (ud3 hp) with k|k
  .exact .inl ⟨k,LO ndP hp hu k⟩
  .clear 5(M2 (n:=s.heap.objs.size+1) k)c e;refine .inr ⟨.inl k,c,e,?_⟩;have q:=x.cell y c e;rw[LM ndP hp hu (by show scope.names.lookup y≠_;rw[k];decide)] at q;exact q
 .exact e0.hok.fresh (kY (x.above y c (km h)))
 .unfold EC;show _=N.length;rw[ue6,ui2,uc8];lia
theorem U5{CX:CXT}{k:Nat}{f:ig}{name qual:Str}{params:Arguments}{body:List Stmt}{scope:Scope}{dV kV doc pm cdv ct oc:ie}{an od:Option ig}
 {osl:Array (Option ie)}{N ps:List Str}{sp:Sp} (lk:K.lookup f=some ⟨oc,od,.func (PySem.W.fnOf name qual params body scope dV kV doc pm an cdv ct),osl⟩) (hcd:PySem.W.codeIn K cdv qual=true) (S:FnScope N ps scope)
 (len:∀vs H Q E,sp vs H Q E->vs.length=ps.length)
 (hbody:∀(A:Around) (outer:List Env) (s:ij) (H:Hp) (vs:List V) (Q:VK) (E:XK),Room k (A.deeper (envOfC qual scope s.heap.objs.size f cdv))->sp vs H Q E->
   ∃t,PSs (E7 CX P w K mg base N qual scope f cdv A outer s H E) body t/\t {nx:=λ_ H'=>Q .non H',rt:=Q} (EC N vs) H) :
 FnOk P w K mg base CX (k+1) f (PySem.W.fnOf name qual params body scope dV kV doc pm an cdv ct) ps sp:=by
 refine⟨len,λA outer s H args us vs Q E hr e0 hb r hsp=>?_⟩;have hl:=len _ _ _ _ hsp;have KX:K.In s.heap:=e0.mod.kin.keeps λb o e=>(e0.bs b o e).1;have lim:s.heap.NoLimit:=e0.mod.nolimit.keeps λb o e=>(e0.bs b o e).1;have hkind:∀y∈ps.zip us,scope.names.lookup y.1=some .local\/(scope.names.lookup y.1=some .cell/\((cellsFrom (s.heap.objs.size+1) scope.names []).lookup y.1).isSome=true):=λz9 hy=>by
  clear 5 z9 n v;rcases S.par n (ui6 hy).1 with q|q
  .exact .inl q
  .exact .inr ⟨q,jv _ _ _ (.inl q)⟩
 refine codeAny_call_function hr.depth (KX _ _ lk) rfl S.co S.gen rfl (PySem.W.codeRec_of KX hcd) (hb _ _ _ _ ?_);refine wpAny_newFunctionEnv_cells S.kind hkind λenv he s1 x=>?_;subst he;refine⟨lim.keeps x.toInCall.keep,codeAny_func ?_⟩;clear 5(hbody A outer s H vs Q E (hr.deeper _) hsp)t ht hq;have I:Inv (E7 CX P w K mg base N qual scope f cdv A outer s H E) [] (EC N vs) H s1:=Rf S hr.hd e0 hl r x;refine un1 (ht [] s1 (EC N vs) H _ I hq) (λfl s' hs=>?_) λe s' hs=>hs;have fin:∀{σ':St}{H':Hp}{v:V}{u:ie},Inv (E7 CX P w K mg base N qual scope f cdv A outer s H E) [] σ' H' s'->RelV v u->Q v H'->CE outer P w H s Q u s':=
  λ{σ' H' v u} J rv q=>⟨v,H',J.os,J.bare,J.base,J.hok,rv,q⟩
 cases fl with
 |ret u=>
   clear 5 hs v σ' H' J rv q;exact fin J rv q
 |next=>
   clear 5 hs σ' H' J q;exact fin (v:=V.non) (u:=Value.none) J rfl q
 |brk=>
   obtain⟨_,_,_,q⟩:=hs;exact False.elim q
 |cont=>
   obtain⟨_,_,_,q⟩:=hs;exact False.elim q
section
variable{X:Cx}{x:Str}{p pos:Pos}{e:Expr}{es:List Expr}{t:TA}{id T:String}{r:List V->Hp->VK->Prop}
def tCB(r:List V->Hp->VK->Prop)(t:TA):TE:=λσ H Q=>t σ H λvs H1=>r vs H1 Q
theorem T7(hc:Dc X (.builtin id) r)(hg:Gl X x)(hm:X.mg x=none)(hv:bootBuiltins x=some (.builtin id))(ha:PA X (e::es) t)(hn:x≠"__name__":=by decide)(hdb:(x==("__debug__":Str))=false:=by decide)
 (he:starEach (e::es) X.env=(false,eval e X.env)::starEach es X.env:=by rfl) (hpl:(backTo pos (starEach es X.env)).any (·.1)=false:=by rfl):PE X (.Call (.Name x p) (e::es) [] pos) (tCB r t):=by
 intro ic s σ H Q I h;refine kq (Go I hg hm hv ?_ hn hdb);exact PyProof.Rows.callWith_builtin1 (thn (ha pos ic s σ H _ I h) λus s1 z9=>by clear 5 z9 vs H1 I1 r1 q1;exact hc ic s1 σ H1 vs us Q I1 r1 q1) he hpl
theorem IK(hc:Dc X (.type T) r)(hg:Gl X x)(hm:X.mg x=none)(hv:bootBuiltins x=some (.type T))(ha:PA X (e::es) t)(hn:x≠"__name__":=by decide)(hdb:(x==("__debug__":Str))=false:=by decide)
 (he:starEach (e::es) X.env=(false,eval e X.env)::starEach es X.env:=by rfl) (hpl:(backTo pos (starEach es X.env)).any (·.1)=false:=by rfl):PE X (.Call (.Name x p) (e::es) [] pos) (tCB r t):=by
 intro ic s σ H Q I h;refine kq (Go I hg hm hv ?_ hn hdb);exact ua5 (thn (ha pos ic s σ H _ I h) λus s1 z9=>by clear 5 z9 vs H1 I1 r1 q1;exact hc ic s1 σ H1 vs us Q I1 r1 q1) he hpl
end
end
end L2
namespace HT
open PySem PyProof.Rows
section
open PySem.SeqAt
open PySem.AutoSeq1 (wpAny_loadPart')
open PySem.MeetsSeq PySem.MeetsSeq2 PySem.MeetsSeq3
end
section
variable{prog:im}{w:ir}{A:Around}{E:ie->ij->Prop}{s:ij}
noncomputable def sIx(n d:Nat):Option Int->Nat
 |none=>d
 |some v=>if v<0 then(v+(n:Int)).toNat else min v.toNat n
theorem NQ(n d:Nat):sIx n d none=d:=rfl
theorem OX(n d k:Nat):sIx n d (some (k:Int))=min k n:=by
 show(if (k:Int)<0 then((k:Int)+(n:Int)).toNat else min (k:Int).toNat n)=min k n;rw[lE (by lia),uf5]
theorem ac(n d:Nat)(hd:d<=n)(o:Option Int):sIx n d o<=n:=by
 cases o with
 |none=>exact hd
 |some v=>
   show(if v<0 then(v+(n:Int)).toNat else min v.toNat n)<=n
   by_cases hv:v<0
   .rw[lD hv];lia
   .rw[lE hv];exact Nat.min_le_right _ _
theorem Om(v:Int)(n d:Nat):(if v<0 then max (v+(n:Int)) 0 else min v (n:Int))=((sIx n d (some v):Nat):Int):=by
 show(if v<0 then max (v+(n:Int)) 0 else min v (n:Int))=(((if v<0 then(v+(n:Int)).toNat else min v.toNat n):Nat):Int)
 by_cases hv:v<0
 .simp only[lD hv];lia
 .simp only[lE hv];lia
theorem Pk(lo hi:Option Int)(n:Nat):Builtin.Slice.sliceAdjust lo hi 1 (n:Int)=(((sIx n 0 lo:Nat):Int),((sIx n n hi:Nat):Int)):=by
 have h1:¬((1:Int)<0):=by lia
 unfold Builtin.Slice.sliceAdjust;simp only[h1,lv];refine Prod.ext ?_ ?_
 .cases lo with
  |none=>rfl
  |some v=>exact Om v n 0
 .cases hi with
  |none=>rfl
  |some v=>exact Om v n n
theorem Qe(i j:Nat):Builtin.Slice.slicePlaces (i:Int) (j:Int) 1=j-i:=by
 unfold Builtin.Slice.slicePlaces;have h1:(1:Int) > 0:=by lia
 simp only[h1,ly,Int.ediv_one]
 split<;>lia
theorem KM{v:ie}{o:Option Int}{Q:Option Int->ij->Prop}(p:IsPart v o)(h:Q o s):wpAny (model prog w) A (Builtin.Slice.slicePartIndex v) Q E s:=by
 cases p with
 |none=>exact slicePart_none h
 |int i t=>exact slicePart_int h
theorem GD{sl:ig}{vl vu:ie}{lo hi:Option Int}{n:Nat}{Q:Int×Int×Nat->ij->Prop}(hs:s.heap.IsSliceOf sl vl vu .none)(pl:IsPart vl lo)(pu:IsPart vu hi)
 (h:Q (((sIx n 0 lo:Nat):Int),1,sIx n n hi-sIx n 0 lo) s):wpAny (model prog w) A (Builtin.Slice.sliceApplied (.ref sl) (pure (n:Int))) Q E s:=by
 clear 5(id hs)os hos hcs hds;unfold Builtin.Slice.sliceApplied Builtin.Slice.sliceFields;refine um9 (um9 (um8 hos hds (x:=vl) rfl (um9 (um8 hos hds (x:=vu) rfl (um9 (um8 hos hds (x:=.none) rfl (un0 ?_)))))));refine um9 (slicePart_none ?_);show wpAny _ _ (if ((1:Int)==0)=true then _ else _) _ _ s;rw[lE (by decide)];refine um9 (KM pl (um9 (KM pu (um9 (un0 ?_)))));show wpAny _ _ (match Builtin.Slice.sliceAdjust lo hi 1 (n:Int) with|(lo,hi)=>pure (lo,(1:Int),Builtin.Slice.slicePlaces lo hi 1)) _ _ s;rw[Pk lo hi n];show wpAny _ _ (pure (((sIx n 0 lo:Nat):Int),(1:Int),Builtin.Slice.slicePlaces ((sIx n 0 lo:Nat):Int) ((sIx n n hi:Nat):Int) 1)) _ _ s;rw[Qe];exact un0 h
theorem Uf(xs:Array ie)(i k:Nat):((List.range k).filterMap λ(m:Nat)=>xs[((i:Int)+(m:Int)*1).toNat]?).toArray=((xs.toList.drop i).take k).toArray:=by
 have e:(λ(m:Nat)=>xs[((i:Int)+(m:Int)*1).toNat]?)=λm=>xs[i+m]?:=by
  funext m
  have:((i:Int)+(m:Int)*1).toNat=i+m:=by lia
  rw[this]
 rw[e];have:=pick_run xs i k;rw[List.filterMap_map] at this;have e2:((λx=>xs[x]?) ∘ λx=>i+x)=λm=>xs[i+m]?:=rfl;rw[e2] at this;rw[this]
theorem Jt{t sl:ig}{items:Array ie}{vl vu:ie}{lo hi:Option Int}{Q:ie->ij->Prop}(ht:IsTup s.heap t items)(hs:s.heap.IsSliceOf sl vl vu .none)(pl:IsPart vl lo)(pu:IsPart vu hi)
 (hw:¬(sIx items.size 0 lo=0/\sIx items.size items.size hi=items.size))
 (h:Q (.ref s.heap.objs.size) {s with heap:=s.heap.push {cls:=.type "tuple",data:=.seq ((items.toList.drop (sIx items.size 0 lo)).take (sIx items.size items.size hi-sIx items.size 0 lo)).toArray} })
 (hsz:items.size<=sizeLine):wpAny (model prog w) A (getItem (.ref t) (.ref sl)) Q E s:=by
 have htake:sizeOk (.seq ((items.toList.drop (sIx items.size 0 lo)).take (sIx items.size items.size hi-sIx items.size 0 lo)).toArray):=by
  show((items.toList.drop (sIx items.size 0 lo)).take (sIx items.size items.size hi-sIx items.size 0 lo)).toArray.size<=sizeLine;rw[uf3,ug7,ug8,ud5];lia
 have hj:sIx items.size items.size hi<=items.size:=ac _ _ (um5 _) hi;clear 5(id hs)os hos hcs hds;have hTs:s.TypeIs (.ref sl) "slice":=⟨os,hos,hcs⟩;unfold getItem
 try with_reducible refine ul4 ?_
 first|refine um9 (un0 ?_)|skip
 refine um9 (wpAny_sequenceKey ht.typeIs (by decide) ?_);refine um9 (wpAny_callSpecial?_slot (name:=Str.ofString "__getitem__") ht.typeIs ua1
  (wpAny_call_entry ua1 ht.typeIs entry_tuple_getitem ?_ (args_tuple_getitem _ _)))
 show wpAny _ _ (Builtin.Tuple.tupleItemsOf (.ref t) >>= _) _ _ s;refine um9 (tupleItemsOf_ ht ?_);refine um9 (lb hTs ?_);rw[lD (by decide)];refine um9 (GD hs pl pu ?_);have hno:¬((((sIx items.size 0 lo:Nat):Int)==0&&(1:Int)==1&&(sIx items.size items.size hi-sIx items.size 0 lo)==items.size)=true):=by
  intro q;rw[ug9,ug9] at q;have q1:((sIx items.size 0 lo:Nat):Int)=0:=eq_of_beq q.1.1;have q2:sIx items.size items.size hi-sIx items.size 0 lo=items.size:=eq_of_beq q.2;exact hw ⟨by lia,by lia⟩
 show wpAny _ _ (if (((sIx items.size 0 lo:Nat):Int)==0&&(1:Int)==1&&(sIx items.size items.size hi-sIx items.size 0 lo)==items.size)=true then _ else _) _ _ s;rw[lE hno,Uf]
 first
  |exact um9 (m:=Builtin.Tuple.tupleExact _) (ky (un0 ⟨_,rfl,un0 h⟩) htake)
  |exact um9 (m:=Builtin.Tuple.tupleExact _) (ky (um9 (un0 (un0 ⟨_,rfl,un0 h⟩))) htake)
  |exact um9 (um9 (m:=Builtin.Tuple.tupleExact _) (ky (un0 (un0 ⟨_,rfl,un0 h⟩)) htake))
  |exact um9 (um9 (m:=Builtin.Tuple.tupleExact _) (ky (un0 ⟨_,rfl,un0 h⟩) htake))
end
end HT
namespace L2
open PySem PySem.Spec PyProof.Rows
abbrev TO:=St->Hp->(Option Int->Hp->Prop)->Prop
def PO(X:Cx)(e:Option Expr)(t:TO):Prop:=
 ∀(ic:List (ig×Obj)) (s:ij) (σ:St) (H:Hp) (Q:Option Int->Hp->Prop),Inv X ic σ H s->t σ H Q->
  wpAny (model X.prog X.w) X.A (evalPart e X.env) (λu s'=>∃o H',Inv X ic σ H' s'/\IsPart u o/\Q o H') X.xe s
def Xs:TO:=λ_ H Q=>Q none H
def bZ(t:TE):TO:=λσ H Q=>t σ H λx H1=>∃i,x=.int i/\Q (some i) H1
section
variable{X:Cx}{e:Expr}{te:TE}{lo hi:Option Expr}{tl th:TO}{pos p2:Pos}
theorem WO:PO X none Xs:=by
 intro ic s σ H Q I h;rw[evalPart_none];exact un0 ⟨none,H,I,.none,h⟩
theorem WP(h:PE X e te):PO X (some e) (bZ te):=by
 intro ic s σ H Q I hw;rw[evalPart_some];refine thn (h ic s σ H _ I hw) λu s1 z9=>?_;clear 5 z9 x H1 I1 r1 q1;clear 5 q1 i rfl q;clear 5 r1 t rfl;exact⟨some i,H1,I1,.int i t,q⟩
def SlR(X:Cx)(r:V->Option Int->Option Int->Hp->VK->Prop):Prop:=
 ∀(ic:List (ig×Obj)) (s:ij) (σ:St) (H:Hp) (x:V) (v vl vu:ie) (lo hi:Option Int) (sl:ig) (Q:VK),Inv X ic σ H s->RelV x v->s.heap.IsSliceOf sl vl vu .none->IsPart vl lo->IsPart vu hi->r x lo hi H Q->
  ∃T id,typeLookup (.type T) "__getitem__" = pure (some (.builtin id))/\s.TypeIs v T/\wpAny (model X.prog X.w) X.A (getItem v (.ref sl)) (EP X ic σ Q) X.xe s
theorem SlR.or{r r':V->Option Int->Option Int->Hp->VK->Prop}(h:SlR X r)(h':SlR X r'):SlR X (λx lo hi H Q=>r x lo hi H Q\/r' x lo hi H Q):=by
 intro ic s σ H x v vl vu lo hi sl Q I rx hs pl pu q;rcases q with q|q
 .exact h ic s σ H x v vl vu lo hi sl Q I rx hs pl pu q
 .exact h' ic s σ H x v vl vu lo hi sl Q I rx hs pl pu q
def tSl(r:V->Option Int->Option Int->Hp->VK->Prop)(te:TE)(tl th:TO):TE:=λσ H Q=>te σ H λx H1=>tl σ H1 λl H2=>th σ H2 λu H3=>r x l u H3 Q
theorem ND{r:V->Option Int->Option Int->Hp->VK->Prop}(hr:SlR X r)(he:PE X e te)(hl:PO X lo tl)(hu:PO X hi th):PE X (.Subscript e (.Slice lo hi none p2) pos) (tSl r te tl th):=by
 intro ic s σ H Q I h;refine Subscript_ (thn (he ic s σ H _ I h) λv s1 z9=>?_);clear 5 z9 x H1 I1 r1 q1;refine wpAny_Slice (thn (hl ic s1 σ H1 _ I1 q1) λvl s2 ⟨l,H2,I2,pl,q2⟩=>thn (hu ic s2 σ H2 _ I2 q2) λvu s3 z9=>?_);clear 5 z9 u H3 I3 pu q3;rw[evalPart_none];refine un0 ?_;have I4:Inv X ic σ H3 {s3 with heap:=s3.heap.push {cls:=.type "slice",data:=.fields #[vl,vu,.none]} }:=I3.kept (t':=s3.toks) λb ob q=>ub9 _ q;clear 5(hr ic {s3 with heap:=s3.heap.push {cls:=.type "slice",data:=.fields #[vl,vu,.none]} } σ H3 x v vl vu l u s3.heap.objs.size Q I4 r1 (Heap.IsSliceOf.new ..) pl pu q3)T id hT ht hg;show wpAny (model X.prog X.w) X.A (subscriptTail e (.Slice lo hi none p2) v (.ref s3.heap.objs.size)) (EP X ic σ Q) X.xe {s3 with heap:=s3.heap.push {cls:=.type "slice",data:=.fields #[vl,vu,.none]} };exact tail_any (ops:=[.ref s3.heap.objs.size,v]) ht hT hg (by with_unfolding_all rfl)
def Hu(xs:List V)(lo hi:Option Int):List V:=(xs.drop (HT.sIx xs.length 0 lo)).take (HT.sIx xs.length xs.length hi-HT.sIx xs.length 0 lo)
theorem Jv(xs:List V)(lo hi:Option Int):(Hu xs lo hi).length<=xs.length:=by
 unfold Hu;rw[ug7,ug8];lia
def ZY(K:ib):V->Option Int->Option Int->Hp->VK->Prop:=λx lo hi H Q=>∃a xs,x=.ref a/\SqT K H a xs/\
 ¬(HT.sIx xs.length 0 lo=0/\HT.sIx xs.length xs.length hi=xs.length)/\∀p,H p=none->Q (.ref p) (upd H p (.tup (Hu xs lo hi)))
theorem aj:SlR X (ZY X.K):=by
 intro ic s σ H x v vl vu lo hi sl Q I rx hs pl pu h;clear 5 h a xs rfl hx hw q
 cases rx
 clear 5(I.tuple hx)its r ht hz;have hlen:its.toArray.size=xs.length:=by rw[uf3];exact r.length.symm
 refine⟨"tuple",_,ua1.lookup,ht.typeIs,?_⟩;refine HT.Jt ht hs pl pu (by rw[hlen];exact hw) ?_ (by rw[hlen];exact hz);rw[hlen];refine⟨.ref s.heap.objs.size,_,I.laid (t':=s.toks) (o:=.tup (Hu xs lo hi)) (λb ob q=>ub9 _ q) (um5 _) ?_,rfl,q _ (I.hok.fresh (um5 _))⟩;exact⟨ul7 (Jv xs lo hi) hz,_,(r.drop (HT.sIx xs.length 0 lo)).take (HT.sIx xs.length xs.length hi-HT.sIx xs.length 0 lo),IsTup.new _ _⟩
theorem Vals.nil_iff{xs:List V}{us:List ie}(r:Vals xs us):us=[]↔xs=[]:=by
 cases r with
 |nil=>simp
 |cons _ _=>simp
end
noncomputable def ixN(n:Nat)(i:Int):Option Nat:=if 0<=i then(if i<n then some i.toNat else none) else if -(n:Int)<=i then some (i+n).toNat else none
def atI{α:Type}(xs:List α)(i:Int):Option α:=(ixN xs.length i).bind λj=>xs[j]?
theorem Wa{n:Nat}{i:Int}{j:Nat}(h:ixN n i=some j):seqIndex? i n=some j/\j<n/\-(n:Int)<=i/\i<n:=by
 unfold ixN at h
 by_cases h0:0<=i
 .rw[lD h0] at h
  by_cases h1:i<n
  .rw[lD h1] at h;have e:i.toNat=j:=ui1 h;exact⟨by rw[seqIndex_of h0 h1,e],by lia,by lia,h1⟩
  .rw[lE h1] at h;cases h
 .rw[lE h0] at h
  by_cases h1 : -(n:Int)<=i
  .rw[lD h1] at h;have e:(i+n).toNat=j:=ui1 h;exact⟨by rw[seqIndex_neg (by lia) h1,e],by lia,h1,by lia⟩
  .rw[lE h1] at h;cases h
theorem K3{α:Type}{xs:List α}{i:Int}{v:α}(h:atI xs i=some v):∃j,seqIndex? i xs.length=some j/\xs[j]?=some v/\j<xs.length/\-(xs.length:Int)<=i/\i<xs.length:=by
 unfold atI at h
 cases e:ixN xs.length i with
 |none=>rw[e] at h;cases h
 |some j=>
   rw[e] at h;clear 5(Wa e)h1 h2 h3 h4;exact⟨j,h1,h,h2,h3,h4⟩
theorem IV{α:Type}{xs:List α}{j:Nat}{v:α}(h:xs[j]?=some v):atI xs (j:Int)=some v:=by
 have hj:j<xs.length:=(ub0.mp h).1;have e:ixN xs.length (j:Int)=some j:=by
  unfold ixN;rw[lD (by lia),lD (by lia)];simp
 unfold atI;rw[e];exact h
def Oi(b:Expr):Prop:=∀o i,subscripted b false o i=operate [o,i] (getItem o i)
def IxR(X:Cx)(r:R2):Prop:=
 ∀(value slice:Expr) (ic:List (ig×Obj)) (s:ij) (σ:St) (H:Hp) (x y:V) (v u:ie) (Q:VK),Inv X ic σ H s->RelV x v->RelV y u->r x y H Q->
  subscripted slice false v u=operate [v,u] (getItem v u)->wpAny (model X.prog X.w) X.A (subscriptTail value slice v u) (EP X ic σ Q) X.xe s
def MtR(X:Cx)(id:String)(r:V->List V->Hp->VK->Prop):Prop:=
 ∀(ic:List (ig×Obj)) (s:ij) (σ:St) (H:Hp) (x:V) (xs:List V) (v:ie) (us:List ie) (Q:VK),Inv X ic σ H s->RelV x v->Vals xs us->r x xs H Q->
  wpAny (model X.prog X.w) X.A (call (.builtin id) (v::us)) (EP X ic σ Q) X.xe s
section
variable{X:Cx}{a b:Expr}{ta tb:TE}{pos:Pos}
theorem IxR.or{r r':R2}(h:IxR X r)(h':IxR X r'):IxR X (λx y H Q=>r x y H Q\/r' x y H Q):=by
 intro value slice ic s σ H x y v u Q I rx ry q hs;rcases q with q|q
 .exact h value slice ic s σ H x y v u Q I rx ry q hs
 .exact h' value slice ic s σ H x y v u Q I rx ry q hs
theorem bC{r:R2}(hr:IxR X r)(ha:PE X a ta)(hb:PE X b tb)(hs:Oi b):PE X (.Subscript a b pos) (tOp r ta tb):=by
 intro ic s σ H Q I h;exact Subscript_ (SW ha hb I h λv u s2 x y H2 I2 rx ry q=>hr a b ic s2 σ H2 x y v u Q I2 rx ry q (hs _ _))
def ZR(K:ib):R2:=λx y H Q=>∃p xs i v,x=.ref p/\y=.int i/\SqL K H p xs/\atI xs i=some v/\Q v H
def ZU(K:ib):R2:=λx y H Q=>∃p xs i v,x=.ref p/\y=.int i/\SqT K H p xs/\atI xs i=some v/\Q v H
def ZS:R2:=λx y H Q=>∃z i c,x=.str z/\y=.int i/\z.length<=sizeLine/\atI z.cps.toList i=some c/\Q (.str ⟨#[c]⟩) H
theorem ix_list:IxR X (ZR X.K):=by
 intro value slice ic s σ H x y v u Q I rx ry h hs;clear 5 h p xs i z rfl rfl hq he q
 cases rx
 clear 5 ry t rfl;clear 5(I.list hq)its r pl hz;clear 5(K3 he)j h1 h2 h3 h4 h5;clear 5(r.get h2)w ew rw';have hl:=r.length;have hn:=KC;have fin:EP X ic σ Q w s:=⟨z,H,I,rw',q⟩
 by_cases h0:0<=i
 .have hj:i.toNat=j:=by
   rw[seqIndex_of h0 h5] at h1;exact ui1 h1
  exact item_listR pl.isList h0 (by lia) (by rw[hj];simpa using ew) fin hs
 .have hj:(i+(its.toArray.size:Int)).toNat=j:=by
   rw[seqIndex_neg (by lia) h4] at h1;rw[uf3,<-hl];exact ui1 h1
  exact subscriptTail_builtinR (x:=w) pl.isList.typeIs slot_list_getitem.lookup
   (wpAny_getItem_list_neg (Q:=λr s'=>r=w/\EP X ic σ Q r s') pl.isList (by lia) (by rw[uf3]<;>lia) (by lia) (by rw[hj];simpa using ew) ⟨rfl,fin⟩) hs
theorem ix_tup:IxR X (ZU X.K):=by
 intro value slice ic s σ H x y v u Q I rx ry h hs;clear 5 h p xs i z rfl rfl hq he q
 cases rx
 clear 5 ry t rfl;clear 5(I.tuple hq)its r pl hz;clear 5(K3 he)j h1 h2 h3 h4 h5;clear 5(r.get h2)w ew rw';have hl:=r.length;have hn:=KC;have fin:EP X ic σ Q w s:=⟨z,H,I,rw',q⟩;exact subscriptTail_builtinR (x:=w) pl.typeIs slot_tuple_getitem.lookup
  (getItem_tuple (j:=j) (Q:=λr s'=>r=w/\EP X ic σ Q r s') pl (by lia) (by lia) (by rw[uf3,<-hl];exact h1) (by simpa using ew) ⟨rfl,fin⟩) hs
theorem YR:IxR X ZS:=by
 intro value slice ic s σ H x y v u Q I rx ry h hs;clear 5 h z i c rfl rfl hz he q;clear 5 rx t rfl;clear 5 ry t' rfl;clear 5(K3 he)j h1 h2 h3 h4 h5;have hl:z.cps.toList.length=z.length:=by simp[Str.length]
 rw[hl] at h1 h4 h5;have hn:=KC;exact tail_any (typeIs_str s z t) slot_str_getitem.lookup (getItem_str (c:=c) (by
  have e1:decide (i < -(2 ^ 63:Int))=false:=uj5 (by lia);have e2:decide (i ≥ 2 ^ 63)=false:=uj5 (by lia);rw[e1,e2,uk5]) (by rw[h1];simpa using h2) ⟨.str ⟨#[c]⟩,H,I.tok _,⟨_,rfl⟩,q⟩) hs
def rIx(K:ib):R2:=λx y H Q=>ZR K x y H Q\/ZU K x y H Q\/ZS x y H Q
theorem YQ:IxR X (rIx X.K):=ix_list.or (ix_tup.or YR)
theorem NW(lo hi:Option Int)(n:Nat):(sliceBounds lo hi none n).1=((HT.sIx n 0 lo:Nat):Int)/\(sliceBounds lo hi none n).2.1=((HT.sIx n n hi:Nat):Int)/\(sliceBounds lo hi none n).2.2=1:=by
 refine⟨?_,?_,rfl⟩
 .cases lo with
  |none=>simp[sliceBounds,HT.sIx]
  |some i=>
    simp only[sliceBounds,HT.sIx,Option.getD_none,show(1:Int) > 0 by decide,ly]
    by_cases h:i<0
    .simp only[h,ly]<;>lia
    .simp only[h,lv]<;>lia
 .cases hi with
  |none=>simp[sliceBounds,HT.sIx]
  |some i=>
    simp only[sliceBounds,HT.sIx,Option.getD_none,show(1:Int) > 0 by decide,ly]
    by_cases h:i<0
    .simp only[h,ly]<;>lia
    .simp only[h,lv]<;>lia
theorem Ms(its:List ie)(lo hi:Option Int):slicePick its.toArray lo hi none=((its.drop (HT.sIx its.length 0 lo)).take (HT.sIx its.length its.length hi-HT.sIx its.length 0 lo)).toArray:=by
 clear 5(NW lo hi its.toArray.size)h1 h2 h3;unfold slicePick;rw[h1,h2,h3];simp only[sliceRange_one,pick_run,uf3]<;>rfl
def ZW(K:ib):V->Option Int->Option Int->Hp->VK->Prop:=λx lo hi H Q=>∃a xs,x=.ref a/\SqL K H a xs/\∀p,H p=none->Q (.ref p) (upd H p (.lst (Hu xs lo hi)))
theorem sl_list:SlR X (ZW X.K):=by
 intro ic s σ H x v vl vu lo hi sl Q I rx hs pl pu h;clear 5 h a xs rfl hx q
 cases rx
 clear 5(I.list hx)its r ht hz;have hlen:=r.length;refine⟨"list",_,slot_list_getitem.lookup,ht.isList.typeIs,?_⟩;refine wpAny_getItem_list_slice ht.isList hs pl pu .none (by simp) ?_ (by rw[uf3]<;>lia);rw[Ms,<-hlen];refine⟨.ref s.heap.objs.size,_,I.laid (t':=s.toks) (o:=.lst (Hu xs lo hi)) (λb ob q=>ub9 _ q) (um5 _) ?_,rfl,q _ (I.hok.fresh (um5 _))⟩;exact⟨ul7 (Jv xs lo hi) hz,_,0,(r.drop (HT.sIx xs.length 0 lo)).take (HT.sIx xs.length xs.length hi-HT.sIx xs.length 0 lo),ud6 _ rfl⟩
noncomputable def FM:V->Bool
 |.non=>true
 |.bl _=>true
 |.int _=>true
 |.str _=>true
 |_=>false
noncomputable def eqV:V->V->Bool
 |.non,.non=>true
 |.bl a,.bl b=>a==b
 |.bl a,.int b=>(if a then 1 else 0)==b
 |.int a,.bl b=>a==(if b then 1 else 0)
 |.int a,.int b=>a==b
 |.str a,.str b=>a==b
 |_,_=>false
theorem Yi{A:Around}{s:ij}{y x:V}{u v:ie}(ry:RelV y u)(rx:RelV x v)(fy:FM y=true)(fx:FM x=true):SeqAt.EqAt A s u v (eqV y x):=by
 cases y with
 |non=>
   cases ry
   cases x with
   |non=>cases rx;exact SeqAt.EqAt.same _
   |bl b=>cases rx;exact SeqAt.EqAt.none_bool b
   |int b=>clear 5 rx t rfl;exact SeqAt.EqAt.none_int b t
   |str b=>clear 5 rx t rfl;exact SeqAt.EqAt.none_str b t
   |_=>exact absurd (show false=true from fx) ue3
 |bl a=>
   cases ry
   cases x with
   |non=>cases rx;exact SeqAt.EqAt.bool_none a
   |bl b=>cases rx;exact SeqAt.EqAt.bool_bool a b
   |int b=>clear 5 rx t rfl;exact SeqAt.EqAt.bool_int a b t
   |str b=>clear 5 rx t rfl;exact SeqAt.EqAt.bool_str a b t
   |_=>exact absurd (show false=true from fx) ue3
 |int a=>
   clear 5 ry t' rfl
   cases x with
   |non=>cases rx;exact SeqAt.EqAt.int_none a t'
   |bl b=>cases rx;exact SeqAt.EqAt.int_bool a t' b
   |int b=>clear 5 rx t rfl;exact SeqAt.EqAt.int_int a t' b t
   |str b=>clear 5 rx t rfl;exact SeqAt.EqAt.int_str a t' b t
   |_=>exact absurd (show false=true from fx) ue3
 |str a=>
   clear 5 ry t' rfl
   cases x with
   |non=>cases rx;exact SeqAt.EqAt.str_none a t'
   |bl b=>cases rx;exact SeqAt.EqAt.str_bool a t' b
   |int b=>clear 5 rx t rfl;exact SeqAt.EqAt.str_int a t' b t
   |str b=>clear 5 rx t rfl;exact SeqAt.EqAt.str_str a t' b t
   |_=>exact absurd (show false=true from fx) ue3
 |_=>exact absurd (show false=true from fy) ue3
def eqU(x:V)(u:ie):Bool:=match u with
 |.none=>eqV .non x
 |.bool b=>eqV (.bl b) x
 |.int i _=>eqV (.int i) x
 |.str z _=>eqV (.str z) x
 |_=>false
theorem QR{x y:V}{u:ie}(r:RelV y u)(f:FM y=true):eqU x u=eqV y x:=by
 cases y with
 |non=>cases r;rfl
 |bl b=>cases r;rfl
 |int i=>clear 5 r t rfl;rfl
 |str z=>clear 5 r t rfl;rfl
 |_=>exact absurd (show false=true from f) ue3
theorem K0{x:V}:∀{xs:List V}{us:List ie},Vals xs us->xs.all FM=true->us.any (eqU x)=xs.any λy=>eqV y x
 |_,_,.nil,_=>rfl
 |y::xs,u::us,.cons r t,f=>by
   rw[uk6,ug9] at f;rw[uk7,uk7,QR r f.1,K0 t f.2]
theorem JQ{A:Around}{s:ij}{x:V}{v:ie}(rx:RelV x v)(fx:FM x=true):∀{xs:List V}{us:List ie},Vals xs us->xs.all FM=true->∀u∈us,SeqAt.EqAt A s u v (eqU x u)
 |_,_,.nil,_=>λu hu=>by cases hu
 |y::xs,u::us,.cons r t,f=>λu' hu=>by
   rw[uk6,ug9] at f;rcases uk3.mp hu with rfl|hu
   .rw[QR r f.1];exact Yi r rx f.1 fx
   .exact JQ rx fx t f.2 u' hu
def inV(x:V)(xs:List V):Bool:=xs.any λy=>eqV y x
def rIn(K:ib)(neg:Bool):R2:=λx y H Q=>∃p xs,y=.ref p/\(SqL K H p xs\/SqT K H p xs)/\FM x=true/\xs.all FM=true/\Q (.bl (if neg then !inV x xs else inV x xs)) H
theorem RU:OpR X (compareOp .In) (rIn X.K false):=by
 intro ic s σ H x y v u Q I rx ry h;clear 5 h p xs rfl hq fx fs q
 cases ry
 rcases hq with hq|hq
 .clear 5(I.list hq)its r pl hz;refine SeqAt.in_listAt (eqU x) pl.isList (λw hw=>JQ rx fx r fs w (by simpa using hw)) ⟨.bl _,H,I,rfl,?_⟩;rw[show its.toArray.any (eqU x)=its.any (eqU x) by simp,K0 r fs];exact q
 .clear 5(I.tuple hq)its r pl hz;refine SeqAt.in_tupleAt (eqU x) pl (λw hw=>JQ rx fx r fs w (by simpa using hw)) ⟨.bl _,H,I,rfl,?_⟩;rw[show its.toArray.any (eqU x)=its.any (eqU x) by simp,K0 r fs];exact q
theorem M1:Dc X (.type "list") (λxs H Q=>∃p ys,xs=[.ref p]/\(SqL X.K H p ys\/SqT X.K H p ys)/\∀l,H l=none->Q (.ref l) (upd H l (.lst ys))):=by
 intro ic s σ H xs us Q I r h;clear 5 h p ys rfl hq q;clear 5(GQ r)u rfl rx
 cases rx
 have fin:∀(its:List ie),Vals ys its->ys.length<=sizeLine->∀(h':Heap) (c':Nat),(∀b o',s.heap.get? b=some o'->h'.get? b=some o')->
  h'.get? s.heap.objs.size=some {cls:=.type "list",dict:=none,data:=.seq its.toArray c',slots:=#[]}->EP X ic σ Q (.ref s.heap.objs.size) {s with heap:=h'}:=λits r' hz h' c' kp e=>
  ⟨.ref s.heap.objs.size,_,I.laid (t':=s.toks) kp (um5 _) (show ObjOk X.prog X.w _ h' _ (.lst ys) from⟨hz,its,c',r',e⟩),rfl,q _ (I.hok.fresh (um5 _))⟩
 rcases hq with hq|hq
 .clear 5(I.list hq)its r' pl hz;have hlen:=r'.length;clear 5 pl.isList o ho hc n hd;exact call_list_seq p (.inl rfl) ho hc hd (λh' c' kp e=>fin its r' hz h' c' kp e) (by simp only[uf3]<;>lia)
 .clear 5(I.tuple hq)its r' pl hz;have hlen:=r'.length;clear 5 pl o ho hc n hd;exact call_list_seq p (.inr rfl) ho hc hd (λh' c' kp e=>fin its r' hz h' c' kp e) (by simp only[uf3]<;>lia)
def tyV(K:ib)(T:String)(x:V)(H:Hp):Prop:=match x with
 |.str _=>T = "str"
 |.int _=>T = "int"
 | .ref p=>(T = "list"/\∃xs,SqL K H p xs)\/(T = "tuple"/\∃o,K.lookup p=some o/\o.cls = .type "tuple"/\o.dict=none)\/
    (T = "dict"/\((∃kvs,H p=some (.dK kvs))\/∃kvs,H p=some (.dT kvs)))\/(T = "set"/\∃S n,H p=some (.set S n))
 |_=>False
theorem SG{ic:List (ig×Obj)}{σ:St}{H:Hp}{s:ij}{T:String}{x:V}{v:ie}(I:Inv X ic σ H s)(r:RelV x v)(ty:tyV X.K T x H) :
 s.TypeIs v T/\∀a,v=.ref a->∃ob,s.heap.get? a=some ob/\ob.dict=none:=by
 cases x with
 |str z=>
   clear 5 r t rfl
   cases (show T = "str" from ty)
   exact⟨typeIs_str s z t,λ_ e=>nomatch e⟩
 |int i=>
   clear 5 r t rfl
   cases (show T = "int" from ty)
   exact⟨lp s i t,λ_ e=>nomatch e⟩
 |ref p=>
   cases r
   rcases ty with⟨rfl,xs,hq⟩|⟨rfl,o,hk,hc,hd⟩|⟨rfl,hk⟩|⟨rfl,S,n,hk⟩
   .obtain⟨its,_,pl,_⟩:=I.list hq;refine⟨pl.isList.typeIs,λa e=>?_⟩
    cases e
    obtain⟨o,n,e,c,hd,_⟩:=pl;exact⟨o,e,hd⟩
   .refine⟨⟨o,I.kIn p o hk,hc⟩,λa e=>?_⟩
    cases e
    exact⟨o,I.kIn _ o hk,hd⟩
   .have z:∃o,s.heap.get? p=some o/\o.ExactDict:=by
     rcases hk with⟨kvs,hk⟩|⟨kvs,hk⟩
     .obtain⟨_,_,_,_,o,_,_,e,ex,_⟩:=I.hok p _ hk;exact⟨o,e,ex⟩
     .obtain⟨_,_,_,_,o,_,_,e,ex,_⟩:=I.hok p _ hk;exact⟨o,e,ex⟩
    clear 5 z o e ex;refine⟨⟨o,e,ex.1⟩,λa e2=>?_⟩
    cases e2
    exact⟨o,e,ex.2.1⟩
   .obtain⟨o,_,_,_,e,ex,_⟩:=I.hok p _ hk;refine⟨⟨o,e,ex.1⟩,λa e2=>?_⟩
    cases e2
    exact⟨o,e,ex.2.1⟩
 |_=>exact False.elim ty
def eh(K:ib)(T:String)(r:V->List V->Hp->VK->Prop)(to:TE):TE:=λσ H Q=>to σ H λx H1=>tyV K T x H1/\r x [] H1 Q
def tBM(K:ib)(T:String)(r:V->List V->Hp->VK->Prop)(to:TE)(t:TA):TE:=λσ H Q=>to σ H λx H1=>tyV K T x H1/\t σ H1 λxs H2=>r x xs H2 Q
variable{o e:Expr}{es:List Expr}{to:TE}{t:TA}{name:Str}{apos cpos:Pos}{T id:String}{r:V->List V->Hp->VK->Prop}
theorem Zs(pa:PlainAttrs T)(slot:Slot T name id)(hty:typeOf (.builtin id)=pure (.type "method_descriptor"))(hm:MtR X id r)(ho:PE X o to)
 (hbase:attributeBase o name X.env (eval o X.env)=eval o X.env:=by rfl) (hline:(apos.endLine==cpos.line)=true:=by rfl):PE X (.Call (.Attribute o name apos) [] [] cpos) (eh X.K T r to):=by
 intro ic s σ H Q I h;refine wpAny_Call_method0_late hbase hline (thn (ho ic s σ H _ I h) λv s1 z9=>?_);clear 5 z9 x H1 I1 r1 ty q1;clear 5(SG I1 r1 ty)h1 h2;exact⟨T,id,pa,slot,hty,h1,h2,Calls.callWith_builtin rfl (PySem.evalArgs_none (hm ic s1 σ H1 x [] v [] Q I1 r1 .nil q1))⟩
theorem Jj(pa:PlainAttrs T)(slot:Slot T name id)(hty:typeOf (.builtin id)=pure (.type "method_descriptor"))(hm:MtR X id r)(ho:PE X o to)(ha:PA X (e::es) t)
 (hbase:attributeBase o name X.env (eval o X.env)=eval o X.env:=by rfl)
 (hfew:((backTo cpos (starEach (e :: es) X.env)).all (λx=>!x.1) && (backToKw cpos (keywordEach [] X.env)).all (λx=>x.1.isSome)
   && decide ((e::es).length+([]:List Keyword).length+(if ([]:List Keyword).isEmpty then 0 else 1)<30))=true:=by rfl)
 (hline:(apos.endLine==cpos.line)=true:=by rfl) (hs:starEach (e::es) X.env=(false,eval e X.env)::starEach es X.env:=by rfl) (hplain:(backTo cpos (starEach es X.env)).any (·.1)=false:=by rfl) :
 PE X (.Call (.Attribute o name apos) (e::es) [] cpos) (tBM X.K T r to t):=by
 intro ic s σ H Q I h;refine wpAny_Call_method_late hbase hfew hline rfl (thn (ho ic s σ H _ I h) λv s1 z9=>?_);clear 5 z9 x H1 I1 r1 ty q1;clear 5(SG I1 r1 ty)h1 h2;refine⟨T,id,pa,slot,hty,h1,h2,?_⟩;have hA:=ha cpos ic s1 σ H1 _ I1 q1;rw[hs] at hA⊢;refine Calls.callWith_builtin (by show(false||(backTo cpos (starEach es X.env)).any (·.1))=false;rw[hplain]<;>rfl) (Calls.evalArgs_plain ?_);exact thn hA λus s2 ⟨vs,H2,I2,r2,q2⟩=>hm ic s2 σ H2 x vs v us Q I2 r1 r2 q2
/- xs.append(e),list.index on a module's tuple .. are MtR facts of 06m -/
end
def MtM(X:Cx)(id:String)(r:V->List V->Hp->VK->Prop):Prop:=
 ∀(ic:List (ig×Obj)) (s:ij) (σ:St) (H:Hp) (x:V) (xs:List V) (v:ie) (us:List ie) (Q:VK),Inv X ic σ H s->RelV x v->Vals xs us->r x xs H Q->
  wpAny (model X.prog X.w) X.A (call (.builtin id) (v::us)) (EP X ic σ Q) X.xe s
theorem Vals.one{x:V}{us:List ie}(h:Vals [x] us):∃u,us=[u]/\RelV x u:=by
 cases h with
 |cons r t=>
   cases t
   exact⟨_,rfl,r⟩
theorem Vals.zero:∀{us:List ie},Vals [] us->us=[]
 |_,.nil=>rfl
theorem Vals.eraseIdx:∀{xs:List V}{us:List ie} (i:Nat),Vals xs us->Vals (xs.eraseIdx i) (us.eraseIdx i)
 |_,_,_,.nil=>.nil
 |_,_,0,.cons _ t=>t
 |_,_,i+1,.cons r t=>.cons r (Vals.eraseIdx i t)
theorem Vals.rep{xs:List V}{us:List ie}(h:Vals xs us):∀k:Nat,Vals (List.replicate k xs).flatten (List.replicate k us).flatten
 |0=>.nil
 |k+1=>by
   rw[ud8,ud8,uf6,uf6];exact Vals.append h (Vals.rep h k)
theorem L8{α:Type}:∀(l:List α) (i:Nat),(l.eraseIdx i).length<=l.length
 |[],_=>um5 _
 |_::_,0=>um7 _
 |_::r,i+1=>uh0 (L8 r i)
theorem LY(its:List ie):∀(k:Nat) (acc:List ie),
 List.foldl (λx1 x2=>x1++x2) acc.toArray (List.replicate k its.toArray)=(acc++(List.replicate k its).flatten).toArray
 |0,acc=>by simp
 |k+1,acc=>by
   have e:acc.toArray++its.toArray=(acc++its).toArray:=by simp
   have e2:(acc++its)++(List.replicate k its).flatten=acc++(List.replicate (k+1) its).flatten:=by
    rw[ud8,uf6,uf7]
   rw[<-e2,<-LY its k (acc++its),<-e,ud8,ui7]
section
variable{X:Cx}{ic:List (ig×Obj)}{σ:St}{H:Hp}{s:ij}{l b:ig}{xs ys zs:List V}
theorem Inv.lset{its its':List ie}{n:Nat}{f:Array ie->Array ie}{t':Nat}(I:Inv X ic σ H s)(hH:H l=some (.lst xs))
 (e:s.heap.get? l=some {cls:=.type "list",data:=.seq its.toArray n}) (hf:f its.toArray=its'.toArray) (hv:Vals ys its') (hz:ys.length<=sizeLine) :
 Inv X ic σ (upd H l (.lst ys)) {s with heap:=s.heap.update l (Obj.mapSeq f),toks:=t'}:=by
 have q:=PySem.IsL.update e f;rw[hf] at q;refine I.write (x:=l) (e:=l) (by rw[hH];exact trivial) (.inl rfl) (λb' u hb hu=>(uc0 s.heap (Obj.mapSeq f) (Ne.symm hb)).trans hu) ⟨_,q⟩ ?_;exact⟨hz,its',_,hv,q⟩
theorem Inv.lnew{its:List ie}{t':Nat}(I:Inv X ic σ H s)(hv:Vals ys its)(hz:ys.length<=sizeLine) :
 Inv X ic σ (upd H s.heap.objs.size (.lst ys)) {s with heap:=s.heap.push {cls:=.type "list",data:=.seq its.toArray},toks:=t'}:=
 I.laid (λ_ _ q=>ub9 _ q) (um5 _) ⟨hz,its,0,hv,ud6 _ rfl⟩
theorem Inv.fresh(I:Inv X ic σ H s):H s.heap.objs.size=none:=I.hok.fresh (um5 _)
theorem Inv.lstM(I:Inv X ic σ H s)(hH:H l=some (.lst xs)):xs.length<=sizeLine/\∃(its:List ie) (n:Nat),Vals xs its/\xs.length=its.length/\s.heap.get? l=some {cls:=.type "list",data:=.seq its.toArray n}:=by
 clear 5(I.hok l _ hH)z its n r e;exact⟨z,its,n,r,r.length,e⟩
theorem Nz{n:Nat}(h:n<=sizeLine):Builtin.List.listTooLong n=false:=by
 unfold Builtin.List.listTooLong;exact uj5 (by lia)
end
section
variable{X:Cx}
def OU:V->List V->Hp->VK->Prop:=λx vs H Q=>∃l xs y,x=.ref l/\vs=[y]/\H l=some (.lst xs)/\xs.length<sizeLine/\Q .non (upd H l (.lst (xs++[y])))
theorem Mc:MtM X "list.append" OU:=by
 intro ic s σ H x vs v us Q I rx rv h;clear 5 h l xs y rfl rfl hH hz q
 cases rx
 clear 5 rv.one u rfl ru;clear 5(I.lstM hH)z its n r hl e;refine lq F.slot_list_append ⟨_,e,rfl⟩ F.entry_list_append (F.args_list_append_2 _ _) (PySem.list_append l its.toArray n u (by rw[uf3];lia)) ⟨e,?_⟩;refine⟨.non,_,I.lset (its':=its++[u]) hH e (by simp) (r.append (.cons ru .nil)) ?_,rfl,q⟩;rw[ue6,ke];lia
def OV:V->List V->Hp->VK->Prop:=λx vs H Q=>∃l b xs zs,x=.ref l/\vs=[.ref b]/\H l=some (.lst xs)/\H b=some (.lst zs)/\xs.length+zs.length<=sizeLine/\Q .non (upd H l (.lst (xs++zs)))
theorem Rx:MtM X "list.extend" OV:=by
 intro ic s σ H x vs v us Q I rx rv h;clear 5 h l b xs zs rfl rfl hH hB hz q
 cases rx
 clear 5 rv.one u rfl ru
 cases ru
 clear 5(I.lstM hH)z its n r hl e;clear 5(I.lstM hB)z2 its2 n2 r2 hl2 e2;have hsz:its.toArray.size+its2.toArray.size<=sizeLine:=by rw[uf3,uf3];lia
 have hlong:¬(!its.toArray.isEmpty&&Builtin.List.listTooLong (its.toArray.size+its2.toArray.size))=true:=by
  rw[Nz hsz,uj9];exact ue3
 refine lq F.slot_list_extend ⟨_,e,rfl⟩ F.entry_list_extend (F.args_list_extend_2 _ _)
  (AutoSeq1.list_extend_list_list_0 l its.toArray n b its2.toArray n2 hlong (by rw[uf3];lia) (by lia)) ⟨e,e2,?_⟩
 refine⟨.non,_,I.lset (its':=its++its2) hH e (by simp) (r.append r2) ?_,rfl,q⟩;rw[ue6];lia
def ZV:V->List V->Hp->VK->Prop:=λx vs H Q=>∃l xs i k y,x=.ref l/\vs=[.int i]/\H l=some (.lst xs)/\-(2 ^ 63)<=i/\i<2 ^ 63/\seqIndex? i xs.length=some k/\xs[k]?=some y/\Q y (upd H l (.lst (xs.eraseIdx k)))
theorem TZ:MtM X "list.pop" ZV:=by
 intro ic s σ H x vs v us Q I rx rv h;clear 5 h l xs i k y rfl rfl hH h1 h2 hk hy q
 cases rx
 clear 5 rv.one u rfl ru;clear 5 ru t rfl;clear 5(I.lstM hH)z its n r hl e;clear 5(r.get hy)w hw rw';refine lq F.slot_list_pop ⟨_,e,rfl⟩ F.entry_list_pop (F.args_list_pop_2 _ _)
  (MeetsSeq.list_pop_at l its.toArray n i t k w (fitsIndex_both h1 h2) (by rw[uf3,<-hl];exact hk) (by rw[<-kf];exact hw) (by rw[uf3];lia)) ⟨e,?_⟩
 refine⟨y,_,I.lset (its':=its.eraseIdx k) hH e ?_ (r.eraseIdx k) ?_,rw',q⟩
 .show its.toArray.eraseIdxIfInBounds k=(its.eraseIdx k).toArray;rw[List.eraseIdxIfInBounds_toArray]
 .have:=L8 xs k;lia
def ZN:V->List V->Hp->VK->Prop:=λx vs H Q=>∃l xs,x=.ref l/\vs=[]/\H l=some (.lst xs)/\Q .non (upd H l (.lst []))
theorem TY:MtM X "list.clear" ZN:=by
 intro ic s σ H x vs v us Q I rx rv h;clear 5 h l xs rfl rfl hH q
 cases rx
 have hus:=rv.zero;subst hus;clear 5(I.lstM hH)z its n r hl e;refine lq F.slot_list_clear ⟨_,e,rfl⟩ F.entry_list_clear (F.args_list_clear_1 _) (AutoSeq1.list_clear_list_0 l its.toArray n (by rw[uf3];lia)) ⟨e,?_⟩;exact⟨.non,_,I.lset (its':=[]) (ys:=[]) hH e rfl .nil (um6 _),rfl,q⟩
def Um:R2:=λx y H Q=>∃l b xs zs,x=.ref l/\y=.ref b/\H l=some (.lst xs)/\H b=some (.lst zs)/\xs.length+zs.length<=sizeLine/\∀p,H p=none->Q (.ref p) (upd H p (.lst (xs++zs)))
theorem RM:OpR X (binaryOp .Add) Um:=by
 intro ic s σ H x y v u Q I rx ry h;clear 5 h l b xs zs rfl rfl hH hB hz q
 cases rx
 cases ry
 clear 5(I.lstM hH)z its n r hl e;clear 5(I.lstM hB)z2 its2 n2 r2 hl2 e2;refine PySem.P.add_list e e2 ?_ (by rw[uf3,uf3];lia);have ea:its.toArray++its2.toArray=(its++its2).toArray:=by simp
 rw[ea];exact⟨.ref _,_,I.lnew (t':=s.toks) (r.append r2) (by rw[ue6];lia),rfl,q _ I.fresh⟩
def d6:R2:=λx y H Q=>∃l k xs,x=.ref l/\y=.int k/\H l=some (.lst xs)/\-(2 ^ 63)<=k/\k<2 ^ 63/\xs.length*k.toNat<=sizeLine/\
 ∀p,H p=none->Q (.ref p) (upd H p (.lst (List.replicate k.toNat xs).flatten))
theorem Wd{α:Type}(xs:List α)(k:Nat):(List.replicate k xs).flatten.length=k*xs.length:=by
 induction k with
 |zero=>simp
 |succ k ih=>rw[ud8,uf6,ue6,ih,Nat.succ_mul,Nat.add_comm]
theorem ge:OpR X (binaryOp .Mult) d6:=by
 intro ic s σ H x y v u Q I rx ry h;clear 5 h l k xs rfl rfl hH h1 h2 hz q
 cases rx
 clear 5 ry t rfl;clear 5(I.lstM hH)z its n r hl e;have hlen:its.toArray.size*k.toNat<=sizeLine:=by rw[uf3,<-hl];exact hz
 have hcap:¬its.toArray.size*k.toNat > (2 ^ 63-1)/8:=by
  have:(sizeLine:Nat)<=(2 ^ 63-1)/8:=by decide
  lia
 have hfit:¬(!Builtin.List.listFitsIndex k)=true:=by
  rw[fitsIndex_both h1 h2];exact ue3
 have hlong:¬Builtin.List.listTooLong (its.toArray.size*k.toNat)=true:=by
  rw[Nz hlen];exact ue3
 have hnew:List.foldl (λx1 x2=>x1++x2) #[] (List.replicate (if its.toArray.isEmpty=true then 0 else k.toNat) its.toArray)=(List.replicate k.toNat its).flatten.toArray:=by
  have f0:∀m:Nat,List.foldl (λx1 x2=>x1++x2) #[] (List.replicate m its.toArray)=(List.replicate m its).flatten.toArray:=λm=>by
   have:=LY its m [];rw[ui8] at this;exact this
  rw[f0]
  cases its with
  |nil=>simp
  |cons a r'=>rw[lE (by simp)]
 refine wpAny_binaryOp_repeat_ref (T:="list") (U:="int") (by decide) ⟨_,e,rfl⟩ (λs'=>lp s' k t) noFill_list_mul F.fills_int_mul F.slot_int_rmul repeat_list F.slot_int_index.lookup
  (lq F.slot_int_rmul (lp s k t) F.entry_int_rmul (F.args_int_rmul_2 _ _) (int___rmul___int_list k t l its.toArray n)
    ⟨e,rfl,⟨_,e,rfl⟩,lq F.slot_list_mul ⟨_,e,rfl⟩ F.entry_list_mul (F.args_list_mul_2 _ _) (AutoListH.list___mul___list_int_3 l its.toArray n k t hfit hcap hlong) ⟨e,?_⟩⟩)
 rw[hnew];exact⟨.ref _,_,I.lnew (t':=s.toks) (r.rep k.toNat) (by rw[Wd,lc];exact hz),rfl,q _ I.fresh⟩
end
section
variable{prog:im}{w:ir}{A:Around}{E:ie->ij->Prop}{s:ij}
end
section
variable{X:Cx}
end
end L2
namespace Att
open PySem PySem.W PySem.Calls PyProof.Rows
theorem KA{P:Params}{h:Heap}:∀(ns:List Int) (vs:List ie),WellAll P h vs (ns.map WData.int)->IntsAre vs ns:=by
 intro ns
 induction ns with
 |nil=>
   intro vs w;rw[um0] at w
   cases w
   exact .nil
 |cons n ns ih=>
   intro vs w;rw[uk4] at w
   cases w with
   |cons a b=>
     cases a
     exact .cons _ _ (ih _ b)
theorem Sm{l:OpenLaw}{n:Nat}(hn:l.most=some n){P:Params}{h:Heap}{args:List WData}{vals:List ie}
 (hpre:l.row.toRowW.claim.pre args=true) (hwl:WellAll P h vals args) :
 ∃a vs ns,vals=[Value.ref a]/\args=[WData.list (ns.map WData.int)]/\h.get? a=some {cls:=.type "list",data:=.seq vs.toArray}/\IntsAre vs ns/\ns.length<=n:=by
 have hsh:WShape.hasAll [] args [.list .int]=true:=(pre_splitW hpre).1;have hc:l.pre.holds [] {args:=args}=true:=(pre_splitW hpre).2;clear 5(hasAllW_cons hsh)d r rfl h1 h2;obtain rfl:=hasAllW_nil h2;clear 5(hasW_list h1)xs rfl h3;clear 5(items_int h3)ns rfl;have hlen:ns.length<=n:=by
  unfold OpenLaw.pre at hc;have h4:(WTm.not (.lt (.lit (.int (n:Int))) (.len (.arg 0)))).holds [] {args:=[.list (ns.map .int)]}=true:=by
   have h4:=(holds_andW hc).1;rw[hn] at h4;exact h4
  have h5:=condW_of h4 (w_not (w_lt w_lit (w_len_list (w_arg rfl))));rw[ui2] at h5;refine Nat.le_of_not_lt λq=>?_;have q':(n:Int)<((ns.length:Nat):Int):=by lia
  first
   |(rw[uk1 q'] at h5;exact absurd h5 (by decide))
   |(simp at h5;lia)
 cases hwl with
 |cons w1 w2=>
   cases w2
   cases w1 with
   |list ho hall=>exact⟨_,_,ns,rfl,rfl,ho,KA ns _ hall,hlen⟩
theorem R8(l:OpenLaw)(args:List WData):l.row.toRowW.claim.post args (.bool true) args=true:=
 postW_of (r:=l.row.toRowW) (X:=(true==true))
  (show WShape.has [] (.bool true) .bool=true by first|rfl|decide|simp[WShape.has,WShape.arms,WShape.armsAll])
  (show(WTm.eq .res (.lit (.bool true))).value [] {args:=args,res:=some (.bool true),after:=args}=some (.bool (true==true)) from w_eq_bool (w_res rfl) w_lit) rfl
theorem attach_call{l:OpenLaw}{n:Nat}{q:im}{loose:List Str}{XP:(Str->Option ie)->Heap->Prop}{YP:ir->Heap->Prop}{d:DefRec}
 (hn:l.most=some n) (hdf:d.params.defaults=[])
 (call:∀(w:ir) (s₀ s₁:ij) (mg mb:Str->Option ie) (fa:ig) (o:Obj) (pm cd doc:ie) (a:ig) (vs:List ie) (ns:List Int),
   Ground q loose [] XP w s₀ mg mb s₁.heap->YP w s₁.heap->
   s₁.heap.get? fa=some o->o.data=.func (docDef d.name d.params d.body d.scope pm cd doc)->s₁.heap.CodeRec cd d.name->mg d.name=some (.ref fa)->
   s₁.heap.get? a=some {cls:=.type "list",data:=.seq vs.toArray}->IntsAre vs ns->ns.length<=n->s₁.gens=#[]->
   codeAny (model l.prog w) callerA (.call (.ref fa) ⟨[.ref a],[]⟩) (λr s'=>r=.ok (.ret (.bool true))/\OldK s₁.heap s'.heap/\s'.os=s₁.os/\AllBare s'.gens) s₁) :
 WalkO q loose XP YP l.row.toRowW d [] (λf vs=>PySem.call f vs):=by
 intro w s₀ s₁ mg mb G Y fa o pm cd doc dV kV ho hd hcd hD hmg hg args vals as hpre hlay hrd hwl hlo;obtain rfl:dV=.none:=Dflts.none hD hdf;obtain rfl:kV=.none:=Dflts.noKw hD;clear 5(Sm hn hpre hwl)a vs ns rfl rfl hobj hints hlen;refine enter_call (kZ (call w s₀ s₁ mg mb fa o pm cd doc a vs ns G Y ho (fd_plain hd) hcd hmg hobj hints hlen hg) λr s' hq=>?_);clear 5 hq rfl h2 h3 h4;exact⟨.inl ⟨.bool true,.bool true,[],rfl,λ_=>rfl,.bool true,R8 l _,λ_=>⟨List.Pairwise.nil,λ_ hm=>(nomatch hm)⟩⟩,h2,h3,h4⟩
section
variable{prog:im}{w:ir}{A:Around}{E:ie->ij->Prop}{s:ij}{K:Frag}
noncomputable def gb(h:Heap)(L d:ig):List (ig×Obj):=(List.range h.objs.size).filterMap λa=>if a=L\/a=d then none else(h.get? a).map λo=>(a,o)
end
end Att
namespace L2
open PySem PySem.Spec PyProof.Rows
theorem Mi:∀{vs:List ie}{ns:List Int},IntsAre vs ns->Vals (ns.map V.int) vs
 |_,_,.nil=>.nil
 |_,_,.cons n t h=>.cons ⟨t,rfl⟩ (Mi h)
def Pf(H:Hp):Prop:=∀b,H b=none\/∃o xs,H b=some (.frz o (.lst xs))
section
variable{P:im}{w:ir}{fd:iu}
theorem TK{K:ib}{mg mb:Str->Option ie}{CX:CXT}{k:Nat}{fa a:ig}{x:Str}{sp:Sp}{s₁:ij}{vs:List ie}{ns:List Int}
 (KX:K.In s₁.heap) (hns:s₁.heap.Ns mainGlobals mg) (hb:s₁.heap.Ns builtinsNs mb) (hbb:∀x:Str,x≠"__name__"->mb x=bootBuiltins x) (hlim:s₁.heap.NoLimit) (hg:s₁.gens=#[])
 (ha:s₁.heap.get? a=some {cls:=.type "list",data:=.seq vs.toArray}) (hi:IntsAre vs ns) (hl:ns.length<=sizeLine) (hr:Room k callerA)
 (F:∀base:Heap,K.In base->base.Ns mainGlobals mg->FnOk P w K mg base CX k fa fd [x] sp) (hbind:∀(s:ij) (u:ie),BindsTo s fd ⟨[u],[]⟩ [(x,u)])
 (hsp:∀H:Hp,Pf H->SqL K H a (ns.map V.int)->sp [.ref a] H (λv _=>v=.bl true) λ_ _ _=>False)
 (hCX:∀H e s',CX [] H s₁ (λ_ _ _=>False) e s'->False) :
 codeAny (model P w) callerA (.call (.ref fa) ⟨[.ref a],[]⟩) (λr s'=>r=.ok (.ret (.bool true))/\OldK s₁.heap s'.heap/\s'.os=s₁.os/\AllBare s'.gens) s₁:=by
 have rv:=Mi hi;have lenV:=hi.length
 -- from an abstract heap in which nothing but the script may be tracked
 have core:∀H:Hp,Pf H->SqL K H a (ns.map V.int)->HOk P w H s₁.heap->(∀b,H b≠none->b=a)->(H a≠none->K.lookup a=none)->
  codeAny (model P w) callerA (.call (.ref fa) ⟨[.ref a],[]⟩) (λr s'=>r=.ok (.ret (.bool true))/\OldK s₁.heap s'.heap/\s'.os=s₁.os/\AllBare s'.gens) s₁:=by
  intro H hO hS hok hA hK;have base_of:∀{b:ig}{o:Obj},s₁.heap.get? b=some o->H b=none->(HB s₁.heap H).get? b=some o:=λe n=>TH e n;have noA:∀{b:ig}{o:Obj}{es:Array DictEntry}{ep:Nat},s₁.heap.get? b=some o->o.data=.dict es ep->H b=none:=λ{b o es ep} e d=>by
   cases q:H b with
   |none=>rfl
   |some u=>
     have e':b=a:=hA b (by rw[q];simp);subst e';rw[ha] at e;cases e
     have d':Data.seq vs.toArray _=Data.dict es ep:=d
     cases d'
  have nsK:∀{b:ig}{m:Str->Option ie},s₁.heap.Ns b m->(HB s₁.heap H).Ns b m:=λ{b m} ⟨o,es,ep,e,d,r⟩=>⟨o,es,ep,base_of e (noA e d),d,r⟩;have hKb:K.In (HB s₁.heap H):=λb o e=>base_of (KX b o e) (by
   cases q:H b with
   |none=>rfl
   |some u=>
     have e':b=a:=hA b (by rw[q];simp);subst e';rw[hK (by rw[q];simp)] at e;cases e)
  have hM:Mod K mg (HB s₁.heap H):=⟨hKb,nsK hns,⟨mb,nsK hb,hbb⟩,let ⟨mc,h1,h2⟩:=hlim;⟨mc,nsK h1,h2⟩⟩;have e0:Env0 P w K mg (HB s₁.heap H) callerA [] s₁ H:=⟨rfl,hM,λb o e=>Wv e,ul9 (Rc _ _),trivial,λb hb=>absurd (show b∈([]:List ig) from hb) (by simp),hok,.of_eq hg⟩;refine kZ ((F _ hKb (nsK hns)).run callerA [] s₁ H ⟨[.ref a],[]⟩ [.ref a] [.ref a] _ _ hr e0 (hbind s₁ (.ref a)) (.cons rfl .nil) (hsp H hO hS)) λr s' h=>?_
  cases r with
  |error e=>exact(hCX H e s' h).elim
  |ok fl=>
    cases fl with
    |next=>exact False.elim h
    |brk=>exact False.elim h
    |cont=>exact False.elim h
    |ret u=>
      clear 5 h v H' os bare un hok' r' q;have q':v=.bl true:=q;subst q';obtain rfl:u=Value.bool true:=r';refine⟨rfl,OldK.of_keep λb o e=>?_,os,bare⟩
      cases q:H b with
      |none=>exact un.keep b o e q (by intro z;exact absurd (show b∈([]:List ig) from z) (by simp)) (by simp)
      |some u=>
        rcases hO b with z|⟨ob,xs,z⟩
        .rw[q] at z;cases z
        .have z2:=un.frzs b ob _ z;obtain⟨e1,_⟩:=hok b _ z;obtain⟨e2,_⟩:=hok' b _ z2;rw[e] at e1;cases e1
         exact e2
 cases hk:K.lookup a with
 |some o=>
   -- the script is one of the module's own objects
   have e:=KX a o hk;rw[ha] at e
   cases e
   refine core (λ_=>none) (λ_=>.inl rfl) (.inr ⟨_,vs.toArray,_,hk,rfl,rfl,rfl,by rw[uf3,lenV];exact hl,by simpa using rv⟩) (λb u z=>by have z':(none:Option HO)=some u:=z;cases z') (λb z=>absurd rfl z) λz=>absurd rfl z
 |none=>
   refine core (λb=>if b=a then some (.frz {cls:=.type "list",data:=.seq vs.toArray} (.lst (ns.map V.int))) else none) (λb=>?_) (.inl (.inr ⟨{cls:=.type "list",data:=.seq vs.toArray},lD rfl⟩)) (λb u z=>?_) (λb z=>?_) λ_=>hk
   .by_cases hb:b=a
    .exact .inr ⟨_,_,lD hb⟩
    .exact .inl (lE hb)
   .by_cases hb:b=a
    .have z':=(lD hb).symm.trans z
     cases z'
     subst hb;exact⟨ha,by rw[ui2];exact hl,vs,_,rv,ha⟩
    .have z':=(lE hb).symm.trans z
     cases z'
   .by_cases hb:b=a
    .exact hb
    .exact absurd (lE hb) z
theorem XI{l:PySem.W.OpenLaw}{n k:Nat}{q:im}{loose:List Str}{XP:(Str->Option ie)->Heap->Prop}{YP:ir->Heap->Prop}{d:DefRec}{K:Params->ib}{CX:ir->CXT}{sp:ir->Sp}{x:Str}
 (hn:l.most=some n) (hn2:n<=sizeLine) (hdf:d.params.defaults=[]) (hr:Room k callerA)
 (hY:∀(w:ir) (h:Heap),YP w h->(K w.params).In h)
 (F:∀(w:ir) (mg:Str->Option ie) (fa:ig) (h:Heap),(K w.params).In h->h.Ns mainGlobals mg->mg d.name=some (.ref fa)->
   ∃fd:iu,(∀(s:ij) (u:ie),BindsTo s fd ⟨[u],[]⟩ [(x,u)])/\
    ∀base:Heap,(K w.params).In base->base.Ns mainGlobals mg->FnOk l.prog w (K w.params) mg base (CX w) k fa fd [x] (sp w))
 (hsp:∀(w:ir) (H:Hp) (a:ig) (ns:List Int),ns.length<=n->Pf H->SqL (K w.params) H a (ns.map V.int)->sp w [.ref a] H (λv _=>v=.bl true) λ_ _ _=>False)
 (hCX:∀(w:ir) (H:Hp) (s:ij) (e:ie) (s':ij),CX w [] H s (λ_ _ _=>False) e s'->False) :
 PySem.W.WalkO q loose XP YP l.row.toRowW d [] (λf vs=>PySem.call f vs):=by
 refine Att.attach_call hn hdf λw s₀ s₁ mg mb fa o pm cd doc a vs ns G Y ho hd hcd hmg hobj hints hlen hg=>?_;have KX:=hY w _ Y;clear 5(F w mg fa _ KX G.T.g hmg)fd hb hF;exact TK KX G.T.g G.T.b G.T.builtins G.T.nolimit hg hobj hints (ul7 hlen hn2) hr hF hb (λH hO hS=>hsp w H a ns hlen hO hS) λH e s'=>hCX w H s₁ e s'
noncomputable def EN(s:Stmt):Arguments:=match s with
 |.FunctionDef _ a _ _ _ _ _ _ _ _=>a
 |_=>{posonlyargs:=[],args:=[],vararg:=none,kwonlyargs:=[],kw_defaults:=[],kwarg:=none,defaults:=[]}
noncomputable def B6(s:Stmt):List Stmt:=match s with
 |.FunctionDef _ _ b _ _ _ _ _ _ _=>b
 |_=>[]
noncomputable def AD(s:Stmt):Scope:=match s with
 |.FunctionDef _ _ _ _ _ _ sc _ _ _=>sc
 |_=>{kind:=.function,names:=[],isGenerator:=false,isCoroutine:=false}
abbrev CX0:CXT:=λ_ _ _ _ _ _=>False
abbrev E0:XK:=λ_ _ _=>False
variable{X:Cx}
theorem Ji:F0 CX0 X E0:=λ_ _ _ _ _ _ _ h=>h.elim
structure Fun(K:ib)(x qual:Str)(st:Stmt)(f:ig)(fd:iu):Prop where
 ex:∃(oc:ie) (od:Option ig) (kV doc pm:ie) (an:Option ig) (cdv ct:ie) (osl:Array (Option ie)),
  fd=PySem.W.fnOf x qual (EN st) (B6 st) (AD st) .none kV doc pm an cdv ct/\K.lookup f=some ⟨oc,od,.func fd,osl⟩/\PySem.W.codeIn K cdv qual=true
 kp:PySem.W.keepIn K (.ref f)=true
variable{qual:Str}{f:ig}
section
variable{P:im}{w:ir}{K:ib}{mg:Str->Option ie}{base:Heap}
theorem Fun.ok{x:Str}{st:Stmt}{N ps:List Str}{k:Nat}{sp:Sp}(F:Fun K x qual st f fd)(S:FnScope N ps (AD st))(len:∀vs H Q E,sp vs H Q E->vs.length=ps.length)
 (hbody:∀(cdv:ie) (A:Around) (outer:List Env) (s:ij) (H:Hp) (vs:List V) (Q:VK) (E:XK),Room k (A.deeper (envOfC qual (AD st) s.heap.objs.size f cdv))->sp vs H Q E->
   ∃t,PSs (E7 CX0 P w K mg base N qual (AD st) f cdv A outer s H E).nox (B6 st) t/\t {nx:=λ_ H'=>Q .non H',rt:=Q} (EC N vs) H):FnOk P w K mg base CX0 (k+1) f fd ps sp:=by
 clear 5 F.ex oc od kV doc pm an cdv ct osl rfl lk hcd;refine U5 lk hcd S len λA outer s H vs Q E hr hsp=>?_;clear 5(hbody cdv A outer s H vs Q E hr hsp)t h q;exact⟨t,h.nox,q⟩
theorem Fun.binds{x:Str}{st:Stmt}{ps:List Str}(F:Fun K x qual st f fd)
 (h:∀(kV doc pm:ie) (an:Option ig) (cdv ct:ie) (us:List ie),us.length=ps.length->bindArgs (PySem.W.fnOf x qual (EN st) (B6 st) (AD st) .none kV doc pm an cdv ct) ⟨us,[]⟩=pure (ps.zip us)):Binds K fd ps []:=by
 clear 5 F.ex oc od kV doc pm an cdv ct osl rfl lk hcd;exact .all (h kV doc pm an cdv ct)
theorem Hc{x:Str}{st:Stmt}{oc:ie}{od an:Option ig}{osl:Array (Option ie)}{kV doc pm cdv ct:ie}(l:K.lookup f=some ⟨oc,od,.func (PySem.W.fnOf x qual (EN st) (B6 st) (AD st) .none kV doc pm an cdv ct),osl⟩)
 (c:PySem.W.codeIn K cdv qual=true) (k:PySem.W.keepIn K (.ref f)=true):Fun K x qual st f (PySem.W.fnOf x qual (EN st) (B6 st) (AD st) .none kV doc pm an cdv ct):=⟨⟨oc,od,kV,doc,pm,an,cdv,ct,osl,rfl,l,c⟩,k⟩
end
section
variable{X:Cx}
end
def gz(H H':Hp):Prop:=∀b o,H b=some o->H' b=some o
section
variable{κ:Type}[DecidableEq κ]
noncomputable def DU(kvs:List (κ×V))(k:κ):Option V:=(kvs.find? λkv=>decide (kv.1=k)).map (·.2)
noncomputable def Ex(kvs:List (κ×V))(k:κ)(v:V):List (κ×V):=
 if (kvs.any λkv=>decide (kv.1=k))=true then kvs.map (λkv=>if kv.1=k then(kv.1,v) else kv) else kvs++[(k,v)]
theorem HQ{p:κ×V}{r:List (κ×V)}{k:κ}(e:p.1=k):DU (p::r) k=some p.2:=by simp[DU,ui9,e]
theorem HN{p:κ×V}{r:List (κ×V)}{k:κ}(e:¬p.1=k):DU (p::r) k=DU r k:=by simp[DU,ui9,e]
theorem Jy(kvs:List (κ×V))(k:κ)(v:V):(Ex kvs k v).length<=kvs.length+1:=by
 unfold Ex
 split
 .rw[ui2];lia
 .rw[ue6,ug5,uj0];lia
theorem RelO.isSome_eq{o:Option V}{u:Option ie}(r:RelO o u):o.isSome=u.isSome:=by
 cases o with
 |none=>cases u with
   |none=>rfl
   |some _=>exact(show False from r).elim
 |some _=>cases u with
   |none=>exact(show False from r).elim
   |some _=>rfl
theorem KV.val{kvs:List (κ×V)}{vs:List (κ×ie)}(r:KV kvs vs)(k:κ):RelO (DU kvs k) (valueAt vs k):=by
 unfold KV at r
 induction r with
 |nil=>exact True.intro
 |@cons p q ps qs h t ih=>
   clear 5 h h1 h2
   by_cases e:p.1=k
   .have e':q.1=k:=h1.symm.trans e;have b:valueAt (q::qs) k=some q.2:=by simp[valueAt,ui9,e']
    rw[HQ e,b];exact h2
   .have e':¬q.1=k:=λz=>e (h1.trans z);have b:valueAt (q::qs) k=valueAt qs k:=by simp[valueAt,ui9,e']
    rw[HN e,b];exact ih
theorem KV.any{kvs:List (κ×V)}{vs:List (κ×ie)}(r:KV kvs vs)(k:κ):(kvs.any λkv=>decide (kv.1=k))=vs.any λkv=>decide (kv.1=k):=by
 unfold KV at r
 induction r with
 |nil=>rfl
 |cons h t ih=>rw[uk7,uk7,ih,h.1]
theorem KV.repl{kvs:List (κ×V)}{vs:List (κ×ie)}(r:KV kvs vs)(k:κ){y:V}{u:ie}(ry:RelV y u) :
 KV (kvs.map λkv=>if kv.1=k then(kv.1,y) else kv) (vs.map λkv=>if kv.1=k then(kv.1,u) else kv):=by
 unfold KV at r⊢
 induction r with
 |nil=>exact .nil
 |@cons p q ps qs h t ih=>
   rw[uk4,uk4];refine .cons ?_ ih;clear 5 h h1 h2
   by_cases e:p.1=k
   .rw[lD e,lD (h1.symm.trans e)];exact⟨h1,ry⟩
   .rw[lE e,lE (λz=>e (h1.trans z))];exact⟨h1,h2⟩
theorem KV.put{kvs:List (κ×V)}{vs:List (κ×ie)}(r:KV kvs vs)(k:κ){y:V}{u:ie}(ry:RelV y u):KV (Ex kvs k y) (stored vs k u):=by
 unfold Ex stored;rw[r.any k]
 by_cases e:(vs.any λkv=>decide (kv.1=k))=true
 .rw[lD e,lD e];exact r.repl k ry
 .rw[lE e,lE e];exact Paired.snoc r ⟨rfl,ry⟩
theorem KV.length{kvs:List (κ×V)}{vs:List (κ×ie)}(r:KV kvs vs):kvs.length=vs.length:=Paired.length r
end
theorem KB{k:Key}{u:ie}(r:RelV (kV k) u):(BY P w).is k u=true:=by
 cases k with
 |inl i=>clear 5((show ∃t,u=Value.int i t from r))t e;subst e;exact N7 P w i t
 |inr x=>clear 5((show ∃t,u=Value.str x t from r))t e;subst e;exact N8 P w x t
theorem L6{P:im}{w:ir}:∀{ks:List Key}{us:List ie},Vals (ks.map kV) us->ItemsAre (BY P w) ks us
 |[],_,r=>by rw[um0] at r;cases r;exact .nil
 |k::ks,_,r=>by
   rw[uk4] at r
   cases r with
   |cons h t=>exact .cons (KB h) (L6 t)
abbrev KT(H:Hp):List (List Key×V)->List (List Key×ig×ie)->Prop:=Paired λp q=>p.1=q.1/\H q.2.1=some (.tup (p.1.map kV))/\RelV p.2 q.2.2
variable{H:Hp}
theorem KT.val{kvs:List (List Key×V)}{xs:List (List Key×ig×ie)}(r:KT H kvs xs)(k:List Key):RelO (DU kvs k) ((atKey xs k).map (·.2)):=by
 induction r with
 |nil=>exact True.intro
 |@cons p q ps qs h t ih=>
   obtain⟨h1,_,h2⟩:=h
   by_cases e:p.1=k
   .have e':q.1=k:=h1.symm.trans e;have b:atKey (q::qs) k=some q.2:=by simp[atKey,ui9,e']
    rw[HQ e,b];exact h2
   .have e':¬q.1=k:=λz=>e (h1.trans z);have b:atKey (q::qs) k=atKey qs k:=by simp[atKey,ui9,e']
    rw[HN e,b];exact ih
variable{kvs:List (Key×V)}
section
variable{P:im}{w:ir}{H:Hp}{h:Heap}{a:ig}
theorem Vh{u:HO}(ok:HOk P w H h)(e:Rd H a u):ObjOk P w H h a u:=e.ok ok
theorem U0(ok:HOk P w H h)(e:Rd H a (.dK kvs)):kvs.length<=sizeLine/\(a==sysModules)=false/\∃vs,KV kvs vs/\h.DictOf (BY P w) a vs:=
 show ObjOk P w H h a (.dK kvs) from Vh ok e
theorem IX(ok:HOk P w H h)(e:H a=some (.dK kvs)):kvs.length<=sizeLine/\(a==sysModules)=false/\∃vs,KV kvs vs/\h.DictOf (BY P w) a vs:=U0 ok (.inl e)
theorem Rm{ks:List Key}(ok:HOk P w H h)(e:H a=some (.tup (ks.map kV))):(tupleKind (BY P w)).is h ks a:=by
 obtain⟨_,its,r,o,h1,h2,n,h3⟩:=(show ObjOk P w H h a (.tup (ks.map kV)) from ok a _ e);exact⟨o,its.toArray,n,h1,h2,h3,by simpa using L6 r⟩
theorem aZ{kvs:List (List Key×V)}(ok:HOk P w H h)(e:Rd H a (.dT kvs)):kvs.length<=sizeLine/\(a==sysModules)=false/\
 ∃xs,KT H kvs xs/\h.DictOfH (tupleKind (BY P w)) a xs:=by
 clear 5((show ObjOk P w H h a (.dT kvs) from Vh ok e))z y xs r o es ep h1 h2 h3 h4 h5;refine⟨z,y,xs,r,o,es,ep,h1,h2,h3,h4,λx hx=>?_,h5⟩;have all:∀{l:List (List Key×V)}{m:List (List Key×ig×ie)},KT H l m->∀x∈m,(tupleKind (BY P w)).is h x.1 x.2.1:=by
  intro l m q
  induction q with
  |nil=>intro x hx;exact nomatch hx
  |@cons p q ps qs hq t ih=>
    intro x hx;rcases uk3.mp hx with e|hx
    .subst e;exact Rm ok (by rw[<-hq.1];exact hq.2.1)
    .exact ih x hx
 exact all r x hx
end
def DGet(H:Hp)(a:ig)(y:V)(r:Option V):Prop:=
 (∃kvs k,Rd H a (.dK kvs)/\y=kV k/\r=DU kvs k)\/∃kvs k b,Rd H a (.dT kvs)/\y=.ref b/\H b=some (.tup (k.map kV))/\r=DU kvs k
def gq(H:Hp)(a:ig)(y v:V)(H':Hp):Prop:=
 (∃kvs k,H a=some (.dK kvs)/\y=kV k/\kvs.length<sizeLine/\H'=upd H a (.dK (Ex kvs k v)))\/
 ∃kvs k b,H a=some (.dT kvs)/\y=.ref b/\H b=some (.tup (k.map kV))/\kvs.length<sizeLine/\H'=upd H a (.dT (Ex kvs k v))
theorem DGet.k{a:ig}{k:Key}(e:H a=some (.dK kvs)):DGet H a (kV k) (DU kvs k):=.inl ⟨kvs,k,.inl e,rfl,rfl⟩
section
variable{X:Cx}{ic:List (ig×Obj)}{σ:St}{H:Hp}{s:ij}{a:ig}{y v:V}{u r:ie}{o:Option V}{A:Around}{E:ie->ij->Prop}
theorem Inv.big(I:Inv X ic σ H s):sysModules<s.heap.objs.size:=by
 have h:mainGlobals<s.heap.objs.size:=(I.mod.glob.keeps I.bk).lt;exact Nat.lt_trans (by decide) h
theorem dE{Q:ie->ij->Prop}(hu:A.units+1<cLine)(I:Inv X ic σ H s)(g:DGet H a y o)(ry:RelV y u)(h:∀s',Inv X ic σ H s'->Q (.bool o.isSome) s') :
 wpAny (model X.prog X.w) A (compareOp .In u (.ref a)) Q E s:=by
 rcases g with⟨kvs,k,e,ey,l⟩|⟨kvs,k,b,e,ey,eb,l⟩
 .subst ey;clear 5(U0 I.hok e)z hd vs rel dd;refine wpAny_in_of (KB ry) hd dd.mapOf ?_;rw[<-(rel.val k).isSome_eq,<-l];exact h _ (I.tok _)
 .subst ey
  cases (show u=Value.ref b from ry)
  clear 5(aZ I.hok e)z hd xs rel dd;refine wpAny_in_heap (tupleKind_room_in1 hu) (Rm I.hok eb) hd dd ?_;have q:=(rel.val k).isSome_eq;rw[Option.isSome_map] at q;rw[<-q,<-l];exact h _ (I.tok _)
theorem Op{h':Heap}{t':Nat}{ob:HO}(I:Inv X ic σ H s)(mu:Mut (H a))(hs:Heap.SameBut a s.heap h')(he:∃q,h'.get? a=some q)(new:ObjOk X.prog X.w (upd H a ob) h' a ob) :
 Inv X ic σ (upd H a ob) {s with heap:=h',toks:=t'}:=
 I.write (x:=a) (e:=a) mu (.inl rfl) (λb q hb z=>(hs.2 b hb).trans z) he new
theorem M7{H':Hp}{h':Heap}{vs:List (Key×ie)}(z:kvs.length<=sizeLine)(hd:(a==sysModules)=false)(rel:KV kvs vs)(dd:h'.DictOf (BY P w) a vs) :
 ObjOk P w H' h' a (.dK kvs):=⟨z,hd,vs,rel,dd⟩
end
section
variable{X:Cx}{ic:List (ig×Obj)}{σ:St}{H:Hp}{s:ij}{a:ig}{kvs:List (Key×V)}{k:Key}{u:ie}{A:Around}{E:ie->ij->Prop}
end
section
variable{X:Cx}{o i e value:Expr}{pos pos' tpos:Pos}{td ty tv:TE}
end
theorem M6(h:Heap)(hb:sysModules<h.objs.size):ObjOk P w H (h.push {cls:=.type "dict",data:=.dict #[]}) h.objs.size (.dK []):=
 ⟨um6 _,kl.mpr (Ne.symm (ul6 hb)),[],.nil,Heap.DictOf.new h⟩
def aw:TE:=λ_ H Q=>∀p,H p=none->Q (.ref p) (upd H p (.dK []))
section
variable{X:Cx}{pos:Pos}
theorem Ua:PE X (.Dict [] [] pos) aw:=λic s σ H Q I h=>
 wpAny_Dict_empty ⟨.ref s.heap.objs.size,_,I.laid (a:=s.heap.objs.size) (o:=.dK []) (t':=s.toks) (λ_ _ q=>ub9 _ q) (um5 _) (M6 s.heap I.big),rfl,h _ (I.hok.fresh (um5 _))⟩
end
def KN:List (TE×TE)->St->Hp->(List (V×V)->Hp->Prop)->Prop
 |[],_,H,Q=>Q [] H
 |(tk,tv)::r,σ,H,Q=>tk σ H λx H1=>tv σ H1 λy H2=>KN r σ H2 λps H3=>Q ((x,y)::ps) H3
abbrev VV:List (V×V)->List (ie×ie)->Prop:=Paired λp q=>RelV p.1 q.1/\RelV p.2 q.2
def PPs(X:Cx)(pos:Pos)(keys:List (Option Expr))(values:List Expr)(trs:List (TE×TE)):Prop:=
 ∀(ic:List (ig×Obj)) (s:ij) (σ:St) (H:Hp) (Q:List (V×V)->Hp->Prop),Inv X ic σ H s->KN trs σ H Q->
  wpAny (model X.prog X.w) X.A (evalPairs (pairTrees keys values X.env pos)) (λvs s'=>∃ps H',Inv X ic σ H' s'/\VV ps vs/\Q ps H') X.xe s
theorem WQ{pos:Pos}:PPs X pos [] [] []:=λic s σ H Q I h=>pairTrees_nil_walk ⟨[],H,I,.nil,h⟩
theorem Uh{pos:Pos}{k v:Expr}{ks:List (Option Expr)}{vs:List Expr}{tk tv:TE}{trs:List (TE×TE)}(hk:PE X k tk)(hv:PE X v tv)(hr:PPs X pos ks vs trs) :
 PPs X pos (some k::ks) (v::vs) ((tk,tv)::trs):=λic s σ H Q I h=>
 pairTrees_cons_walk (thn (hk ic s σ H _ I h) λu s1 ⟨x,H1,I1,rx,q1⟩=>thn (hv ic s1 σ H1 _ I1 q1) λw2 s2 ⟨y,H2,I2,ry,q2⟩=>
  thn (hr ic s2 σ H2 _ I2 q2) λws s3 ⟨ps,H3,I3,rel,q3⟩=>⟨(x,y)::ps,H3,I3,.cons ⟨rx,ry⟩ rel,q3⟩)
def Gy(kvs more:List (Key×V)):List (Key×V):=more.foldl (λacc kv=>Ex acc kv.1 kv.2) kvs
theorem KV.merge:∀{more:List (Key×V)}{rs:List (Key×ie)}{kvs:List (Key×V)}{vs:List (Key×ie)},KV more rs->KV kvs vs->KV (Gy kvs more) (merged vs rs):=by
 intro more rs kvs vs r;unfold KV at r
 induction r generalizing kvs vs with
 |nil=>intro q;exact q
 |@cons p q ps qs h t ih=>
   intro r0;have e:KV (Ex kvs p.1 p.2) (stored vs q.1 q.2):=by
    have:=r0.put p.1 h.2;rw[<-h.1];exact this
   exact ih e
theorem HW:∀(more kvs:List (Key×V)),(Gy kvs more).length<=kvs.length+more.length
 |[],kvs=>by show kvs.length<=kvs.length+0;lia
 |p::r,kvs=>by
   have h1:=HW r (Ex kvs p.1 p.2);have h2:=Jy kvs p.1 p.2;show(Gy (Ex kvs p.1 p.2) r).length<=_;rw[ug5];lia
theorem Kk{P:im}{w:ir}:∀{kvs:List (Key×V)}{ws:List (ie×ie)},VV (kvs.map λkv=>(kV kv.1,kv.2)) ws->∃rs,Carries (BY P w) ws rs/\KV kvs rs
 |[],_,r=>by rw[um0] at r;cases r;exact⟨[],True.intro,.nil⟩
 |p::kvs,_,r=>by
   rw[uk4] at r
   cases r with
   |@cons a b as bs h t=>
     clear 5(Kk (P:=P) (w:=w) t)rs c q;clear 5 b b1 b2;exact⟨(p.1,b2)::rs,⟨KB h.1,rfl,c⟩,.cons ⟨rfl,h.2⟩ q⟩
def bW(trs:List (TE×TE)):TE:=λσ H Q=>∀p,H p=none->KN trs σ (upd H p (.dK [])) λps H2=>H2 p=some (.dK [])/\∃kvs:List (Key×V),ps=kvs.map (λkv=>(kV kv.1,kv.2))/\kvs.length<=15/\Q (.ref p) (upd H2 p (.dK (Gy [] kvs)))
theorem WG{pos:Pos}{keys:List (Option Expr)}{values:List Expr}{trs:List (TE×TE)}(h:PPs X pos keys values trs)(hall:keys.all (·.isSome)=true)(hl:keys.length=values.length)(h0:keys≠[])
 (h15:keys.length<=15):PE X (.Dict keys values pos) (bW trs):=by
 intro ic s σ H Q I q;have hn:=I.hok.fresh (um5 s.heap.objs.size);have I1:=I.laid (a:=s.heap.objs.size) (o:=.dK []) (h':=s.heap.push {cls:=.type "dict",data:=.dict #[]}) (t':=s.toks) (λ_ _ q=>ub9 _ q) (um5 _) (M6 s.heap I.big);refine wpAny_Dict_walk (knd:=BY X.prog X.w) hall hl h0 h15 (thn (h ic _ σ _ _ I1 (q _ hn)) λws s2 z9=>?_);clear 5 z9 ps H2 I2 rel e kvs ep lk q2;subst ep;clear 5(Kk (P:=X.prog) (w:=X.w) rel)rs c rk;clear 5(IX I2.hok e)z hd vs0 r0 dd
 cases r0
 refine⟨rs,c,dd,λh' dd' hs=>⟨.ref s.heap.objs.size,_,?_,rfl,q2⟩⟩;have hz:(Gy [] kvs).length<=sizeLine:=by
  have h1:=HW kvs [];rw[uj0] at h1;rw[li];lia
 have he:∃q,h'.get? s.heap.objs.size=some q:=let ⟨q,_,_,hq,_⟩:=dd';⟨q,hq⟩;exact Op I2 (by rw[e];exact True.intro) hs he (M7 hz hd (rk.merge .nil) dd')
theorem Gb{env:Env}:∀(l:List (Str×NameKind)) (cs:List (Str×ig)),(∀x c,cs.lookup x=some c->env.cells.lookup x=some c)->(∀y∈l,y.2=.free->∃c,env.cells.lookup y.1=some c)->
 ∃cl,(forIn l cs λ(x:Str×NameKind) r=>(match x with|(name,kind)=>if (kind==NameKind.free)=true then do let c <-cellOf env name;pure (ForInStep.yield ((name,c)::r)) else pure (ForInStep.yield r):Sem (ForInStep (List (Str×ig)))))=pure cl/\
  (∀x c,cl.lookup x=some c->env.cells.lookup x=some c)/\(∀x c,cs.lookup x=some c->∃c',cl.lookup x=some c')/\∀y∈l,y.2=.free->∃c,cl.lookup y.1=some c
 |[],cs,h,_=>⟨cs,rfl,h,λ_ c e=>⟨c,e⟩,λ_ z=>nomatch z⟩
 |(n,k)::l,cs,h,hf=>by
   by_cases hk:k=.free
   .subst hk;clear 5(hf (n,.free) ue2 rfl)c hc;have hc':env.cells.lookup n=some c:=hc;have e:cellOf env n=pure c:=by unfold cellOf;rw[hc']
    obtain⟨cl,e1,e2,e3,e4⟩:=Gb l ((n,c)::cs) (λx c' q=>by
     rw[uh1] at q
     by_cases hx:(x==n)=true
     .rw[hx] at q;cases q;rw[eq_of_beq hx];exact hc'
     .rw[uf8.mpr hx] at q;exact h x c' q) (λy hy=>hf y (ud1 _ hy))
    have self:((n,c)::cs).lookup n=some c:=by rw[uh1,uh9]
    refine⟨cl,?_,e2,λx c' q=>?_,λy hy hyf=>?_⟩
    .rw[List.forIn_cons];simp only[uh9,ly,e];exact e1
    .by_cases hx:(x==n)=true
     .rw[eq_of_beq hx];exact e3 n c self
     .exact e3 x c' (by rw[uh1,uf8.mpr hx];exact q)
    .rcases uk3.mp hy with z|z
     .subst z;exact e3 n c self
     .exact e4 y z hyf
   .have hb:(k==NameKind.free)=false:=by simpa using hk
    clear 5(Gb l cs h (λy hy=>hf y (ud1 _ hy)))cl e1 e2 e3 e4;refine⟨cl,?_,e2,e3,λy hy hyf=>?_⟩
    .rw[List.forIn_cons];simp only[hb,ue7,lv];exact e1
    .rcases uk3.mp hy with z|z
     .subst z;exact absurd hyf hk
     .exact e4 y z hyf
theorem Km{scope:Scope}{env:Env}(h:∀y∈scope.names,y.2=.free->∃c,env.cells.lookup y.1=some c) :
 ∃cl,closureFor scope env=pure cl/\(∀x c,cl.lookup x=some c->env.cells.lookup x=some c)/\∀y∈scope.names,y.2=.free->∃c,cl.lookup y.1=some c:=by
 obtain⟨cl,e1,e2,_,e4⟩:=Gb (env:=env) scope.names [] (λ_ _ q=>nomatch q) h;refine⟨cl,?_,e2,e4⟩;simp only[closureFor]
 first|(rw[e1];rfl)|(simp only[e1];rfl)|(trace_state;exact e1)
theorem M5{prog:im}{A:Around}{R:Result->ij->Prop}{s:ij}{elt target iter:Expr}{ifs:List Expr}{scope:Scope}{pos:Pos}{it acc:ie}{env:Env}(I:Nat->ij->Prop)
 (turn:∀n s,I n s->wpAny (model prog w) A (pyNext it) (λr s₁=>match r with
   |none=>R (.ok .next) s₁
   | some v=>wpAny (model prog w) A (letOwnedTupleGo target it v) (λ_ s₁'=>wpAny (model prog w) A (assign target env v) (λ_ s₂=>
      wpAny (model prog w) A (forIn ifs true λc r=>if r=true then do let ok <-isTrue c env (eval c env);pure (ForInStep.yield ok) else pure (ForInStep.yield r)) (λok s₃=>
       if ok=true then wpAny (model prog w) A (eval elt env) (λx s₄=>
        wpAny (model prog w) A (call (.builtin "list.append") [acc,x]) (λ_ s₅=>∃m,m<n/\I m s₅) (λ_ _=>False) s₄) (λ_ _=>False) s₃
       else ∃m,m<n/\I m s₃) (λ_ _=>False) s₂) (λ_ _=>False) s₁') (λ_ _=>False) s₁) (λ_ _=>False) s)
 (n:Nat) (h:I n s) :
 codeAny (model prog w) A (.compLoop (.ListComp elt [⟨target,iter,ifs,0⟩] scope pos) 0 it acc env) R s:=by
 refine codeAny_loop rfl I (λn s hI=>?_) n h;show wpAny _ A ((compTurn (.ListComp elt [⟨target,iter,ifs,0⟩] scope pos) 0 it acc env).onRaise (λx=>do noteFrame x env;theTreesLotGoes x)) _ _ s;refine wpAny_noted ?_;rw[compTurn_list];refine um9 (kU (um9 (un1 (turn n s hI) (λr s₁ h₁=>?_) λ_ _ h'=>h'.elim)))
 cases r with
 |none=>exact un0 h₁
 |some v=>
   refine um9 (un1 h₁ (λ_ s₁' h₁'=>?_) λ_ _ h'=>h'.elim);refine um9 (un1 h₁' (λ_ s₂ h₂=>um9 (un1 h₂ (λok s₃ h₃=>?_) λ_ _ h'=>h'.elim)) λ_ _ h'=>h'.elim)
   cases ok with
   |false=>exact un0 ⟨rfl,h₃⟩
   |true=>
     exact um9 (um9 (un1 h₃ (λx s₄ h₄=>um9 (un1 h₄ (λ_ s₅ h₅=>un0 (un0 ⟨rfl,h₅⟩)) λ_ _ h'=>h'.elim)) λ_ _ h'=>h'.elim))
end
noncomputable def Cs(X:Cx)(N':List Str)(scope:Scope)(cl:List (Str×ig))(C:ig)(s2:ij)(H2:Hp)(fp:List ig):Cx where
 prog:=X.prog
 w:=X.w
 K:=X.K
 mg:=X.mg
 base:=X.base
 A:=X.A
 N:=N'
 s₀:=s2
 H₀:=H2
 env:=compEnvC scope cl C X.env
 outer:=X.stack
 stack:=X.stack
 ex:=fp
 fn:=λ_=>false
 calm:=X.calm
 pn:=[]
 xe:=λ_ _=>False
theorem Jz(h:Str->NameKind->NameKind)(x:Str):∀l:List (Str×NameKind),(l.map λp=>(p.1,h p.1 p.2)).lookup x=(l.lookup x).map (h x)
 |[]=>rfl
 |(n,k)::l=>by
   show List.lookup x ((n,h n k)::_)=_;rw[uh1,uh1]
   by_cases hx:(x==n)=true
   .rw[hx,eq_of_beq hx];rfl
   .rw[uf8.mpr hx];exact Jz h x l
theorem Hg(scope:Scope)(env:Env)(x:Str):(relabel scope env).names.lookup x=(scope.names.lookup x).map λk=>if (k==.free&&env.scope.kind==.function&&env.kindOf x==some .cell)=true then .cell else k:=by
 rw[<-Jz (λn k=>if (k==NameKind.free&&env.scope.kind==.function&&env.kindOf n==some .cell)=true then .cell else k) x scope.names];unfold relabel;dsimp only
 congr 1
 apply ud9;intro p _;clear 5 p n k;dsimp only
 split<;>rfl
theorem Dj{x:Str}{k:NameKind}:∀{l:List (Str×NameKind)},l.lookup x=some k->(x,k)∈l
 |(n,k')::l,h=>by
   rw[uh1] at h
   by_cases hx:(x==n)=true
   .rw[hx] at h;cases h;rw[eq_of_beq hx];exact ue2
   .rw[uf8.mpr hx] at h;exact ud1 _ (Dj h)
theorem NM{scope:Scope}{env:Env}{x:Str}(hcell:∀y∈scope.names,y.2≠.cell)(h:(relabel scope env).names.lookup x=some .cell\/(relabel scope env).names.lookup x=some .free):scope.names.lookup x=some .free:=by
 rw[Hg] at h
 cases e:scope.names.lookup x with
 |none=>rw[e] at h;rcases h with h|h<;>cases h
 |some k=>
   by_cases hk:k=.free
   .rw[hk]
   .have hb:(k==NameKind.free)=false:=by simpa using hk
    rw[e] at h;simp only[uj1,hb,uj7,ue7,lv] at h;rcases h with h|h
    .cases h;exact absurd rfl (hcell _ (Dj e))
    .cases h;exact absurd rfl hk
def PIf(X:Cx)(ifs:List Expr)(t:TT):Prop:=
 ∀(ic:List (ig×Obj)) (s:ij) (σ:St) (H:Hp) (Q:Bool->Hp->Prop),Inv X ic σ H s->t σ H Q->
  wpAny (model X.prog X.w) X.A (forIn ifs true λc r=>if r=true then do let ok <-isTrue c X.env (eval c X.env);pure (ForInStep.yield ok) else pure (ForInStep.yield r)) (TP X ic σ Q) X.xe s
def b8:TT:=λ_ H Q=>Q true H
theorem WL{X:Cx}:PIf X [] b8:=λ_ _ _ H _ I h=>wpAny_tests_nil ⟨H,I,h⟩
theorem WM{X:Cx}{c:Expr}{t:TT}(h:PT X c t):PIf X [c] t:=λic s σ H Q I q=>wpAny_tests_one (h ic s σ H Q I q)
def Sx(J:It)(g:TG)(tt:TT)(te:TE)(σ₀:St)(H1:Hp)(Fin:List V->Hp->Prop):Prop:=
 ∃W:Nat->Nat->List V->St->Hp->Prop,(∃m,W 0 m [] σ₀ H1)/\∀i m acc σ' H',W i m acc σ' H'->acc.length<=sizeLine/\
  ((J.stop i H'/\Fin acc H')\/
    (J.go i H'/\∀x H2,J.yld i H' x H2->g x σ' H2 λσ3 H3=>tt σ3 H3 λb H4=>if b=true then te σ3 H4 λv H5=>∃m',m'<m/\W (i+1) m' (acc++[v]) σ3 H5 else ∃m',m'<m/\W (i+1) m' acc σ3 H4))
def Mz(wi:TI)(g:TG)(tt:TT)(te:TE)(σf:St->St):TE:=λσ H Q=>wi σ H λJ H1=>Sx J g tt te (σf σ) H1 λacc H'=>∀p,H' p=none->acc.length<=sizeLine->Q (.ref p) (upd H' p (.lst acc))
structure CmpOk(X:Cx)(scope:Scope)(N':List Str)(σf:St->St):Prop where
 kind:scope.kind=.function
 cell:∀y∈scope.names,y.2≠.cell
 loc:∀y∈scope.names,y.2=.local->scope.names.lookup y.1=some .local
 free:∀y∈scope.names,y.2=.free->X.env.kindOf y.1=some .cell\/X.env.kindOf y.1=some .free
 len:∀σ:St,σ.length=X.N.length->(σf σ).length=N'.length
 vals:∀(σ:St) (j:Nat) (x:Str) (v:V),N'[j]?=some x->(σf σ)[j]?=some (some v)->∃i:Nat,X.N[i]?=some x/\σ[i]?=some (some v)/\scope.names.lookup x=some .free
section
variable{ic:List (ig×Obj)}{σ:St}{H2:Hp}{s2:ij}{cl:List (Str×ig)}{fp:List ig}
section
variable{X:Cx}{tg elt iter:Expr}{ifs:List Expr}{scope:Scope}{pos:Pos}{N':List Str}{wi:TI}{g:TG}{tt:TT}{te:TE}{σf:St->St}
theorem Yb{C:ig}(O:CmpOk X scope N' σf)(I2:Inv X ic σ H2 s2)(f2:∀b∈fp,FpOk X ic H2 b)(hC:s2.heap.objs.size<=C)
 (hlt:∀b∈fp,b<s2.heap.objs.size) (e2:∀x c,cl.lookup x=some c->X.env.cells.lookup x=some c) (e4:∀y∈scope.names,y.2=.free->∃c,cl.lookup y.1=some c):(Cs X N' scope cl C s2 H2 fp).Ok where
 mod:=I2.ok.mod
 kind:=O.kind
 glob:=I2.ok.glob
 blt:=I2.ok.blt
 above:=hC
 inj:=λx y c h1 h2=>I2.ok.inj x y c (e2 x c h1) (e2 y c h2)
 has:=λx h=>by
  have q:=NM (env:=X.env) (x:=x) O.cell h;exact e4 _ (Dj q) rfl
 cab:=λx c h _=>nomatch h
 hd:=I2.ok.hd
 frames:=I2.ok.frames
 stk:=.inl rfl
 exf:=λb hb=>⟨ul6 (ue1 (hlt b hb) hC),λx c e=>(f2 b hb).2.2.2.2.1 x c (e2 x c e)⟩
 bs:=I2.bs
 bsz:=ul7 I2.ok.bsz I2.sz
 noex:=λb o e hb=>by
  rcases (f2 b hb).2.2.2.1 with z|z
  .exact I2.ok.noex b o e z
  .exact absurd (ue1 (ul5 (I2.ok.bs b o e).1) z) (uk2 _)
 exfs:=λb hb z=>by
  rcases uk3.mp (I2.stkSub b z) with q|q
  .exact(f2 b hb).2.1 q
  .exact(f2 b hb).2.2.1 q
 funs:=I2.stack
 frf:=I2.stkFree
theorem ao(I2:Inv X ic σ H2 s2){a:ig}(h:s2.heap.objs.size<=a):a∉frs X.stack:=λhb=>by
 rcases uk3.mp (I2.stkSub a hb) with q|q
 .exact absurd (ue1 I2.lt h) (by rw[q];exact uk2 _)
 .exact I2.nofs h q
theorem MN{it:ig}{tn:Nat->Heap->Prop}{J:It}{Fin:List V->Hp->Prop}{RR:ie->ig->Result->ij->Prop}{E:ie->ij->Prop}(O:CmpOk X scope N' σf)(hc:X.calm=true)
 (I2:Inv X ic σ H2 s2) (T:Turn X.prog X.w X.K tg J fp it tn) (st2:tn 0 s2.heap) (f2:∀b∈fp,FpOk X ic H2 b)
 (e2:∀x c,cl.lookup x=some c->X.env.cells.lookup x=some c) (e4:∀y∈scope.names,y.2=.free->∃c,cl.lookup y.1=some c)
 (hg:∀C,PG (Cs X N' scope cl C s2 H2 fp) tg g) (ht:∀C,PIf (Cs X N' scope cl C s2 H2 fp) ifs tt) (he:∀C,PE (Cs X N' scope cl C s2 H2 fp) elt te)
 (B:Sx J g tt te (σf σ) H2 Fin)
 (fin:∀C s' σ' H' acc m,s2.heap.objs.size<=C->C≠s2.heap.objs.size->Inv (Cs X N' scope cl C s2 H2 fp) [] σ' H' s'->H' s2.heap.objs.size=none->acc.length<=sizeLine->(∃its n,Vals acc its/\s'.heap.get? s2.heap.objs.size=some { cls:=.type "list",data:=.seq its.toArray n })->Fin acc H'->s'.heap.Ns C m->
   RR (.ref s2.heap.objs.size) C (.ok .next) s') :
 wpAny (model X.prog X.w) X.A (newList []) (λacc s₃=>wpAny (model X.prog X.w) X.A (newFunctionEnv scope X.env.globals cl [] X.env.qual none .none (some X.env)) (λcenv s₄=>
  codeAny (model X.prog X.w) X.A (.compStart (.ListComp elt [⟨tg,iter,ifs,0⟩] scope pos) 0 (.ref it) acc {cenv with scope:=relabel scope X.env}) (RR acc cenv.locals) s₄) E s₃) E s2:=by
 refine ky (wpAny_newFunctionEnv O.cell (by intro y hy;simp at hy) (λh₁ hns₁ hsb₁=>?_) O.kind);dsimp only at hns₁ hsb₁⊢;generalize hH2:s2.heap.push {cls:=.type "list",dict:=none,data:=.seq ([]:List ie).toArray}=HP at hns₁ hsb₁⊢;have hC:HP.objs.size=s2.heap.objs.size+1:=by rw[<-hH2,uj8]
 generalize hDD:s2.heap.objs.size=DD at *;generalize hCC:HP.objs.size=CC at *;have hDC:DD≠CC:=by rw[hC];exact ul6 (ug6 _)
 have hCle:s2.heap.objs.size<=CC:=by rw[hC,hDD];exact um7 _
 have hlt:∀b∈fp,b<s2.heap.objs.size:=λb hb=>by obtain⟨o,e,_⟩:=T.obj _ _ st2 b hb;exact ul5 e
 have hlt':∀b∈fp,b<DD:=λb hb=>by rw[<-hDD];exact hlt b hb
 have below:∀b,b<DD->b≠CC/\b≠DD:=λb hb=>⟨by rw[hC];exact ul6 (Nat.lt_succ_of_lt hb),ul6 hb⟩;have old:∀b o,s2.heap.get? b=some o->h₁.get? b=some o:=λb o e=>hsb₁.extBut b o (below b (by rw[<-hDD];exact ul5 e)).1 (ub9 _ (hH2 ▸ ub9 _ e));have hacc:h₁.get? DD=some {cls:=.type "list",data:=.seq ([]:List ie).toArray}:=by
  refine hsb₁.extBut _ _ hDC (ub9 _ ?_);rw[<-hH2,<-hDD];exact ud6 _ rfl
 have ok:=Yb (cl:=cl) (C:=CC) O I2 f2 hCle hlt e2 e4;have hfs:DD∉frs X.stack:=ao I2 (by rw[hDD];exact um5 _);obtain⟨W,⟨m0,w0⟩,turn⟩:=B
 let X':Cx:=Cs X N' scope cl CC s2 H2 fp
 have I0:Inv X' [] (σf σ) H2 {s2 with heap:=h₁,toks:=s2.toks+([]:List (Str×ie)).length}:=by
  refine⟨ok,rfl,I2.bare,Un.kept old,⟨_,hns₁,λj x v q1 q2 q3=>?_⟩,λx c e=>?_,I2.hok.fresh hCle,λx c e=>I2.freeC x c (e2 x c e),(λp hp=>nomatch hp),I2.hok.kept old,O.len σ I2.len⟩
  .clear 5(O.vals σ j x v q1 q2)i n1 n2 n3;obtain⟨m,_,hl⟩:=I2.loc;have hfr:=O.free _ (Dj n3) rfl;clear 5(hl i x v n1 n2 (.inr hfr))u r l;refine⟨u,r,?_⟩;rcases l with⟨k,_⟩|⟨_,c,ec,hcell⟩
   .rcases hfr with z|z<;>(have z':=k.symm.trans z;cases z')
   .clear 5(e4 _ (Dj n3) rfl)c' ec';have z:=e2 _ _ ec';have ez:X.env.cells.lookup x=some c':=z;rw[ec] at ez
    cases ez
    refine .inr ⟨?_,c,ec',?_⟩
    .show(relabel scope X.env).names.lookup x=some .cell\/(relabel scope X.env).names.lookup x=some .free;rw[Hg,n3];simp only[uj1]
     split
     .exact .inl rfl
     .exact .inr rfl
    .clear 5 hcell o ho hd;exact⟨o,old _ _ ho,hd⟩
  .clear 5(I2.cell x c (e2 x c e))v o ho hd;exact⟨v,o,old _ _ ho,hd⟩
 have loop:∀s₃:ij,s₃ = {s2 with heap:=h₁,toks:=s2.toks+([]:List (Str×ie)).length}->
  codeAny (model X.prog X.w) X.A (.compLoop (.ListComp elt [⟨tg,iter,ifs,0⟩] scope pos) 0 (.ref it) (.ref DD) (compEnvC scope cl CC X.env)) (RR (.ref DD) CC) s₃:=by
  rintro s₃ rfl;refine M5 (λn s'=>∃i acc its nn σ' H',Inv X' [] σ' H' s'/\tn i s'.heap/\(∀b∈fp,H' b=none)/\Vals acc its/\s'.heap.get? DD=some {cls:=.type "list",data:=.seq its.toArray nn}/\H' DD=none/\W i n acc σ' H') ?_ m0
   ⟨0,[],[],0,σf σ,H2,I0,T.keep _ _ _ st2 (λb _ o e=>old b o e),λb hb=>(f2 b hb).1,.nil,hacc,I2.hok.fresh (by rw[hDD];exact um5 _),w0⟩
  rintro n s' ⟨i,acc,its,nn,σ3,H3,I3,st3,fr3,hv,hD,hDn,w3⟩;have I3p:Inv X' [(DD,({cls:=.type "list",data:=.seq its.toArray nn}:Obj))] σ3 H3 s':=I3.pins_of λp hp=>by
   have e:p=(DD,({cls:=.type "list",data:=.seq its.toArray nn}:Obj)):=by simpa using hp
   subst e;exact⟨hD,hDn,hDC,hfs,λv z=>nomatch z⟩
  have stat:∀{pins':List (ig×Obj)}{H':Hp},(∀p∈pins',p.1=DD)->(∀b∈fp,H' b=none)->∀b∈fp,FpOk X' pins' H' b:=λ{pins' H'} hp hn b hb=>
   ⟨hn b hb,(ok.exf b hb).1,ok.exfs b hb,.inl hb,(ok.exf b hb).2,λp hp' z=>by
    have e:p.1=DD:=hp p (by simpa[X',Cs] using hp');exact absurd (hlt' b hb) (by rw[<-z,e];exact uk2 _)⟩
  have one:∀p∈[(DD,({cls:=.type "list",data:=.seq its.toArray nn}:Obj))],p.1=DD:=λp hp=>by
   have e:p=(DD,({cls:=.type "list",data:=.seq its.toArray nn}:Obj)):=by simpa using hp
   rw[e]
  clear 5(turn i n acc σ3 H3 w3)hz tr;rcases tr with⟨stop,qf⟩|⟨go,step⟩
  .refine thn (T.done X' rfl rfl rfl hc i _ s' σ3 H3 (λ_ _=>False) I3p (stat one fr3) st3 stop) λr s4 z9=>?_;clear 5 z9 hr I4;subst hr;obtain⟨m4,hm4,_⟩:=I4.loc;have pD:=(I4.pin (DD,({cls:=.type "list",data:=.seq its.toArray nn}:Obj)) (by simp[X',Cs])).1;have I4':Inv X' [] σ3 H3 s4:=I4.pins_of λp hp=>nomatch hp;exact fin CC s4 σ3 H3 acc m4 (by rw[hDD] at hCle;exact hCle) (Ne.symm hDC) I4' hDn hz ⟨its,nn,hv,pD⟩ qf hm4
  .refine thn (T.item X' rfl rfl rfl hc i _ s' σ3 H3 (λ_ _=>False) I3p (stat one fr3) st3 go) λr s4 z9=>?_;clear 5 z9 u hr h4;subst hr;refine thn h4 λ_ s5 z9=>?_;clear 5 z9 x H5 I5 r5 y5 st5 fr5;have I5':=I5.pinned (stat one fr5) (T.obj _ _ st5);refine thn (hg CC _ s5 σ3 H5 x u _ I5' r5 (step x H5 y5)) λ_ s6 z9=>?_;clear 5 z9 σ6 H6 I6 q6;refine thn (ht CC _ s6 σ6 H6 _ I6 q6) λb s7 z9=>?_;clear 5 z9 H7 I7 q7;have back:∀{H8:Hp}{s8:ij},Inv X' ([(DD,({cls:=.type "list",data:=.seq its.toArray nn}:Obj))]++IL fp s5.heap) σ6 H8 s8->
    s8.heap.get? DD=some {cls:=.type "list",data:=.seq its.toArray nn}/\H8 DD=none/\tn (i+1) s8.heap/\(∀b∈fp,H8 b=none)/\Inv X' [] σ6 H8 s8:=λ{H8 s8} I8=>by
    have p1:=I8.pin (DD,({cls:=.type "list",data:=.seq its.toArray nn}:Obj)) (by simp[X',Cs]);refine⟨p1.1,p1.2.1,T.keep _ _ _ st5 λb hb o e=>(I8.pin (b,o) (uc6 _ (uc6 _ (FO hb e)))).1,λb hb=>?_,I8.pins_of λp hp=>nomatch hp⟩;obtain⟨o,e,_⟩:=T.obj _ _ st5 b hb;exact(I8.pin (b,o) (uc6 _ (uc6 _ (FO hb e)))).2.1
   cases b with
   |false=>
     rw[lE ue3] at q7⊢;clear 5 q7 m' hm w7;clear 5(back I7)a1 a2 a3 a4 a5;exact⟨m',hm,i+1,acc,its,nn,σ6,H7,a5,a3,a4,hv,a1,a2,w7⟩
   |true=>
     rw[lD rfl] at q7⊢;refine thn (he CC _ s7 σ6 H7 _ I7 q7) λy s8 z9=>?_;clear 5 z9 v8 H8 I8 r8 m' hm w8;clear 5(back I8)a1 a2 a3 a4 a5;have hsz:its.toArray.size<=sizeLine:=by
      have e:=hv.length;simpa[e] using hz
     refine wpAny_list_append_plain (hsz:=hsz) ⟨nn,a1⟩ λh9 hl9 hs9=>?_;clear 5 hl9 n9 e9;have e9':h9.get? DD=some {cls:=.type "list",data:=.seq (its++[y]).toArray n9}:=by simpa using e9
     refine⟨m',hm,i+1,acc++[v8],its++[y],n9,σ6,H8,a5.turned (t':=s8.toks) (h':=h9) (it:=DD) (λb o hb e=>hs9.extBut b o hb e) a2 hDC (.inr (show s2.heap.objs.size<=DD by rw[hDD];exact um5 _)) (λx' c e z=>?_) (λp hp=>nomatch hp),T.keep _ _ _ a3 λb hb o e=>hs9.extBut b o (ul6 (hlt' b hb)) e,a4,hv.append (.cons r8 .nil),e9',a2,w8⟩;clear 5(I2.cell x' c (e2 x' c e))v o ho hd;have:=ul5 ho;rw[hDD,z] at this;exact uk2 _ this
 exact codeAny_compStart_list (loop _ rfl) (T.self _ 0 _ _ _ (T.keep _ _ _ st2 λb _ o e=>old b o e) (loop _ rfl))
end
section
variable{X:Cx}{tg elt iter:Expr}{ifs:List Expr}{scope:Scope}{pos:Pos}{N':List Str}{wi:TI}{g:TG}{tt:TT}{te:TE}{σf:St->St}
theorem LR{σ':St}{H':Hp}{s':ij}{C:ig}{acc:List V}{its:List ie}{n:Nat}{h':Heap}(I2:Inv X ic σ H2 s2)(f2:∀b∈fp,FpOk X ic H2 b)
 (hC:s2.heap.objs.size<=C) (hCD:C≠s2.heap.objs.size) (I':Inv (Cs X N' scope cl C s2 H2 fp) [] σ' H' s') (hDn:H' s2.heap.objs.size=none) (hz:acc.length<=sizeLine) (hv:Vals acc its)
 (hD:s'.heap.get? s2.heap.objs.size=some {cls:=.type "list",data:=.seq its.toArray n}) (hs:Heap.SameBut C s'.heap h') :
 Inv X ic σ (upd H' s2.heap.objs.size (.lst acc)) {s' with heap:=h'}:=by
 have U:=I'.base;have lt:∀b o,s2.heap.get? b=some o->b≠C/\b≠s2.heap.objs.size:=λb o e=>⟨ul6 (ue1 (ul5 e) hC),ul6 (ul5 e)⟩;have neD:∀b u,H' b=some u->b≠s2.heap.objs.size:=λb u e=>AX e hDn;have neC:∀b u,H' b=some u->b≠C:=λb u e=>AX e I'.free;refine I2.call' (s':={s' with heap:=h'}) (ch:=fp) I'.os ⟨λb o e n hb hx=>?_,λb o e n hb hx=>?_,λb o e n hx=>?_,λb o e hx=>?_,λb xs e=>?_,λb o u e=>?_,λb ps e=>?_⟩ ?_ I'.bare λb hb=>⟨(f2 b hb).2.2.2.1,(f2 b hb).2.1,(f2 b hb).2.2.2.2.1,(f2 b hb).2.2.2.2.2⟩
 .exact hs.extBut b o (lt b o e).1 (U.keep b o e n hb hx)
 .clear 5(U.slot b o e n hb hx)sl q;exact⟨sl,hs.extBut b _ (lt b o e).1 q⟩
 .rw[Ap (lt b o e).2];exact U.free b o e n hx
 .clear 5(U.there b o e hx)o' q;exact⟨o',hs.extBut b _ (lt b o e).1 q⟩
 .have q:=U.tups b xs e;rw[Ap (neD b _ q)];exact q
 .have q:=U.frzs b o u e;rw[Ap (neD b _ q)];exact q
 .clear 5(U.tbls b ps e)m q;exact⟨m,by rw[Ap (neD b _ q)];exact q⟩
 .intro b u e
  by_cases hb:b=s2.heap.objs.size
  .subst hb;rw[AG] at e
   cases e
   exact⟨hz,its,n,hv,hs.extBut _ _ (Ne.symm hCD) hD⟩
  .rw[Ap hb] at e;refine(I'.hok b u e).stay (λc v hc q=>hs.extBut c v ?_ q) (λc q=>by rw[Ap (neD c _ q)];exact q) λc xs q=>by rw[Ap (neD c _ q)];exact q
   rcases hc with z|z
   .rw[z];exact neC b u e
   .exact neC c _ z
theorem OQ(O:CmpOk X scope N' σf)(hc:X.calm=true)(hi:PI X tg iter wi)
 (hg:∀cl C s2 H2 fp,PG (Cs X N' scope cl C s2 H2 fp) tg g) (ht:∀cl C s2 H2 fp,PIf (Cs X N' scope cl C s2 H2 fp) ifs tt) (he:∀cl C s2 H2 fp,PE (Cs X N' scope cl C s2 H2 fp) elt te)
 (hs:∀x,foldedSetIterable iter X.env x=pure x:=by intro _;rfl):PE X (.ListComp elt [⟨tg,iter,ifs,0⟩] scope pos) (Mz wi g tt te σf):=by
 intro ic s σ H Q I h;obtain⟨cl,e1,e2,e4⟩:=Km (scope:=scope) (env:=X.env) λy hy hf=>I.ok.has y.1 (O.free y hy hf);rw[eval_ListComp];refine wpAny_comprehension_free (use:=none) rfl hs e1 O.kind O.loc (thn (hi ic s σ H _ I h) λv s1 h1=>thn h1 λitv s2 h2=>?_);clear 5 h2 it fp tn J H2 rfl I2 T st2 f2 B;refine MN (RR:=λacc C=>compPost (model X.prog X.w) X.A X.xe none (EP X ic σ Q) acc C) O hc I2 T st2 f2 e2 e4 (λC=>hg cl C s2 H2 fp) (λC=>ht cl C s2 H2 fp) (λC=>he cl C s2 H2 fp) B ?_;intro C s' σ' H' acc m hC hCD I' hDn hz hL fin hn;clear 5 hL its n hv hD;refine⟨m,hn,λh' hs'=>?_⟩;exact⟨.ref s2.heap.objs.size,upd H' _ (.lst acc),LR I2 f2 hC hCD I' hDn hz hv hD hs',rfl,fin _ hDn hz⟩
set_option tactic.hygienic true in
theorem WS{i:Nat}{y:Str}{py spos:Pos}(O:CmpOk X scope N' σf)(hc:X.calm=true)(hN:X.N.Nodup)(hiN:X.N[i]?=some y)(hx:X.env.scope.names.lookup y=some .local)(hi:PI X tg iter wi)
 (hg:∀cl C s2 H2 fp,PG (Cs X N' scope cl C s2 H2 fp) tg g) (ht:∀cl C s2 H2 fp,PIf (Cs X N' scope cl C s2 H2 fp) ifs tt) (he:∀cl C s2 H2 fp,PE (Cs X N' scope cl C s2 H2 fp) elt te)
 (hsw:swapsWith (.ListComp elt [⟨tg,iter,ifs,0⟩] scope pos) (some (.Name y py)) spos.line X.env=pure true:=by rfl)
 (hs:∀x,foldedSetIterable iter X.env x=pure x:=by intro _;rfl):PS X (.Assign [.Name y py] (.ListComp elt [⟨tg,iter,ifs,0⟩] scope pos) spos) (NY (Mz wi g tt te σf) (Ky i)):=by
 intro ic s σ H D I h;obtain⟨cl,e1,e2,e4⟩:=Km (scope:=scope) (env:=X.env) λy hy hf=>I.ok.has y.1 (O.free y hy hf);rw[exec_Assign_Name_used _ _ _ _ hsw];refine um9 (kU (um9 ?_));show wpAny _ X.A (do let _ <-comprehension (.ListComp elt [⟨tg,iter,ifs,0⟩] scope pos) scope X.env _ (newList []) false (eval iter X.env) (some (assign (.Name y py) X.env))) _ _ s;refine um9 (thn (wpAny_comprehension_free (use:=some (assign (.Name y py) X.env)) (Q:=λ_ s'=>SP X ic D .next s') rfl hs e1 O.kind O.loc (thn (hi ic s σ H _ I h) λv s1 h1=>thn h1 λitv s2 h2=>?_)) (λ_ s' hq=>un0 (un0 hq)));clear 5 h2 it fp tn J H2 rfl I2 T st2 f2 B;refine MN (RR:=λacc C=>compPost (model X.prog X.w) X.A X.xe (some (assign (.Name y py) X.env)) (λ_ s'=>SP X ic D .next s') acc C) O hc I2 T st2 f2 e2 e4 (λC=>hg cl C s2 H2 fp) (λC=>ht cl C s2 H2 fp) (λC=>he cl C s2 H2 fp) B ?_;intro C s' σ' H' acc m hC hCD I' hDn hz hL fin hn;clear 5 hL its n hv hD;show wpAny _ X.A (assign (.Name y py) X.env (.ref s2.heap.objs.size)) _ _ _;have I3:=LR I2 f2 hC hCD I' hDn hz hv hD (Heap.SameBut.refl ..);refine wpAny_assign_Name (Mg I3 hN hiN (.inl hx) (v:=.ref s2.heap.objs.size) rfl (λs4 I4 z9=>?_) (.inr hx));clear 5 z9 a hsb ha;have hCL:C≠X.env.locals:=ul8 (ue1 I2.lt hC);have hCc:∀x c,X.env.cells.lookup x=some c->c≠C:=λx c e z=>by
  clear 5(I2.cell x c e)v q;exact absurd (ue1 q.lt (by rw[z];exact hC)) (uk2 _)
 have hCa:C≠a:=by
  rcases ha with z|z
  .rw[z];exact hCL
  .exact λq=>hCc _ _ z q.symm
 refine⟨m,hn.sameBut hsb hCa,λh' hs'=>?_⟩;have hnC:(upd H' s2.heap.objs.size (.lst acc)) C=none:=by rw[Ap hCD];exact I'.free
 refine⟨_,_,I4.turned (t':=s4.toks) (h':=h') (it:=C) (λb o hb e=>hs'.extBut b o hb e) hnC hCL (.inr (ul7 I2.sz hC)) hCc (λp hp z=>?_),fin _ hDn hz⟩;exact absurd (ue1 (ul5 (I2.pin p hp).1) (by rw[z];exact hC)) (uk2 _)
end
end
set_option autoImplicit false
inductive D where
 |non|bl (b:Bool)|int (i:Int)|str (x:Str)|tup (xs:List D)|lst (xs:List D)|scr (ns:List Int)|dic|obj (k:Nat)|ty (n:String)|exc (n:Str) (xs:List D)|gts (xs:List Str)
structure Cf where
 ι:List ig
 O:ig->Prop
def Cf.A(c:Cf)(a:ig):Prop:=a∈c.ι\/c.O a
def Scr(K:ib)(c:Cf)(H:Hp)(a:ig)(vs:List V):Prop:=
 ((∃o,H a=some (.frz o (.lst vs)))/\¬c.A a)\/
   ∃(o:Obj) (its:Array ie) (n:Nat),K.lookup a=some o/\o.cls=.type "list"/\o.dict=none/\o.data=.seq its n/\its.size<=sizeLine/\Vals vs its.toList
def Pc(K:ib)(a:ig)(xs:List Str):Prop:=
 ∃(o:Obj) (its:Array ie) (n:Nat),K.lookup a=some o/\o.cls=.type "tuple"/\o.data=.seq its n/\its.size<=sizeLine/\Vals (xs.map V.str) its.toList
def XIs(qx:Bool)(x C:ig)(dx:Option ig)(h:Heap):Prop:=∃(o:Obj) (vs:Array ie),h.get? x=some o/\o.cls=.ref C/\o.dict=dx/\o.data=.fields vs/\(qx=true->vs[2]?=some .none/\4<vs.size)
noncomputable def JM(n:Str):List Str:=if n = "NoTalk" then ["at"] else if n = "Broken" then ["at", "side"] else []
def XFld(c:Cf)(H:Hp)(dx:Option ig)(ns:List Str)(vs:List V):Prop:=match dx with
 |none=>vs=[]
 |some d=>H d=some (.xd (ns.zip vs))/\¬c.A d
mutual
inductive Rep(K:ib)(c:Cf)(H:Hp):V->D->Prop where
 |non:Rep K c H .non .non
 |bl (b:Bool):Rep K c H (.bl b) (.bl b)
 |int (i:Int):Rep K c H (.int i) (.int i)
 |str (x:Str):Rep K c H (.str x) (.str x)
 |ty (n:String):Rep K c H (.ty n) (.ty n)
 |tup {a:ig}{vs:List V}{ds:List D}:H a=some (.tup vs)->¬c.A a->Reps K c H vs ds->Rep K c H (.ref a) (.tup ds)
 |lst {a:ig}{vs:List V}{ds:List D}:H a=some (.lst vs)->¬c.A a->Reps K c H vs ds->Rep K c H (.ref a) (.lst ds)
 |scr {a:ig}{ns:List Int}:Scr K c H a (ns.map V.int)->Rep K c H (.ref a) (.scr ns)
 |dic {a:ig}:H a=some (.dK [])->¬c.A a->Rep K c H (.ref a) .dic
 |obj {a:ig}{k:Nat}:c.ι[k]?=some a->Rep K c H (.ref a) (.obj k)
 |exc {qx:Bool}{x C:ig}{dx:Option ig}{n:Str}{vs:List V}{ds:List D}:PySem.W.nsIn K mainGlobals n=some (some (.ref C))->H x=some (.ext (XIs qx x C dx))->¬c.A x->XFld c H dx (JM n) vs->Reps K c H vs ds->Rep K c H (.ref x) (.exc n ds)
 |gts {a:ig}{xs:List Str}:Pc K a xs->Rep K c H (.ref a) (.gts xs)
inductive Reps(K:ib)(c:Cf)(H:Hp):List V->List D->Prop where
 |nil:Reps K c H [] []
 |cons {v:V}{d:D}{vs:List V}{ds:List D}:Rep K c H v d->Reps K c H vs ds->Reps K c H (v::vs) (d::ds)
end
structure Ext(c:Cf)(H:Hp)(c':Cf)(H':Hp):Prop where
 keep:∀b o,H b=some o->¬c.A b->H' b=some o
 av:∀b o,H b=some o->c'.A b->c.A b
 io:∀(k:Nat) (a:ig),c.ι[k]?=some a->c'.ι[k]?=some a
section
variable{c:Cf}{H:Hp}
theorem Ext.refl:Ext c H c H:=⟨λ_ _ h _=>h,λ_ _ _ h=>h,λ_ _ h=>h⟩
theorem Ext.trans{c1 c2:Cf}{H1 H2:Hp}(a:Ext c H c1 H1)(b:Ext c1 H1 c2 H2):Ext c H c2 H2:=by
 refine⟨λx o h n=>?_,λx o h n=>?_,λk x h=>b.io k x (a.io k x h)⟩
 .exact b.keep x o (a.keep x o h n) λz=>n (a.av x o h z)
 .by_cases q:c.A x
  .exact q
  .exact a.av x o h (b.av x o (a.keep x o h q) n)
variable{K:ib}{a:ig}{vs:List V}
theorem Scr.mono{c':Cf}{H':Hp}(e:Ext c H c' H')(h:Scr K c H a vs):Scr K c' H' a vs:=by
 rcases h with⟨⟨o,h⟩,n⟩|h
 .exact .inl ⟨⟨o,e.keep _ _ h n⟩,λz=>n (e.av _ _ h z)⟩
 .exact .inr h
theorem Scr.sq(h:Scr K c H a vs):SqL K H a vs:=by
 rcases h with⟨h,_⟩|h
 .exact .inl (.inr h)
 .exact .inr h
theorem XFld.mono{c':Cf}{H':Hp}{dx:Option ig}{ns:List Str}(e:Ext c H c' H')(h:XFld c H dx ns vs):XFld c' H' dx ns vs:=by
 cases dx with
 |none=>exact h
 |some d=>exact⟨e.keep _ _ h.1 h.2,λz=>h.2 (e.av _ _ h.1 z)⟩
mutual
theorem Rep.mono{K:ib}{c c':Cf}{H H':Hp}(e:Ext c H c' H'){v:V}{d:D}(r:Rep K c H v d):Rep K c' H' v d:=by
 cases r with
 |non=>exact .non
 |bl b=>exact .bl b
 |int i=>exact .int i
 |str x=>exact .str x
 |ty n=>exact .ty n
 |tup h n r=>exact .tup (e.keep _ _ h n) (λz=>n (e.av _ _ h z)) (Reps.mono e r)
 |lst h n r=>exact .lst (e.keep _ _ h n) (λz=>n (e.av _ _ h z)) (Reps.mono e r)
 |scr h=>exact .scr (h.mono e)
 |dic h n=>exact .dic (e.keep _ _ h n) (λz=>n (e.av _ _ h z))
 |obj h=>exact .obj (e.io _ _ h)
 |exc g h n f r=>exact .exc g (e.keep _ _ h n) (λz=>n (e.av _ _ h z)) (f.mono e) (Reps.mono e r)
 |gts h=>exact .gts h
theorem Reps.mono{K:ib}{c c':Cf}{H H':Hp}(e:Ext c H c' H'){vs:List V}{ds:List D}(r:Reps K c H vs ds):Reps K c' H' vs ds:=by
 cases r with
 |nil=>exact .nil
 |cons h t=>exact .cons (Rep.mono e h) (Reps.mono e t)
end
section
variable{K:ib}{c:Cf}{H:Hp}
theorem Reps.length:∀{vs:List V}{ds:List D},Reps K c H vs ds->vs.length=ds.length
 |_,_,.nil=>rfl
 |_,_,.cons _ t=>by simp[Reps.length t]
theorem Reps.get:∀{vs:List V}{ds:List D}{i:Nat}{v:V}{d:D},Reps K c H vs ds->vs[i]?=some v->ds[i]?=some d->Rep K c H v d
 |_,_,_,_,_,.nil,e,_=>by simp at e
 |_,_,0,_,_,.cons r _,e,e'=>by simp at e e';subst e e';exact r
 |_,_,i+1,_,_,.cons _ t,e,e'=>Reps.get (i:=i) t (by simpa using e) (by simpa using e')
theorem Reps.at:∀{vs:List V}{ds:List D}{i:Nat}{d:D},Reps K c H vs ds->ds[i]?=some d->∃v,vs[i]?=some v/\Rep K c H v d
 |_,_,_,_,.nil,e=>by simp at e
 |_,_,0,_,.cons r _,e=>by simp at e;subst e;exact⟨_,rfl,r⟩
 |_,_,i+1,_,.cons _ t,e=>by
   clear 5(Reps.at (i:=i) t (by simpa using e))v h1 h2;exact⟨v,by simpa using h1,h2⟩
theorem Reps.append{vs ws:List V}{ds es:List D}(r:Reps K c H vs ds)(s:Reps K c H ws es):Reps K c H (vs++ws) (ds++es):=by
 cases r with
 |nil=>exact s
 |cons r t=>exact .cons r (Reps.append t s)
theorem Reps.take:∀{vs:List V}{ds:List D} (n:Nat),Reps K c H vs ds->Reps K c H (vs.take n) (ds.take n)
 |_,_,0,_=>.nil
 |_,_,_+1,.nil=>.nil
 |_,_,n+1,.cons r t=>.cons r (Reps.take n t)
theorem Reps.drop:∀{vs:List V}{ds:List D} (n:Nat),Reps K c H vs ds->Reps K c H (vs.drop n) (ds.drop n)
 |_,_,0,r=>r
 |_,_,_+1,.nil=>.nil
 |_,_,n+1,.cons _ t=>Reps.drop n t
theorem Reps.ints:∀ns:List Int,Reps K c H (ns.map V.int) (ns.map D.int)
 |[]=>.nil
 |n::r=>.cons (.int n) (Reps.ints r)
theorem Reps.strs:∀ns:List Str,Reps K c H (ns.map V.str) (ns.map D.str)
 |[]=>.nil
 |n::r=>.cons (.str n) (Reps.strs r)
theorem Reps.rep{vs:List V}{ds:List D}(h:Reps K c H vs ds):∀k:Nat,Reps K c H (List.replicate k vs).flatten (List.replicate k ds).flatten
 |0=>.nil
 |k+1=>by
   rw[ud8,ud8,uf6,uf6];exact h.append (Reps.rep h k)
end
inductive Ob where
 |lst (xs:List D)
 |dct (kvs:List (Key×D))
 |ins (n:Str) (fs:List (Str×D))
inductive Sl where
 |val (d:D)
 |own (xs:List D)
structure T where
 env:List (Option Sl)
 S:List Ob
def KVR(K:ib)(c:Cf)(H:Hp):List (Key×V)->List (Key×D)->Prop:=Paired λp q=>p.1=q.1/\Rep K c H p.2 q.2
noncomputable def Lf:List Str:=["Reader", "Side", "Lasting", "Parley", "Listener", "Relay", "Desk"]
noncomputable def atN:List Str:=["grammar", "standing", "wires", "places", "side", "said", "taken", "handed", "left", "right", "under_way", "grammars", "standings", "heard", "left_grammar", "right_grammar", "rows", "pair", "broken", "parley"]
def FldR(K:ib)(c:Cf)(H:Hp):List (Str×V)->List (Str×D)->Prop:=Paired λp q=>p.1=q.1/\Rep K c H p.2 q.2
def ObR(K:ib)(c:Cf)(H:Hp)(a:ig):Ob->Prop
 |.lst ds=>∃vs,H a=some (.lst vs)/\Reps K c H vs ds
 |.dct kvs=>∃us,H a=some (.dK us)/\KVR K c H us kvs
 |.ins n fs=>(n∈Lf/\∀p∈fs,p.1∈atN)/\∃C dx us,PySem.W.nsIn K mainGlobals n=some (some (.ref C))/\H a=some (.ins C dx us)/\FldR K c H us fs
theorem ObR.mono{K:ib}{c c':Cf}{H H':Hp}{a:ig}{o:Ob}(e:Ext c H c' H')(h:ObR K c H a o)(ha:H' a=H a):ObR K c' H' a o:=by
 cases o with
 |lst ds=>clear 5 h vs h1 h2;exact⟨vs,ha.trans h1,h2.mono e⟩
 |dct kvs=>clear 5 h us h1 h2;exact⟨us,ha.trans h1,Paired.mapP h2 λ_ _ z=>⟨z.1,z.2.mono e⟩⟩
 |ins n fs=>clear 5 h h0 C dx us g h1 h2;exact⟨h0,C,dx,us,g,ha.trans h1,Paired.mapP h2 λ_ _ z=>⟨z.1,z.2.mono e⟩⟩
theorem ObR.some{o:Ob}(h:ObR K c H a o):∃u,H a=some u:=by
 cases o with
 |lst ds=>obtain⟨vs,h1,_⟩:=h;exact⟨_,h1⟩
 |dct kvs=>obtain⟨us,h1,_⟩:=h;exact⟨_,h1⟩
 |ins n fs=>obtain⟨_,_,_,_,_,h1,_⟩:=h;exact⟨_,h1⟩
structure SInv(K:ib)(c:Cf)(S:List Ob)(H:Hp):Prop where
 len:c.ι.length=S.length
 nd:c.ι.Nodup
 obs:∀(k:Nat) (a:ig) (o:Ob),c.ι[k]?=some a->S[k]?=some o->ObR K c H a o
 trk:∀b,c.O b->∃o,H b=some o
 dis:∀b,c.O b->b∉c.ι
variable{S:List Ob}
theorem SInv.trkA(s:SInv K c S H){b:ig}(h:c.A b):∃o,H b=some o:=by
 rcases h with h|h
 .clear 5(List.mem_iff_getElem.mp h)k hk e;have e1:c.ι[k]?=some b:=by rw[ub3 hk,e]
  have hk':k<S.length:=by rw[<-s.len];exact hk
  exact(s.obs k b _ e1 (ub3 hk')).some
 .exact s.trk b h
theorem SInv.free(s:SInv K c S H){b:ig}(h:H b=none):¬c.A b:=λz=>by
 clear 5(s.trkA z)o e;rw[h] at e;cases e
structure FInv(K:ib)(Oo:ig->Prop)(c:Cf)(t:T)(σ:St)(H:Hp):Prop where
 s:SInv K c t.S H
 len:t.env.length=σ.length
 sub:∀b,Oo b->c.O b
 val:∀(i:Nat) (d:D),t.env[i]?=some (some (.val d))->∃v,σ[i]?=some (some v)/\Rep K c H v d
 own:∀(i:Nat) (ds:List D),t.env[i]?=some (some (.own ds))->∃a vs,σ[i]?=some (some (.ref a))/\c.O a/\¬Oo a/\H a=some (.lst vs)/\Reps K c H vs ds
 inj:∀(i j:Nat) (ds es:List D) (a:ig),t.env[i]?=some (some (.own ds))->t.env[j]?=some (some (.own es))->σ[i]?=some (some (.ref a))->σ[j]?=some (some (.ref a))->i=j
structure Stp(Oo:ig->Prop)(c:Cf)(H:Hp)(c':Cf)(H':Hp):Prop where
 ext:Ext c H c' H'
 oo:∀b,Oo b->H' b=H b
theorem Stp.refl{Oo:ig->Prop}{c:Cf}{H:Hp}:Stp Oo c H c H:=⟨.refl,λ_ _=>rfl⟩
theorem Stp.trans{Oo:ig->Prop}{c c1 c2:Cf}{H H1 H2:Hp}(a:Stp Oo c H c1 H1)(b:Stp Oo c1 H1 c2 H2):Stp Oo c H c2 H2:=
 ⟨a.ext.trans b.ext,λx h=>(b.oo x h).trans (a.oo x h)⟩
section
variable{K:ib}{Oo:ig->Prop}{c:Cf}{t:T}{σ:St}{H:Hp}
theorem Ext.laid(s:SInv K c S H){p:ig}{o:HO}(h:H p=none):Ext c H c (upd H p o):=
 ⟨λb u e _=>by rw[Ap (AX e h)];exact e,λ_ _ _ z=>z,λ_ _ e=>e⟩
theorem SInv.laid{S:List Ob}(s:SInv K c S H){p:ig}{o:HO}(h:H p=none):SInv K c S (upd H p o):=
 ⟨s.len,s.nd,λk a u e1 e2=>by
  have q:=s.obs k a u e1 e2;clear 5 q.some w hw;exact q.mono (Ext.laid s h) (Ap (AX hw h)),
  λb z=>by clear 5(s.trk b z)u e;exact⟨u,by rw[Ap (AX e h)];exact e⟩,s.dis⟩
theorem FInv.laid(f:FInv K Oo c t σ H){p:ig}{o:HO}(h:H p=none):FInv K Oo c t σ (upd H p o):=by
 have e:=Ext.laid (o:=o) f.s h;refine⟨f.s.laid h,f.len,f.sub,λi d q=>?_,λi ds q=>?_,f.inj⟩
 .clear 5(f.val i d q)v h1 h2;exact⟨v,h1,h2.mono e⟩
 .clear 5(f.own i ds q)a vs h1 h2 h3 h4 h5;exact⟨a,vs,h1,h2,h3,by rw[Ap (AX h4 h)];exact h4,h5.mono e⟩
theorem FInv.stp_laid(f:FInv K Oo c t σ H){p:ig}{o:HO}(h:H p=none):Stp Oo c H c (upd H p o):=
 ⟨Ext.laid f.s h,λb z=>by clear 5(f.s.trk b (f.sub b z))u e;exact Ap (AX e h)⟩
set_option tactic.hygienic true
theorem FInv.set(f:FInv K Oo c t σ H){i:Nat}{v:V}{d:D}(r:Rep K c H v d):FInv K Oo c {t with env:=t.env.set i (some (.val d))} (σ.set i (some v)) H:=by
 have neq:∀{j:Nat}{x:Sl},(t.env.set i (some (.val d)))[j]?=some (some x)->(j=i/\x=.val d/\j<t.env.length)\/(j≠i/\t.env[j]?=some (some x)):=λ{j x} q=>by
  by_cases h:j=i
  .subst h;rw[uf9] at q
   split at q
   .split at q
    .next h1=>injection q with q;injection q with q;exact .inl ⟨rfl,q.symm,h1⟩
    .cases q
   .next h1=>exact absurd rfl h1
  .rw[ud2 (Ne.symm h)] at q;exact .inr ⟨h,q⟩
 refine⟨f.s,by simp[f.len],f.sub,λj e q=>?_,λj ds q=>?_,λj k ds es a q1 q2 q3 q4=>?_⟩
 .rcases neq q with⟨rfl,z,hl⟩|⟨h,q⟩
  .cases z
   exact⟨v,by rw[ub8 (by rw[<-f.len];exact hl)],r⟩
  .clear 5(f.val j e q)u h1 h2;exact⟨u,by rw[ud2 (Ne.symm h)];exact h1,h2⟩
 .rcases neq q with⟨rfl,z,_⟩|⟨h,q⟩
  .cases z
  .clear 5(f.own j ds q)a vs h1 h2;exact⟨a,vs,by rw[ud2 (Ne.symm h)];exact h1,h2⟩
 .rcases neq q1 with⟨_,z,_⟩|⟨h,q1⟩
  .cases z
  rcases neq q2 with⟨_,z,_⟩|⟨h',q2⟩
  .cases z
  rw[ud2 (Ne.symm h)] at q3;rw[ud2 (Ne.symm h')] at q4;exact f.inj j k ds es a q1 q2 q3 q4
theorem FInv.setOwn(f:FInv K Oo c t σ H){i:Nat}{p:ig}{vs:List V}{ds:List D}(h:H p=none)(r:Reps K c H vs ds) :
 ∃c',FInv K Oo c' {t with env:=t.env.set i (some (.own ds))} (σ.set i (some (.ref p))) (upd H p (.lst vs))/\Stp Oo c H c' (upd H p (.lst vs)):=by
 let c':Cf:=⟨c.ι,λb=>c.O b\/b=p⟩
 have nA:¬c.A p:=f.s.free h;have ext:Ext c H c' (upd H p (.lst vs)):=by
  refine⟨λb u e _=>by rw[Ap (AX e h)];exact e,λb u e z=>?_,λ_ _ e=>e⟩;rcases z with z|z|z
  .exact .inl z
  .exact .inr z
  .subst z;rw[h] at e;cases e
 have stp:Stp Oo c H c' (upd H p (.lst vs)):=⟨ext,λb z=>by clear 5(f.s.trk b (f.sub b z))u e;exact Ap (AX e h)⟩;have sinv:SInv K c' t.S (upd H p (.lst vs)):=by
  refine⟨f.s.len,f.s.nd,λk a u e1 e2=>?_,λb z=>?_,λb z hb=>?_⟩
  .have q:=f.s.obs k a u e1 e2;clear 5 q.some w hw;exact q.mono ext (Ap (AX hw h))
  .rcases z with z|z
   .clear 5(f.s.trk b z)u e;exact⟨u,by rw[Ap (AX e h)];exact e⟩
   .subst z;exact⟨_,AG⟩
  .rcases z with z|z
   .exact f.s.dis b z hb
   .subst z;exact nA (.inl hb)
 have neq:∀{j:Nat}{x:Sl},(t.env.set i (some (.own ds)))[j]?=some (some x)->(j=i/\x=.own ds/\j<t.env.length)\/(j≠i/\t.env[j]?=some (some x)):=λ{j x} q=>by
  by_cases h:j=i
  .subst h;rw[uf9] at q
   split at q
   .split at q
    .next h1=>injection q with q;injection q with q;exact .inl ⟨rfl,q.symm,h1⟩
    .cases q
   .next h1=>exact absurd rfl h1
  .rw[ud2 (Ne.symm h)] at q;exact .inr ⟨h,q⟩
 have fresh:∀(j:Nat) (es:List D),t.env[j]?=some (some (.own es))->σ[j]?≠some (some (.ref p)):=λj es q z=>by
  obtain⟨a,vs',h1,_,_,h4,_⟩:=f.own j es q;rw[h1] at z;injection z with z;injection z with z;injection z with z;subst z;rw[h] at h4;cases h4
 refine⟨c',⟨sinv,by simp[f.len],λb z=>.inl (f.sub b z),λj e q=>?_,λj es q=>?_,λj k ds' es a q1 q2 q3 q4=>?_⟩,stp⟩
 .rcases neq q with⟨_,z,_⟩|⟨hn,q⟩
  .cases z
  .clear 5(f.val j e q)u h1 h2;exact⟨u,by rw[ud2 (Ne.symm hn)];exact h1,h2.mono ext⟩
 .rcases neq q with⟨rfl,z,hl⟩|⟨hn,q⟩
  .cases z
   refine⟨p,vs,by rw[ub8 (by rw[<-f.len];exact hl)],.inr rfl,λz=>?_,AG,r.mono ext⟩;clear 5(f.s.trk p (f.sub p z))u e;rw[h] at e;cases e
  .clear 5(f.own j es q)a ws h1 h2 h3 h4 h5;exact⟨a,ws,by rw[ud2 (Ne.symm hn)];exact h1,.inl h2,h3,by rw[Ap (AX h4 h)];exact h4,h5.mono ext⟩
 .rcases neq q1 with⟨z1,z2,l1⟩|⟨n1,r1⟩
  .rcases neq q2 with⟨y1,_,_⟩|⟨n2,r2⟩
   .rw[z1,y1]
   .subst z1;rw[ub8 (by rw[<-f.len];exact l1)] at q3;injection q3 with q3;injection q3 with q3;injection q3 with q3;subst q3
    rw[ud2 (Ne.symm n2)] at q4;exact absurd q4 (fresh k es r2)
  .rcases neq q2 with⟨y1,y2,l2⟩|⟨n2,r2⟩
   .subst y1;rw[ub8 (by rw[<-f.len];exact l2)] at q4;injection q4 with q4;injection q4 with q4;injection q4 with q4;subst q4
    rw[ud2 (Ne.symm n1)] at q3;exact absurd q3 (fresh j ds' r1)
   .rw[ud2 (Ne.symm n1)] at q3;rw[ud2 (Ne.symm n2)] at q4;exact f.inj j k ds' es a r1 r2 q3 q4
theorem FInv.frz(f:FInv K Oo c t σ H){i:Nat}{ds:List D}(q:t.env[i]?=some (some (.own ds))) :
 ∃c' v,FInv K Oo c' {t with env:=t.env.set i (some (.val (.lst ds)))} σ H/\Stp Oo c H c' H/\σ[i]?=some (some v)/\Rep K c' H v (.lst ds):=by
 clear 5(f.own i ds q)a vs h1 h2 h3 h4 h5
 let c':Cf:=⟨c.ι,λb=>c.O b/\b≠a⟩
 have ext:Ext c H c' H:=⟨λ_ _ e _=>e,λb u e z=>z.elim .inl λw=>.inr w.1,λ_ _ e=>e⟩;have sinv:SInv K c' t.S H:=⟨f.s.len,f.s.nd,λk b u e1 e2=>(f.s.obs k b u e1 e2).mono ext rfl,λb z=>f.s.trk b z.1,λb z=>f.s.dis b z.1⟩;have nA:¬c'.A a:=λz=>z.elim (λw=>f.s.dis a h2 w) λw=>w.2 rfl;have hσ:σ.set i (some (.ref a))=σ:=by
  apply List.ext_getElem?;intro j
  by_cases hj:j=i
  .subst hj;rw[ub8 (by have:=(ub0.mp h1).1;exact this),h1]
  .rw[ud2 (Ne.symm hj)]
 have r:Rep K c' H (.ref a) (.lst ds):=.lst h4 nA (h5.mono ext);have f0:FInv K Oo c' {t with env:=t.env.set i (some (.val (.lst ds)))} σ H:=by
  have neq:∀{j:Nat}{x:Sl},(t.env.set i (some (.val (.lst ds))))[j]?=some (some x)->(j=i/\x=.val (.lst ds))\/(j≠i/\t.env[j]?=some (some x)):=λ{j x} q=>by
   by_cases h:j=i
   .subst h;rw[uf9] at q
    split at q
    .split at q
     .injection q with q;injection q with q;exact .inl ⟨rfl,q.symm⟩
     .cases q
    .next h1=>exact absurd rfl h1
   .rw[ud2 (Ne.symm h)] at q;exact .inr ⟨h,q⟩
  refine⟨sinv,by simp[f.len],λb z=>⟨f.sub b z,λw=>h3 (w ▸ z)⟩,λj e q'=>?_,λj es q'=>?_,λj k ds' es b q1 q2 q3 q4=>?_⟩
  .rcases neq q' with⟨rfl,z⟩|⟨hn,q'⟩
   .cases z;exact⟨_,h1,r⟩
   .clear 5(f.val j e q')u w1 w2;exact⟨u,w1,w2.mono ext⟩
  .rcases neq q' with⟨_,z⟩|⟨hn,q'⟩
   .cases z
   .clear 5(f.own j es q')b ws w1 w2 w3 w4 w5;refine⟨b,ws,w1,⟨w2,λz=>?_⟩,w3,w4,w5.mono ext⟩;subst z;exact hn (f.inj j i es ds b q' q w1 h1)
  .rcases neq q1 with⟨_,z⟩|⟨_,q1⟩
   .cases z
   rcases neq q2 with⟨_,z⟩|⟨_,q2⟩
   .cases z
   exact f.inj j k ds' es b q1 q2 q3 q4
 exact⟨c',_,f0,⟨ext,λ_ _=>rfl⟩,h1,r⟩
theorem FInv.wrOwn(f:FInv K Oo c t σ H){i:Nat}{ds ds':List D}{vs':List V}{a:ig}(q:t.env[i]?=some (some (.own ds)))(h1:σ[i]?=some (some (.ref a)))(r:Reps K c H vs' ds') :
 FInv K Oo c {t with env:=t.env.set i (some (.own ds'))} σ (upd H a (.lst vs'))/\Stp Oo c H c (upd H a (.lst vs')):=by
 clear 5(f.own i ds q)a' vs g1 h2 h3 h4 h5;rw[h1] at g1;injection g1 with g1;injection g1 with g1;injection g1 with g1;subst g1
 have ext:Ext c H c (upd H a (.lst vs')):=⟨λb u e n=>by rw[Ap (λ(z:b=a)=>n (.inr (by rw[z];exact h2)))];exact e,λ_ _ _ z=>z,λ_ _ e=>e⟩;have stp:Stp Oo c H c (upd H a (.lst vs')):=⟨ext,λb z=>Ap λw=>h3 (w ▸ z)⟩;have sinv:SInv K c t.S (upd H a (.lst vs')):=by
  refine⟨f.s.len,f.s.nd,λk b u e1 e2=>(f.s.obs k b u e1 e2).mono ext (Ap λz=>f.s.dis a h2 (z ▸ ud3 e1)),λb z=>?_,f.s.dis⟩
  by_cases hb:b=a
  .subst hb;exact⟨_,AG⟩
  .clear 5(f.s.trk b z)u e;exact⟨u,by rw[Ap hb];exact e⟩
 have neq:∀{j:Nat}{x:Sl},(t.env.set i (some (.own ds')))[j]?=some (some x)->(j=i/\x=.own ds')\/(j≠i/\t.env[j]?=some (some x)):=λ{j x} q=>by
  by_cases h:j=i
  .subst h;rw[uf9] at q
   split at q
   .split at q
    .injection q with q;injection q with q;exact .inl ⟨rfl,q.symm⟩
    .cases q
   .next h1=>exact absurd rfl h1
  .rw[ud2 (Ne.symm h)] at q;exact .inr ⟨h,q⟩
 refine⟨⟨sinv,by simp[f.len],f.sub,λj e q'=>?_,λj es q'=>?_,λj k es es' b q1 q2 q3 q4=>?_⟩,stp⟩
 .rcases neq q' with⟨_,z⟩|⟨_,q'⟩
  .cases z
  .clear 5(f.val j e q')u w1 w2;exact⟨u,w1,w2.mono ext⟩
 .rcases neq q' with⟨rfl,z⟩|⟨hn,q'⟩
  .cases z;exact⟨a,vs',h1,h2,h3,AG,r.mono ext⟩
  .clear 5(f.own j es q')b ws w1 w2 w3 w4 w5;have hb:b≠a:=λz=>by subst z;exact hn (f.inj j i es ds b q' q w1 h1)
   exact⟨b,ws,w1,w2,w3,by rw[Ap hb];exact w4,w5.mono ext⟩
 .have old:∀{j:Nat}{x:List D},(t.env.set i (some (.own ds')))[j]?=some (some (.own x))->∃y,t.env[j]?=some (some (.own y)):=λ{j x} q'=>by
   rcases neq q' with⟨rfl,_⟩|⟨_,q'⟩
   .exact⟨ds,q⟩
   .exact⟨x,q'⟩
  clear 5(old q1)y1 z1;clear 5(old q2)y2 z2;exact f.inj j k y1 y2 b z1 z2 q3 q4
set_option tactic.hygienic false
theorem FInv.wrObj(f:FInv K Oo c t σ H){k:Nat}{a:ig}{o:Ob}{u:HO}(e:c.ι[k]?=some a)(r:∀c' H',Ext c H c' H'->H' a=some u->ObR K c' H' a o) :
 FInv K Oo c {t with S:=t.S.set k o} σ (upd H a u)/\Stp Oo c H c (upd H a u):=by
 have hA:a∈c.ι:=ud3 e;have ext:Ext c H c (upd H a u):=⟨λb w h n=>by rw[Ap (λ(z:b=a)=>n (.inl (by rw[z];exact hA)))];exact h,λ_ _ _ z=>z,λ_ _ e=>e⟩;have neO:∀b,c.O b->b≠a:=λb z w=>f.s.dis b z (w ▸ hA);have stp:Stp Oo c H c (upd H a u):=⟨ext,λb z=>Ap (neO b (f.sub b z))⟩;have sinv:SInv K c (t.S.set k o) (upd H a u):=by
  refine⟨by simp[f.s.len],f.s.nd,λj b o' e1 e2=>?_,λb z=>?_,f.s.dis⟩
  .by_cases hj:j=k
   .subst hj;rw[e] at e1;cases e1
    have hl:j<t.S.length:=by rw[<-f.s.len];exact(ub0.mp e).1
    rw[ub8 hl] at e2;cases e2
    exact r c _ ext AG
   .rw[ud2 (Ne.symm hj)] at e2;refine(f.s.obs j b o' e1 e2).mono ext (Ap λz=>?_);subst z;clear 5(ub0.mp e1)l1 g1;clear 5(ub0.mp e)l2 g2;exact hj ((ug4 f.s.nd).mp (g1.trans g2.symm))
  .clear 5(f.s.trk b z)w h;exact⟨w,by rw[Ap (neO b z)];exact h⟩
 refine⟨⟨sinv,f.len,f.sub,λi d q=>?_,λi ds q=>?_,f.inj⟩,stp⟩
 .clear 5(f.val i d q)v h1 h2;exact⟨v,h1,h2.mono ext⟩
 .clear 5(f.own i ds q)b vs h1 h2 h3 h4 h5;exact⟨b,vs,h1,h2,h3,by rw[Ap (neO b h2)];exact h4,h5.mono ext⟩
theorem FInv.newObj(f:FInv K Oo c t σ H){p:ig}{o:Ob}{u:HO}(h:H p=none)(r:∀c' H',Ext c H c' H'->H' p=some u->ObR K c' H' p o) :
 ∃c',FInv K Oo c' {t with S:=t.S++[o]} σ (upd H p u)/\Stp Oo c H c' (upd H p u)/\c'.ι[t.S.length]?=some p:=by
 let c':Cf:=⟨c.ι++[p],c.O⟩
 have nA:¬c.A p:=f.s.free h;have ext:Ext c H c' (upd H p u):=by
  refine⟨λb w e _=>by rw[Ap (AX e h)];exact e,λb w e z=>?_,λk a e=>?_⟩
  .rcases z with z|z
   .rcases ui0.mp z with z|z
    .exact .inl z
    .rw[ue8] at z;subst z;rw[h] at e;cases e
   .exact .inr z
  .show(c.ι++[p])[k]?=some a;rw[ub1 (ub0.mp e).1];exact e
 have stp:Stp Oo c H c' (upd H p u):=⟨ext,λb z=>by clear 5(f.s.trk b (f.sub b z))w e;exact Ap (AX e h)⟩;have at_:(c.ι++[p])[t.S.length]?=some p:=by rw[<-f.s.len,ua7 (um5 _)];simp
 have sinv:SInv K c' (t.S++[o]) (upd H p u):=by
  refine⟨by simp[c',f.s.len],?_,λj b o' e1 e2=>?_,λb z=>?_,λb z hb=>?_⟩
  .show(c.ι++[p]).Nodup;exact List.nodup_append.mpr ⟨f.s.nd,by simp,λx hx y hy z=>by rw[ue8] at hy;subst z;subst hy;exact nA (.inl hx)⟩
  .have hlt:j<(t.S++[o]).length:=(ub0.mp e2).1
   by_cases hj:j<t.S.length
   .have e1':c.ι[j]?=some b:=by
     have q:(c.ι++[p])[j]?=some b:=e1;rw[ub1 (by rw[f.s.len];exact hj)] at q;exact q
    rw[ub1 hj] at e2;have q:=f.s.obs j b o' e1' e2;clear 5 q.some w hw;exact q.mono ext (Ap (AX hw h))
   .have hj':j=t.S.length:=by simp at hlt;lia
    subst hj';rw[at_] at e1;cases e1
    rw[ua7 (um5 _)] at e2;simp at e2;subst e2;exact r c' _ ext AG
  .clear 5(f.s.trk b z)w e;exact⟨w,by rw[Ap (AX e h)];exact e⟩
  .rcases ui0.mp hb with w|w
   .exact f.s.dis b z w
   .rw[ue8] at w;subst w;exact nA (.inr z)
 refine⟨c',⟨sinv,f.len,f.sub,λi d q=>?_,λi ds q=>?_,f.inj⟩,stp,at_⟩
 .clear 5(f.val i d q)v h1 h2;exact⟨v,h1,h2.mono ext⟩
 .clear 5(f.own i ds q)b vs h1 h2 h3 h4 h5;exact⟨b,vs,h1,h2,h3,by rw[Ap (AX h4 h)];exact h4,h5.mono ext⟩
theorem FInv.after(f:FInv K Oo c t σ H){c':Cf}{S':List Ob}{H':Hp}(s:SInv K c' S' H')(st:Stp c.O c H c' H')(ho:∀b,c'.O b↔c.O b):FInv K Oo c' {t with S:=S'} σ H'/\Stp Oo c H c' H':=by
 refine⟨⟨s,f.len,λb z=>(ho b).mpr (f.sub b z),λi d q=>?_,λi ds q=>?_,f.inj⟩,st.ext,λb z=>st.oo b (f.sub b z)⟩
 .clear 5(f.val i d q)v h1 h2;exact⟨v,h1,h2.mono st.ext⟩
 .clear 5(f.own i ds q)b vs h1 h2 h3 h4 h5;exact⟨b,vs,h1,(ho b).mpr h2,h3,(st.oo b h2).trans h4,h5.mono st.ext⟩
end
abbrev M(α:Type):=T->Option (α×T)
inductive Out where
 |next|brk|cont|ret (d:D)
noncomputable def ret{α:Type}(a:α):M α:=λt=>some (a,t)
noncomputable def fail{α:Type}:M α:=λ_=>none
noncomputable def bnd{α β:Type}(f:M α)(g:α->M β):M β:=λt=>match f t with
 |some (a,t1)=>g a t1
 |none=>none
variable{t:T}
theorem Ai{α β:Type}{f:M α}{g:α->M β}{z:β×T}(h:bnd f g t=some z):∃a t1,f t=some (a,t1)/\g a t1=some z:=by
 unfold bnd at h
 cases e:f t with
 |none=>rw[e] at h;cases h
 |some p=>clear 5 p a t1;rw[e] at h;exact⟨a,t1,rfl,h⟩
noncomputable def LIM:Nat:=100000
theorem DG:LIM<=sizeLine:=by unfold LIM;decide
theorem XQ:LIM<sizeLine:=by unfold LIM;decide
section
variable(K:ib)
inductive RE(f:M D)(σ:L2.St)(H:Hp)(Q:VK):Prop where
 |mk (Oo:ig->Prop) (c:Cf) (t:T) (fi:FInv K Oo c t σ H) (r:D) (t':T) (e:f t=some (r,t')) (k:∀v H' c',FInv K Oo c' t' σ H'->Stp Oo c H c' H'->Rep K c' H' v r->Q v H'):RE f σ H Q
inductive RT(f:M Bool)(σ:L2.St)(H:Hp)(Q:Bool->Hp->Prop):Prop where
 |mk (Oo:ig->Prop) (c:Cf) (t:T) (fi:FInv K Oo c t σ H) (r:Bool) (t':T) (e:f t=some (r,t')) (k:∀H' c',FInv K Oo c' t' σ H'->Stp Oo c H c' H'->Q r H'):RT f σ H Q
inductive RA(f:M (List D))(σ:L2.St)(H:Hp)(Q:List V->Hp->Prop):Prop where
 |mk (Oo:ig->Prop) (c:Cf) (t:T) (fi:FInv K Oo c t σ H) (r:List D) (t':T) (e:f t=some (r,t')) (k:∀vs H' c',FInv K Oo c' t' σ H'->Stp Oo c H c' H'->Reps K c' H' vs r->Q vs H'):RA f σ H Q
inductive RF(f:M (List D))(σ:L2.St)(H:Hp)(Q:VK):Prop where
 |mk (Oo:ig->Prop) (c:Cf) (t:T) (fi:FInv K Oo c t σ H) (ds:List D) (t':T) (e:f t=some (ds,t')) (k:∀p vs H' c',FInv K Oo c' t' σ H'->Stp Oo c H c' H'->Reps K c' H' vs ds->H' p=none->Q (.ref p) (upd H' p (.lst vs))):RF f σ H Q
inductive RSg(μ:Cf->Hp->D->(V->Hp->Prop)->Prop)(f:M Out)(E:Ends)(σ:L2.St)(H:Hp):Prop where
 |mk (Oo:ig->Prop) (c:Cf) (t:T) (fi:FInv K Oo c t σ H) (o:Out) (t':T) (e:f t=some (o,t')) (k:∀σ' H' c',FInv K Oo c' t' σ' H'->Stp Oo c H c' H'->
 match (generalizing:=false) o with
 |.next=>E.nx σ' H'
 |.brk=>E.bk σ' H'
 |.cont=>E.ct σ' H'
 |.ret r=>μ c' H' r E.rt):RSg μ f E σ H
def μR:Cf->Hp->D->(V->Hp->Prop)->Prop:=λc H r rt=>∀v,Rep K c H v r->rt v H
def μF:Cf->Hp->D->(V->Hp->Prop)->Prop:=λc H r rt=>match r with
 |.lst ds=>∀p us,H p=none->Reps K c H us ds->rt (.ref p) (upd H p (.lst us))
 |_=>False
abbrev RS(f:M Out):TS:=RSg K (μR K) f
inductive RG(f:D->M Unit)(v:V)(σ:L2.St)(H:Hp)(Q:L2.St->Hp->Prop):Prop where
 |mk (Oo:ig->Prop) (c:Cf) (t:T) (d:D) (fi:FInv K Oo c t σ H) (r:Rep K c H v d) (t':T) (e:f d t=some ((),t')) (k:∀σ' H' c',FInv K Oo c' t' σ' H'->Stp Oo c H c' H'->Q σ' H'):RG f v σ H Q
structure ItOk(J:It)(c:Cf)(H:Hp)(ds:List D):Prop where
 go:∀c' H' (i:Nat),Ext c H c' H'->i<ds.length->J.go i H'
 yld:∀c' H' (i:Nat) x H'' d,Ext c H c' H'->ds[i]?=some d->J.yld i H' x H''->H''=H'/\Rep K c' H' x d
 stop:∀c' H',Ext c H c' H'->J.stop ds.length H'
inductive RI(f:M (List D))(σ:L2.St)(H:Hp)(R:It->Hp->Prop):Prop where
 |mk (Oo:ig->Prop) (c:Cf) (t:T) (fi:FInv K Oo c t σ H) (ds:List D) (t':T) (e:f t=some (ds,t')) (k:∀J H' c',FInv K Oo c' t' σ H'->Stp Oo c H c' H'->ItOk K J c' H' ds->R J H'):RI f σ H R
def BE(R:R2)(h:D->D->M D):Prop:=∀{Oo:ig->Prop}{c:Cf}{t:T}{σ:L2.St}{H:Hp}{x y:V}{dx dy r:D}{t':T}{Q:VK},FInv K Oo c t σ H->Rep K c H x dx->Rep K c H y dy->h dx dy t=some (r,t')->
 (∀v H' c',FInv K Oo c' t' σ H'->Stp Oo c H c' H'->Rep K c' H' v r->Q v H')->R x y H Q
def F1(R:List V->Hp->VK->Prop)(h:List D->M D):Prop:=∀{Oo:ig->Prop}{c:Cf}{t:T}{σ:L2.St}{H:Hp}{xs:List V}{ds:List D}{r:D}{t':T}{Q:VK},FInv K Oo c t σ H->Reps K c H xs ds->h ds t=some (r,t')->
 (∀v H' c',FInv K Oo c' t' σ H'->Stp Oo c H c' H'->Rep K c' H' v r->Q v H')->R xs H Q
def Pg(R:R2)(h:D->D->M (List D)):Prop:=∀{Oo:ig->Prop}{c:Cf}{t:T}{σ:L2.St}{H:Hp}{x y:V}{dx dy:D}{r:List D}{t':T}{Q:VK},FInv K Oo c t σ H->Rep K c H x dx->Rep K c H y dy->h dx dy t=some (r,t')->
 (∀p vs H' c',FInv K Oo c' t' σ H'->Stp Oo c H c' H'->Reps K c' H' vs r->H' p=none->Q (.ref p) (upd H' p (.lst vs)))->R x y H Q
def J2(R:List V->Hp->VK->Prop)(h:List D->M (List D)):Prop:=∀{Oo:ig->Prop}{c:Cf}{t:T}{σ:L2.St}{H:Hp}{xs:List V}{ds r:List D}{t':T}{Q:VK},FInv K Oo c t σ H->Reps K c H xs ds->h ds t=some (r,t')->
 (∀p vs H' c',FInv K Oo c' t' σ H'->Stp Oo c H c' H'->Reps K c' H' vs r->H' p=none->Q (.ref p) (upd H' p (.lst vs)))->R xs H Q
end
variable{tg:Expr}{j i:Nat}{f g:M D}{h:D->D->M D}{R:R2}{op:CmpOp}{σ:L2.St}
section
variable{X:Cx}{e a b:Expr}{pos:Pos}
theorem AM{t t':TE}(h:PE X e t)(i:∀σ H Q,t' σ H Q->t σ H Q):PE X e t':=λic s σ H Q I q=>h ic s σ H Q I (i σ H Q q)
theorem MI{t t':TT}(h:PT X e t)(i:∀σ H Q,t' σ H Q->t σ H Q):PT X e t':=λic s σ H Q I q=>h ic s σ H Q I (i σ H Q q)
theorem QD{t t':TT}(h:PW X e t)(i:∀σ H Q,t' σ H Q->t σ H Q):PW X e t':=λw ic s σ H Q I q=>h w ic s σ H Q I (i σ H Q q)
theorem QB{es:List Expr}{t t':TA}(h:PA X es t)(i:∀σ H Q,t' σ H Q->t σ H Q):PA X es t':=λpos ic s σ H Q I q=>h pos ic s σ H Q I (i σ H Q q)
theorem Br{st:Stmt}{t t':TS}(h:PS X st t)(i:∀E σ H,t' E σ H->t E σ H):PS X st t':=λic s σ H E I q=>h ic s σ H E I (i E σ H q)
theorem Oh{st:List Stmt}{t t':TS}(h:PSs X st t)(i:∀E σ H,t' E σ H->t E σ H):PSs X st t':=λic s σ H E I q=>h ic s σ H E I (i E σ H q)
theorem MH{t t':TG}(h:PG X e t)(i:∀v σ H Q,t' v σ H Q->t v σ H Q):PG X e t':=λic s σ H v u Q I r q=>h ic s σ H v u Q I r (i v σ H Q q)
theorem JZ{t t':TI}(h:PI X tg e t)(i:∀σ H R,t' σ H R->t σ H R):PI X tg e t':=λic s σ H R I q=>h ic s σ H R I (i σ H R q)
def fC(d:D):M D:=ret d
theorem Iv{v:V}{d:D}(h:PE X e (tC v))(r:∀c H,Rep X.K c H v d):PE X e (RE X.K (fC d)):=
 AM h λσ H Q z9=>by
  clear 5 z9 Oo c t f r' t' eq k
  cases eq
  exact k v H c f .refl (r c H)
theorem Yp{i:Int}:PE X (.Constant (.int i) j pos) (RE X.K (fC (.int i))):=Iv Zu λ_ _=>.int i
theorem a9{i:Bool}:PE X (.Constant (.bool i) j pos) (RE X.K (fC (.bl i))):=Iv bB λ_ _=>.bl i
theorem Yu{i:Str}:PE X (.Constant (.str i) j pos) (RE X.K (fC (.str i))):=Iv R0 λ_ _=>.str i
theorem Yq:PE X (.Constant .none j pos) (RE X.K (fC .non)):=Iv Zw λ_ _=>.non
theorem Lk{x:Str}{i:Int}{tk:Tok}(hg:Gl X x)(hm:X.mg x=some (.int i tk))(hd:(x==("__debug__":Str))=false:=by decide):PE X (.Name x pos) (RE X.K (fC (.int i))):=
 Iv (Lr hg hm (v:=.int i) ⟨tk,rfl⟩ hd) λ_ _=>.int i
theorem Tl{x:Str}{y:Str}{tk:Tok}(hg:Gl X x)(hm:X.mg x=some (.str y tk))(hd:(x==("__debug__":Str))=false:=by decide):PE X (.Name x pos) (RE X.K (fC (.str y))):=
 Iv (Lr hg hm (v:=.str y) ⟨tk,rfl⟩ hd) λ_ _=>.str y
def TC(K:ib)(a:ig)(xs:List Str):Bool:=match K.lookup a with
 |some o=>(match o.cls with | .type n=>n == "tuple" |_=>false)&&(match o.data with | .seq its _=>decide (its.size<=15)&&decide (its.toList.length=xs.length)&&((its.toList.zip xs).all λp=>match p.1 with | .str y _=>y==p.2|_=>false)|_=>false)
 |none=>false
theorem Ni:∀{us:List ie}{xs:List Str},us.length=xs.length->((us.zip xs).all λp=>match p.1 with | .str y _=>y==p.2|_=>false)=true->Vals (xs.map V.str) us
 |[],[],_,_=>.nil
 |u::us,x::xs,h,e=>by
   rw[ue9,uk6,ug9] at e;refine .cons ?_ (Ni (Nat.succ.inj h) e.2)
   cases u with
   |str y t=>have:=eq_of_beq e.1;dsimp only at this;subst this;exact⟨t,rfl⟩
   |_=>cases e.1
set_option tactic.hygienic true in
theorem YI{a:ig}{xs:List Str}(h:TC K a xs=true):Pc K a xs:=by
 unfold TC at h
 split at h
 .next o e=>
  rw[ug9] at h;clear 5 h h1 h2
  split at h1
  .next n en=>
   split at h2
   .next its m ed=>
    rw[ug9,ug9] at h2;refine⟨o,its,m,e,by rw[en,eq_of_beq h1],ed,ul7 (ug3 h2.1.1) (by decide),Ni (ug3 h2.1.2) h2.2⟩
   .cases h2
  .cases h1
 .cases h
theorem Yo{x:Str}{a:ig}{xs:List Str}(hg:Gl X x)(hm:X.mg x=some (.ref a))(hk:Pc X.K a xs)(hd:(x==("__debug__":Str))=false:=by decide):PE X (.Name x pos) (RE X.K (fC (.gts xs))):=
 Iv (Lr hg hm (v:=.ref a) rfl hd) λ_ _=>.gts hk
theorem Ks{x:Str}{n:String}(hg:Gl X x)(hm:X.mg x=none)(hv:bootBuiltins x=some (.type n))(hn:x≠"__name__":=by decide)(hd:(x==("__debug__":Str))=false:=by decide):PE X (.Name x pos) (RE X.K (fC (.ty n))):=
 Iv (WE hg hm hv (v:=.ty n) rfl hn hd) λ_ _=>.ty n
noncomputable def Aa(i:Nat):M D:=λt=>match t.env[i]? with
 |some (some (.val d))=>some (d,t)
 |some (some (.own ds))=>some (.lst ds,{t with env:=t.env.set i (some (.val (.lst ds)))})
 |_=>none
theorem Pw{t':T}{r:D}(h:Aa i t=some (r,t')):(t.env[i]?=some (some (.val r))/\t'=t)\/∃ds,t.env[i]?=some (some (.own ds))/\r=.lst ds/\t' = {t with env:=t.env.set i (some (.val (.lst ds)))}:=by
 unfold Aa at h
 cases e:t.env[i]? with
 |none=>rw[e] at h;cases h
 |some o=>
   cases o with
   |none=>rw[e] at h;cases h
   |some sl=>
     cases sl with
     |val d=>rw[e] at h;cases h;exact .inl ⟨rfl,rfl⟩
     |own ds=>rw[e] at h;cases h;exact .inr ⟨ds,rfl,rfl,rfl⟩
theorem Yv(i:Nat){x:Str}(hN:X.N[i]?=some x:=by rfl)(hv:Vis X.env.scope x:=by walk_at"h")(hd:(x==("__debug__":Str))=false:=by decide)
 (hcd:(x==("__classdict__":Str))=false:=by decide):PE X (.Name x pos) (RE X.K (Aa i)):=
 AM (Hf hN hv hd hcd) λσ H Q z9=>by
  clear 5 z9 Oo c t f r t' eq k;rcases Pw eq with⟨q,rfl⟩|⟨ds,q,rfl,rfl⟩
  .clear 5(f.val i r q)v h1 h2;exact⟨v,h1,k v H c f .refl h2⟩
  .clear 5(f.frz q)c' v f' st h1 h2;exact⟨v,h1,k v H c' f' st h2⟩
def Ac(f g:M D)(h:D->D->M D):M D:=bnd f λx=>bnd g λy=>h x y
theorem RE.two(s:BE K R h){σ:L2.St}{H:Hp}{Q:VK}(q:RE K (Ac f g h) σ H Q):tOp R (RE K f) (RE K g) σ H Q:=by
 clear 5 q Oo c t fi r t' eq k;clear 5(Ai eq)dx t1 e1 eq;clear 5(Ai eq)dy t2 e2 eq;exact⟨Oo,c,t,fi,dx,t1,e1,λx H1 c1 f1 s1 rx=>⟨Oo,c1,t1,f1,dy,t2,e2,λy H2 c2 f2 s2 ry=>s f2 (rx.mono s2.ext) ry eq λv H' c' f' s' rv=>k v H' c' f' ((s1.trans s2).trans s') rv⟩⟩
theorem I9{op:Operator}(ho:OpR X (binaryOp op) R)(s:BE X.K R h)(ha:PE X a (RE X.K f))(hb:PE X b (RE X.K g)):PE X (.BinOp a op b pos) (RE X.K (Ac f g h)):=
 AM (Qb ho ha hb) λ_ _ _ q=>RE.two s q
theorem Ha(ho:OpR X (compareOp op) R)(s:BE X.K R h)(ha:PE X a (RE X.K f))(hb:PE X b (RE X.K g))(hm:behindInMarks op b=false):PE X (.Compare a [op] [b] pos) (RE X.K (Ac f g h)):=
 AM (WF ho ha hb hm) λ_ _ _ q=>RE.two s q
theorem U2(hr:IxR X R)(s:BE X.K R h)(ha:PE X a (RE X.K f))(hb:PE X b (RE X.K g))(hs:Oi b):PE X (.Subscript a b pos) (RE X.K (Ac f g h)):=
 AM (bC hr ha hb hs) λ_ _ _ q=>RE.two s q
def fUn(f:M D)(h:D->M D):M D:=bnd f h
def toB:D->M Bool
 |.bl b=>ret b
 |_=>fail
def Am(f:M D):M Bool:=bnd f toB
theorem JU{d:D}{z:Bool×T}(h:toB d t=some z):∃b,d=.bl b/\z=(b,t):=by
 cases d with
 |bl b=>cases h;exact⟨b,rfl,rfl⟩
 |_=>cases h
theorem RT.val{Q:Bool->Hp->Prop}(q:RT K (Am f) σ H Q):RE K f σ H λx H1=>∃k,x=.bl k/\Q k H1:=by
 clear 5 q Oo c t fi r t' eq k;clear 5(Ai eq)d t1 e1 eq;clear 5(JU eq)b rfl z
 cases z
 refine⟨Oo,c,t,fi,_,t',e1,λv H1 c1 f1 s1 rv=>?_⟩
 cases rv
 exact⟨r,rfl,k H1 c1 f1 s1⟩
theorem Q9(h:PE X e (RE X.K f))(he:∀whole,isTrue e X.env whole=(do let v <-whole;standAt e.pos;holding [v] (truthy v)):=by intro _;rfl):PT X e (RT X.K (Am f)):=
 MI (ZI h he) λ_ _ _ q=>RT.val q
theorem Gj(ho:OpR X (compareOp op) R)(s:BE X.K R h)(ha:PE X a (RE X.K f))(hb:PE X b (RE X.K g))(hm:behindInMarks op b=false):PT X (.Compare a [op] [b] pos) (RT X.K (Am (Ac f g h))):=
 MI (WV ho ha hb hm) λσ H Q q=>RE.two s (RT.val q)
def Fp(f g w:M D)(h h':D->D->M D):M D:=bnd f λx=>bnd g λy=>bnd (Am (h x y)) λk=>if k=true then bnd w λz=>h' y z else ret (.bl false)
theorem RE.chain{w:M D}{h':D->D->M D}{R':R2}(s:BE K R h)(s':BE K R' h'){σ:L2.St}{H:Hp}{Q:VK}(q:RE K (Fp f g w h h') σ H Q):Sz R R' (RE K f) (RE K g) (RE K w) σ H Q:=by
 clear 5 q Oo c t fi r t' eq k;clear 5(Ai eq)dx t1 e1 eq;clear 5(Ai eq)dy t2 e2 eq;clear 5(Ai eq)kb t3 e3 eq;clear 5(Ai e3)d3 t3' e3' e3;clear 5(JU e3)b3 rfl z
 cases z
 refine⟨Oo,c,t,fi,dx,t1,e1,λx H1 c1 f1 s1 rx=>⟨Oo,c1,t1,f1,dy,t2,e2,λy H2 c2 f2 s2 ry=>s f2 (rx.mono s2.ext) ry e3' λv H3 c3 f3 s3 rv=>?_⟩⟩
 cases rv
 refine⟨kb,rfl,?_⟩
 cases kb with
 |false=>
   rw[lE ue3] at eq⊢
   cases eq
   exact k _ H3 c3 f3 ((s1.trans s2).trans s3) (.bl false)
 |true=>
   rw[lD rfl] at eq⊢;clear 5(Ai eq)dz t4 e4 eq;exact⟨Oo,c3,t3,f3,dz,t4,e4,λw' H4 c4 f4 s4 rw'=>s' f4 (ry.mono (s3.trans s4).ext) rw' eq λv H' c' f' s' rv=>k v H' c' f' ((((s1.trans s2).trans s3).trans s4).trans s') rv⟩
theorem Tj{d:Expr}{op':CmpOp}{R':R2}{w:M D}{h':D->D->M D}(ho:OpR X (compareOp op) R)(ho':OpR X (compareOp op') R')(s:BE X.K R h)(s':BE X.K R' h')(ha:PE X a (RE X.K f))(hb:PE X b (RE X.K g))(hd:PE X d (RE X.K w))
 (hm:lastMarks [op,op'] [b,d]=false:=by with_unfolding_all rfl):PE X (.Compare a [op,op'] [b,d] pos) (RE X.K (Fp f g w h h')):=
 AM (T9 ho ho' ha hb hd hm) λ_ _ _ q=>RE.chain s s' q
def Fy(f g:M Bool):M Bool:=bnd f λk=>if k=true then g else ret false
def fOr(f g:M Bool):M Bool:=bnd f λk=>if k=true then ret true else g
def Ct(f:M Bool):M Bool:=bnd f λk=>ret (!k)
def Dd(f g:M D):M D:=bnd (Am f) λk=>if k=true then g else ret (.bl false)
def Lj(f g:M D):M D:=bnd (Am f) λk=>if k=true then ret (.bl true) else g
def Kq(f:M D):M D:=bnd (Am f) λk=>ret (.bl (!k))
def fIf(f:M Bool)(g h:M D):M D:=bnd f λk=>if k=true then g else h
variable{f g:M Bool}{u v w:M D}{rest:List Expr}
theorem bj(h:PW X e (RT X.K f)):PT X e (RT X.K f):=h.pt
theorem V2(ha:PT X a (RT X.K f)):PW X (.BoolOp .And [a] pos) (RT X.K f):=WW ha
theorem YH(ha:PT X a (RT X.K f)):PW X (.BoolOp .Or [a] pos) (RT X.K f):=ZM ha
theorem YG(ha:PT X a (RT X.K f))(hb:PW X (.BoolOp .And (b::rest) pos) (RT X.K g)):PW X (.BoolOp .And (a::b::rest) pos) (RT X.K (Fy f g)):=
 QD (ZK ha hb) λσ H Q z9=>by
  clear 5 z9 Oo c t fi r t' eq k;clear 5(Ai eq)kb t1 e1 eq;refine⟨Oo,c,t,fi,kb,t1,e1,λH1 c1 f1 s1=>?_⟩
  cases kb with
  |false=>rw[lE ue3] at eq⊢;cases eq;exact k H1 c1 f1 s1
  |true=>rw[lD rfl] at eq⊢;exact⟨Oo,c1,t1,f1,r,t',eq,λH2 c2 f2 s2=>k H2 c2 f2 (s1.trans s2)⟩
theorem bn(ha:PT X a (RT X.K f))(hb:PW X (.BoolOp .Or (b::rest) pos) (RT X.K g)):PW X (.BoolOp .Or (a::b::rest) pos) (RT X.K (fOr f g)):=
 QD (bM ha hb) λσ H Q z9=>by
  clear 5 z9 Oo c t fi r t' eq k;clear 5(Ai eq)kb t1 e1 eq;refine⟨Oo,c,t,fi,kb,t1,e1,λH1 c1 f1 s1=>?_⟩
  cases kb with
  |true=>rw[lD rfl] at eq⊢;cases eq;exact k H1 c1 f1 s1
  |false=>rw[lE ue3] at eq⊢;exact⟨Oo,c1,t1,f1,r,t',eq,λH2 c2 f2 s2=>k H2 c2 f2 (s1.trans s2)⟩
theorem YF(ha:PT X a (RT X.K f)):PT X (.UnaryOp .Not a pos) (RT X.K (Ct f)):=
 MI (ZH ha) λσ H Q z9=>by
  clear 5 z9 Oo c t fi r t' eq k;clear 5(Ai eq)kb t1 e1 eq
  cases eq
  exact⟨Oo,c,t,fi,kb,_,e1,λH1 c1 f1 s1=>k H1 c1 f1 s1⟩
theorem JV{f:M D}{kb:Bool}{t1:T}(h:Am f t=some (kb,t1)):f t=some (.bl kb,t1):=by
 clear 5(Ai h)d t2 e1 e2;clear 5(JU e2)b rfl z
 cases z
 exact e1
theorem Yt{op:PySem.BoolOp}(h:PE X a (RE X.K u)):PE X (.BoolOp op [a] pos) (RE X.K u):=Zy h
theorem Yl(ha:PE X a (RE X.K u))(hb:PE X (.BoolOp .And (b::rest) pos) (RE X.K v)):PE X (.BoolOp .And (a::b::rest) pos) (RE X.K (Dd u v)):=
 AM (Zr ha hb) λσ H Q z9=>by
  clear 5 z9 Oo c t fi r t' eq k;clear 5(Ai eq)kb t1 e1 eq;refine⟨Oo,c,t,fi,_,t1,JV e1,λx H1 c1 f1 s1 rx=>?_⟩
  cases rx
  refine⟨kb,rfl,?_⟩
  cases kb with
  |false=>rw[lE ue3] at eq⊢;cases eq;exact k _ H1 c1 f1 s1 (.bl false)
  |true=>rw[lD rfl] at eq⊢;exact⟨Oo,c1,t1,f1,r,t',eq,λy H2 c2 f2 s2 ry=>k y H2 c2 f2 (s1.trans s2) ry⟩
theorem ba(ha:PE X a (RE X.K u))(hb:PE X (.BoolOp .Or (b::rest) pos) (RE X.K v)):PE X (.BoolOp .Or (a::b::rest) pos) (RE X.K (Lj u v)):=
 AM (bD ha hb) λσ H Q z9=>by
  clear 5 z9 Oo c t fi r t' eq k;clear 5(Ai eq)kb t1 e1 eq;refine⟨Oo,c,t,fi,_,t1,JV e1,λx H1 c1 f1 s1 rx=>?_⟩
  cases rx
  refine⟨kb,rfl,?_⟩
  cases kb with
  |true=>rw[lD rfl] at eq⊢;cases eq;exact k _ H1 c1 f1 s1 (.bl true)
  |false=>rw[lE ue3] at eq⊢;exact⟨Oo,c1,t1,f1,r,t',eq,λy H2 c2 f2 s2 ry=>k y H2 c2 f2 (s1.trans s2) ry⟩
theorem Yr(ha:PE X a (RE X.K u)):PE X (.UnaryOp .Not a pos) (RE X.K (Kq u)):=
 AM (Zx ha) λσ H Q z9=>by
  clear 5 z9 Oo c t fi r t' eq k;clear 5(Ai eq)kb t1 e1 eq
  cases eq
  refine⟨Oo,c,t,fi,_,_,JV e1,λx H1 c1 f1 s1 rx=>?_⟩
  cases rx
  exact⟨kb,rfl,k _ H1 c1 f1 s1 (.bl (!kb))⟩
theorem Tm{d:Expr}(hc:PT X d (RT X.K f))(ha:PE X a (RE X.K u))(hb:PE X b (RE X.K v)):PE X (.IfExp d a b pos) (RE X.K (fIf f u v)):=
 AM (Ub hc ha hb) λσ H Q z9=>by
  clear 5 z9 Oo c t fi r t' eq k;clear 5(Ai eq)kb t1 e1 eq;refine⟨Oo,c,t,fi,kb,t1,e1,λH1 c1 f1 s1=>?_⟩
  cases kb with
  |false=>rw[lE ue3] at eq⊢;exact⟨Oo,c1,t1,f1,r,t',eq,λy H2 c2 f2 s2 ry=>k y H2 c2 f2 (s1.trans s2) ry⟩
  |true=>rw[lD rfl] at eq⊢;exact⟨Oo,c1,t1,f1,r,t',eq,λy H2 c2 f2 s2 ry=>k y H2 c2 f2 (s1.trans s2) ry⟩
end
variable{n:Nat}{p:Pos}
section
variable{X:Cx}{e a b:Expr}{es:List Expr}{pos:Pos}
def Ad:M (List D):=ret []
def Ab(f:M D)(g:M (List D)):M (List D):=bnd f λd=>bnd g λds=>ret (d::ds)
theorem Yk:PA X [] (RA X.K Ad):=QB Zq λσ H Q z9=>by
 clear 5 z9 Oo c t fi r t' eq k
 cases eq
 exact k [] H c fi .refl .nil
theorem VF{g:M (List D)}(ha:PE X e (RE X.K f))(hr:PA X es (RA X.K g))(hs:starEach (e::es) X.env=(false,eval e X.env)::starEach es X.env:=by rfl):PA X (e::es) (RA X.K (Ab f g)):=
 QB (WC ha hr hs) λσ H Q z9=>by
  clear 5 z9 Oo c t fi r t' eq k;clear 5(Ai eq)d t1 e1 eq;clear 5(Ai eq)ds t2 e2 eq
  cases eq
  exact⟨Oo,c,t,fi,d,t1,e1,λx H1 c1 f1 s1 rx=>⟨Oo,c1,t1,f1,ds,_,e2,λxs H2 c2 f2 s2 rxs=>k _ H2 c2 f2 (s1.trans s2) (.cons (rx.mono s2.ext) rxs)⟩⟩
def lim{α:Type}(n:Nat)(a:α):M α:=λt=>if n<=LIM then some (a,t) else none
set_option tactic.hygienic true in
theorem EE{α:Type}{a:α}{z:α×T}(h:lim n a t=some z):n<=LIM/\z=(a,t):=by
 unfold lim at h
 split at h
 .next h1=>cases h;exact⟨h1,rfl⟩
 .cases h
def AL(f:M (List D)):M D:=bnd f λds=>lim ds.length (.tup ds)
theorem QY{x1:Nat}{f:M (List D)}(h:PA X es (RA X.K f)):PE X (.Tuple es x1 pos) (RE X.K (AL f)):=
 AM (Zz h) λσ H Q z9=>by
  clear 5 z9 Oo c t fi r t' eq k;clear 5(Ai eq)ds t1 e1 eq;clear 5(EE eq)hl z
  cases z
  refine⟨Oo,c,t,fi,ds,_,e1,λxs H1 c1 f1 s1 rxs=>⟨by rw[rxs.length];exact ul7 hl DG,λp hp=>?_⟩⟩;exact k _ _ c1 (f1.laid hp) (s1.trans (f1.stp_laid hp)) (.tup AG (f1.s.free hp) (rxs.mono (Ext.laid f1.s hp)))
def AC(f:M (List D)):M (List D):=bnd f λds=>lim ds.length ds
theorem Yw{f:M (List D)}(h:PA X es (RA X.K f)):PE X (.List es pos) (RF X.K (AC f)):=
 AM (Zv h) λσ H Q z9=>by
  clear 5 z9 Oo c t fi r t' eq k;clear 5(Ai eq)ds t1 e1 eq;clear 5(EE eq)hl z
  cases z
  exact⟨Oo,c,t,fi,_,_,e1,λxs H1 c1 f1 s1 rxs=>⟨by rw[rxs.length];exact ul7 hl DG,λp hp=>k p xs H1 c1 f1 s1 rxs hp⟩⟩
def Au(f:M (List D)):M D:=bnd f λds=>ret (.lst ds)
theorem VL{f:M (List D)}(h:PE X e (RF X.K f)):PE X e (RE X.K (Au f)):=
 AM h λσ H Q z9=>by
  clear 5 z9 Oo c t fi r t' eq k;clear 5(Ai eq)ds t1 e1 eq
  cases eq
  exact⟨Oo,c,t,fi,ds,_,e1,λp xs H1 c1 f1 s1 rxs hp=>k _ _ c1 (f1.laid hp) (s1.trans (f1.stp_laid hp)) (.lst AG (f1.s.free hp) (rxs.mono (Ext.laid f1.s hp)))⟩
noncomputable def PY(o:Ob):M D:=λt=>some (.obj t.S.length,{t with S:=t.S++[o]})
def D4(f:M (List D)):M D:=bnd f λds=>PY (.lst ds)
theorem Ys{f:M (List D)}(h:PE X e (RF X.K f)):PE X e (RE X.K (D4 f)):=
 AM h λσ H Q z9=>by
  clear 5 z9 Oo c t fi r t' eq k;clear 5(Ai eq)ds t1 e1 eq
  cases eq
  refine⟨Oo,c,t,fi,ds,_,e1,λp xs H1 c1 f1 s1 rxs hp=>?_⟩;obtain⟨c2,f2,s2,e2⟩:=f1.newObj (o:=.lst ds) (u:=.lst xs) hp λc' H' ex hu=>⟨xs,hu,rxs.mono ex⟩;exact k _ _ c2 f2 (s1.trans s2) (.obj e2)
abbrev Fn:=List D->List Ob->Option (D×List Ob)
inductive spF(K:ib)(f:Fn)(vs:List V)(H:Hp)(Q:VK)(E:XK):Prop where
 |mk (c:Cf) (ds:List D) (S:List Ob) (si:SInv K c S H) (rs:Reps K c H vs ds) (r:D) (S':List Ob) (e:f ds S=some (r,S')) (k:∀v H' c',SInv K c' S' H'->Stp c.O c H c' H'->(∀b,c'.O b↔c.O b)->Rep K c' H' v r->Q v H'):spF K f vs H Q E
def Ak(g:Fn)(f:M (List D)):M D:=bnd f λds t=>match g ds t.S with
 |some (r,S')=>some (r,{t with S:=S'})
 |none=>none
theorem GM{g:Fn}{ds:List D}{r:D}{t':T}(h:(match g ds t.S with|some (r,S')=>some (r,{t with S:=S'})|none=>none:Option (D×T))=some (r,t')):∃S',g ds t.S=some (r,S')/\t' = {t with S:=S'}:=by
 cases e:g ds t.S with
 |none=>rw[e] at h;cases h
 |some p=>clear 5 p r' S';rw[e] at h;cases h;exact⟨S',rfl,rfl⟩
theorem VG{k:Nat}{fa:ig}{fd:iu}{ps:List Str}{g:Fn}{f:M (List D)}{x:Str}(F:FnOk X.prog X.w X.K X.mg X.base CX0 k fa fd ps (spF X.K g))(hr:Room k X.A)(hg:Gl X x)(hm:X.mg x=some (.ref fa))(hk:PySem.W.keepIn X.K (.ref fa)=true)(hb:Binds X.K fd ps [])
 (ha:PA X (e::es) (RA X.K f)) (hdb:(x==("__debug__":Str))=false:=by decide) (he:starEach (e::es) X.env=(false,eval e X.env)::starEach es X.env:=by rfl) (hpl:(backTo pos (starEach es X.env)).any (·.1)=false:=by rfl) :
 PE X (.Call (.Name x p) (e::es) [] pos) (RE X.K (Ak g f)):=
 AM (OP F hr hg hm hk hb .nil Ji ha hdb he hpl) λσ H Q z9=>by
  clear 5 z9 Oo c t fi r t' eq kk;clear 5(Ai eq)ds t1 e1 eq;clear 5(GM eq)S' e2 rfl;refine⟨Oo,c,t,fi,ds,t1,e1,λvs H1 c1 f1 s1 rvs=>?_⟩;show spF X.K g (vs++[]) H1 Q E0;rw[ui4];refine⟨c1,ds,t1.S,f1.s,rvs,r,S',e2,λv H' c' si st ho rv=>?_⟩;clear 5(f1.after si st ho)f2 s2;exact kk v H' c' f2 (s1.trans s2) rv
def fB(f:M (List D))(h:List D->M D):M D:=bnd f h
theorem RE.callB{f:M (List D)}{h:List D->M D}{R:List V->Hp->VK->Prop}(s:F1 K R h){σ:L2.St}{H:Hp}{Q:VK}(q:RE K (fB f h) σ H Q):tCB R (RA K f) σ H Q:=by
 clear 5 q Oo c t fi r t' eq k;clear 5(Ai eq)ds t1 e1 eq;exact⟨Oo,c,t,fi,ds,t1,e1,λxs H1 c1 f1 s1 rxs=>s f1 rxs eq λv H' c' f' s' rv=>k v H' c' f' (s1.trans s') rv⟩
def fBF(f:M (List D))(h:List D->M (List D)):M (List D):=bnd f h
theorem RF.callB{f:M (List D)}{h:List D->M (List D)}{R:List V->Hp->VK->Prop}(s:J2 K R h){σ:L2.St}{H:Hp}{Q:VK}(q:RF K (fBF f h) σ H Q):tCB R (RA K f) σ H Q:=by
 clear 5 q Oo c t fi r t' eq k;clear 5(Ai eq)ds t1 e1 eq;exact⟨Oo,c,t,fi,ds,t1,e1,λxs H1 c1 f1 s1 rxs=>s f1 rxs eq λp vs H' c' f' s' rv hp=>k p vs H' c' f' (s1.trans s') rv hp⟩
theorem RF.two{h:D->D->M (List D)}(s:Pg K R h){σ:L2.St}{H:Hp}{Q:VK}(q:RF K (bnd f λx=>bnd g λy=>h x y) σ H Q):tOp R (RE K f) (RE K g) σ H Q:=by
 clear 5 q Oo c t fi r t' eq k;clear 5(Ai eq)dx t1 e1 eq;clear 5(Ai eq)dy t2 e2 eq;exact⟨Oo,c,t,fi,dx,t1,e1,λx H1 c1 f1 s1 rx=>⟨Oo,c1,t1,f1,dy,t2,e2,λy H2 c2 f2 s2 ry=>s f2 (rx.mono s2.ext) ry eq λp vs H' c' f' s' rv hp=>k p vs H' c' f' ((s1.trans s2).trans s') rv hp⟩⟩
end
variable{μ:Cf->Hp->D->(V->Hp->Prop)->Prop}
section
variable{X:Cx}{e a b:Expr}{pos:Pos}{st:Stmt}{sts:List Stmt}
noncomputable def Af(f g:M Out):M Out:=λt=>match f t with
 |some (.next,t1)=>g t1
 |z=>z
def Aq:M Out:=ret .next
theorem V1:PSs X [] (RSg X.K μ Aq):=Oh WT λE σ H z9=>by
 clear 5 z9 Oo c t fi o t' eq k
 cases eq
 exact k σ H c fi .refl
theorem Tv{μ:Cf->Hp->D->(V->Hp->Prop)->Prop}{f g:M Out}(h1:PS X st (RSg X.K μ f))(h2:PSs X sts (RSg X.K μ g)):PSs X (st::sts) (RSg X.K μ (Af f g)):=
 Oh (Ul h1 h2) λE σ H z9=>by
  clear 5 z9 Oo c t fi o t' eq k;unfold Af at eq
  cases e1:f t with
  |none=>rw[e1] at eq;cases eq
  |some p=>
    clear 5 p o1 t1;rw[e1] at eq;refine⟨Oo,c,t,fi,o1,t1,e1,λσ1 H1 c1 f1 s1=>?_⟩
    cases o1 with
    |next=>exact⟨Oo,c1,t1,f1,o,t',eq,λσ2 H2 c2 f2 s2=>k σ2 H2 c2 f2 (s1.trans s2)⟩
    |brk=>cases eq;exact k σ1 H1 c1 f1 s1
    |cont=>cases eq;exact k σ1 H1 c1 f1 s1
    |ret d=>cases eq;exact k σ1 H1 c1 f1 s1
theorem Jb{μ:Cf->Hp->D->(V->Hp->Prop)->Prop}{f:M Out}(h1:PS X st (RSg X.K μ f)):PSs X [st] (RSg X.K μ f):=Lv h1
def An(f:M D):M Out:=bnd f λd=>ret (.ret d)
theorem Q7(h:PE X e (RE X.K f)):PS X (.Return (some e) pos) (RS X.K (An f)):=
 Br (IM h) λE σ H z9=>by
  clear 5 z9 Oo c t fi o t' eq k;clear 5(Ai eq)d t1 e1 eq
  cases eq
  exact⟨Oo,c,t,fi,d,_,e1,λv H1 c1 f1 s1 rv=>k σ H1 c1 f1 s1 v rv⟩
theorem OA:PS X (.Pass pos) (RSg X.K μ Aq):=Br WR λE σ H z9=>by
 clear 5 z9 Oo c t fi o t' eq k
 cases eq
 exact k σ H c fi .refl
theorem Jw:PS X (.Continue pos) (RSg X.K μ (ret .cont)):=Br Od λE σ H z9=>by
 clear 5 z9 Oo c t fi o t' eq k
 cases eq
 exact k σ H c fi .refl
theorem Tt:PS X (.Break pos) (RSg X.K μ (ret .brk)):=Br Ui λE σ H z9=>by
 clear 5 z9 Oo c t fi o t' eq k
 cases eq
 exact k σ H c fi .refl
def Dm(f:M D):M Out:=bnd f λ_=>ret .next
theorem Oy(h:PE X e (RE X.K f))(hs:swapsWith e none pos.line X.env=pure false:=by rfl):PS X (.Expr e pos) (RSg X.K μ (Dm f)):=
 Br (Lu h hs) λE σ H z9=>by
  clear 5 z9 Oo c t fi o t' eq k;clear 5(Ai eq)d t1 e1 eq
  cases eq
  exact⟨Oo,c,t,fi,d,_,e1,λv H1 c1 f1 s1 rv=>k σ H1 c1 f1 s1⟩
def ifS(f:M Bool)(g h:M Out):M Out:=bnd f λk=>if k=true then g else h
theorem bi{f:M Bool}{g h:M Out}{sa sb:List Stmt}(hc:PT X e (RT X.K f))(ha:PSs X sa (RSg X.K μ g))(hb:PSs X sb (RSg X.K μ h)):PS X (.If e sa sb pos) (RSg X.K μ (ifS f g h)):=
 Br (bJ hc ha hb) λE σ H z9=>by
  clear 5 z9 Oo c t fi o t' eq k;clear 5(Ai eq)kb t1 e1 eq;refine⟨Oo,c,t,fi,kb,t1,e1,λH1 c1 f1 s1=>?_⟩
  cases kb with
  |true=>rw[lD rfl] at eq⊢;exact⟨Oo,c1,t1,f1,o,t',eq,λσ2 H2 c2 f2 s2=>k σ2 H2 c2 f2 (s1.trans s2)⟩
  |false=>rw[lE ue3] at eq⊢;exact⟨Oo,c1,t1,f1,o,t',eq,λσ2 H2 c2 f2 s2=>k σ2 H2 c2 f2 (s1.trans s2)⟩
noncomputable def AE(i:Nat)(d:D):M Unit:=λt=>some ((),{t with env:=t.env.set i (some (.val d))})
def setS(i:Nat)(f:M D):M Out:=bnd f λd=>bnd (AE i d) λ_=>ret .next
theorem RS.set{μ:Cf->Hp->D->(V->Hp->Prop)->Prop}{K:ib}{i:Nat}{f:M D}{E:Ends}{σ:L2.St}{H:Hp}(q:RSg K μ (setS i f) E σ H):NY (RE K f) (Ky i) E σ H:=by
 clear 5 q Oo c t fi o t' eq k;clear 5(Ai eq)d t1 e1 eq
 cases eq
 exact⟨Oo,c,t,fi,d,t1,e1,λv H1 c1 f1 s1 rv=>k _ H1 c1 (f1.set rv) s1⟩
theorem Nh{x:Str}{pos':Pos}(hN:X.N.Nodup)(hi:X.N[i]?=some x)(hx:Loc X.env.scope x)(he:PE X e (RE X.K f))(hs:swapsWith e (some (.Name x pos')) pos.line X.env=pure false:=by rfl)(hf:X.fn x=true\/X.env.scope.names.lookup x=some .local:=by walk_at"h") :
 PS X (.Assign [.Name x pos'] e pos) (RSg X.K μ (setS i f)):=Br (NH hN hi hx he hs hf) λ_ _ _ q=>RS.set q
def Ef(i:Nat)(f:M (List D)):M Out:=bnd f λds t=>some (.next,{t with env:=t.env.set i (some (.own ds))})
theorem RS.own{f:M (List D)}{E:Ends}(q:RSg K μ (Ef i f) E σ H):NY (RF K f) (Ky i) E σ H:=by
 clear 5 q Oo c t fi o t' eq k;clear 5(Ai eq)ds t1 e1 eq
 cases eq
 refine⟨Oo,c,t,fi,ds,t1,e1,λp vs H1 c1 f1 s1 rv hp=>?_⟩;clear 5(f1.setOwn (i:=i) hp rv)c2 f2 s2;exact k _ _ c2 f2 (s1.trans s2)
theorem YD{x:Str}{f:M (List D)}{pos':Pos}(hN:X.N.Nodup)(hi:X.N[i]?=some x)(hx:Loc X.env.scope x)(he:PE X e (RF X.K f))(hs:swapsWith e (some (.Name x pos')) pos.line X.env=pure false:=by rfl)(hf:X.fn x=true\/X.env.scope.names.lookup x=some .local:=by walk_at"h") :
 PS X (.Assign [.Name x pos'] e pos) (RSg X.K μ (Ef i f)):=Br (NH hN hi hx he hs hf) λ_ _ _ q=>RS.own q
theorem EO{x:Str}(hN:X.N.Nodup)(hi:X.N[i]?=some x)(hx:Loc X.env.scope x)(hf:X.fn x=true\/X.env.scope.names.lookup x=some .local:=by walk_at"h"):PG X (.Name x pos) (RG X.K (AE i)):=
 MH (WJ hN hi hx hf) λv σ H Q z9=>by
  clear 5 z9 Oo c t d fi rv t' eq k
  cases eq
  exact k _ H c (fi.set rv) .refl
def Cg(f:M D)(g:D->M Unit):M Out:=bnd f λd=>bnd (g d) λ_=>ret .next
theorem YB{g:D->M Unit}(he:PE X e (RE X.K f))(hg:PG X tg (RG X.K g))(hs:swapsWithSole [tg] e pos.line X.env=pure false:=by rfl)(hw:swappedStores [tg] e X.env=pure none:=by rfl)(hp:(assignEach [tg] X.env).map (·.2)=[assign tg X.env]:=by rfl) :
 PS X (.Assign [tg] e pos) (RSg X.K μ (Cg f g)):=
 Br (by first|exact Sa he hg hs hw|exact Sa he hg hs hw hp) λE σ H z9=>by
  clear 5 z9 Oo c t fi o t' eq k;clear 5(Ai eq)d t1 e1 eq;clear 5(Ai eq)u t2 e2 eq
  cases eq
  exact⟨Oo,c,t,fi,d,t1,e1,λv H1 c1 f1 s1 rv=>⟨Oo,c1,t1,d,f1,rv,_,e2,λσ2 H2 c2 f2 s2=>k σ2 H2 c2 f2 (s1.trans s2)⟩⟩
inductive RGs(K:ib)(f:List D->M Unit)(vs:List V)(σ:L2.St)(H:Hp)(Q:L2.St->Hp->Prop):Prop where
 |mk (Oo:ig->Prop) (c:Cf) (t:T) (ds:List D) (fi:FInv K Oo c t σ H) (r:Reps K c H vs ds) (t':T) (e:f ds t=some ((),t')) (k:∀σ' H' c',FInv K Oo c' t' σ' H'->Stp Oo c H c' H'->Q σ' H'):RGs K f vs σ H Q
theorem Og{ts:List Expr}{t t':TGs}(h:PGs X ts t)(i:∀v σ H Q,t' v σ H Q->t v σ H Q):PGs X ts t':=λic s σ H vs us Q I r q=>h ic s σ H vs us Q I r (i vs σ H Q q)
def Cl:List D->M Unit
 |[]=>ret ()
 |_=>fail
def AR(f:D->M Unit)(g:List D->M Unit):List D->M Unit
 |d::ds=>bnd (f d) λ_=>g ds
 |[]=>fail
theorem VM:PGs X [] (RGs X.K Cl):=Og WK λvs σ H Q z9=>by
 clear 5 z9 Oo c t ds fi rv t' eq k
 cases rv with
 |nil=>cases eq;exact⟨rfl,k σ H c fi .refl⟩
 |cons _ _=>cases eq
theorem RGs.cons{K:ib}{f:D->M Unit}{g:List D->M Unit}{vs:List V}{σ:L2.St}{H:Hp}{Q:L2.St->Hp->Prop}(q:RGs K (AR f g) vs σ H Q):U6 (RG K f) (RGs K g) vs σ H Q:=by
 clear 5 q Oo c t ds fi rv t' eq k
 cases rv with
 |nil=>cases eq
 |cons r rs=>
   clear 5(Ai eq)u t1 e1 eq;exact⟨_,_,rfl,Oo,c,t,_,fi,r,t1,e1,λσ1 H1 c1 f1 s1=>⟨Oo,c1,t1,_,f1,rs.mono s1.ext,t',eq,λσ2 H2 c2 f2 s2=>k σ2 H2 c2 f2 (s1.trans s2)⟩⟩
def unT(n:Nat)(g:List D->M Unit):D->M Unit
 |.tup ds=>if ds.length=n then g ds else fail
 |_=>fail
set_option tactic.hygienic true in
def C8(st:D->M Unit)(b:M Out):List D->M Out
 |[]=>ret .next
 |d::r=>λt=>match st d t with
   |none=>none
   |some (_,t1)=>match b t1 with
     |some (.next,t2)=>C8 st b r t2
     |some (.cont,t2)=>C8 st b r t2
     |some (.brk,t2)=>some (.next,t2)
     |some (.ret x,t2)=>some (.ret x,t2)
     |none=>none
def B7(f:M (List D))(st:D->M Unit)(b:M Out):M Out:=bnd f λds=>C8 st b ds
theorem RS.for{f:M (List D)}{g:D->M Unit}{b:M Out}{E:Ends}(q:RSg K μ (B7 f g b) E σ H):UF (RI K f) (RG K g) (RSg K μ b) E σ H:=by
 clear 5 q Oo c t fi o t' eq k;clear 5(Ai eq)ds t1 e1 eq;refine⟨Oo,c,t,fi,ds,t1,e1,λJ H1 c1 f1 s1 it=>?_⟩;refine⟨λi m σ' H'=>m=ds.length-i/\i<=ds.length/\∃c' t2,FInv K Oo c' t2 σ' H'/\Stp Oo c1 H1 c' H'/\C8 g b (ds.drop i) t2=some (o,t'),⟨_,rfl,um6 _,c1,t1,f1,.refl,by rw[uk0];exact eq⟩,?_⟩;rintro i m σ' H' ⟨rfl,hi,c',t2,f2,s2,e2⟩
 by_cases hlt:i<ds.length
 .refine .inr ⟨it.go c' H' i s2.ext hlt,λσ3 H3=>∃c3 t3,FInv K Oo c3 t3 σ3 H3/\Stp Oo c1 H1 c3 H3/\C8 g b (ds.drop (i+1)) t3=some (o,t'),λσ3 H3 h=>⟨ds.length-(i+1),by lia,rfl,hlt,h⟩,λx H'' hy=>?_⟩;clear 5(it.yld c' H' i x H'' _ s2.ext (ub3 hlt) hy)rfl rx;rw[ub2 hlt] at e2;unfold C8 at e2
  cases e3:g ds[i] t2 with
  |none=>rw[e3] at e2;cases e2
  |some p=>
    clear 5 p u t3;rw[e3] at e2
    try dsimp only at e2
    refine⟨Oo,c',t2,_,f2,rx,t3,e3,λσ3 H3 c3 f3 s3=>?_⟩
    cases e4:b t3 with
    |none=>rw[e4] at e2;cases e2
    |some p=>
      clear 5 p o4 t4;rw[e4] at e2
      try dsimp only at e2
      refine⟨Oo,c3,t3,f3,o4,t4,e4,λσ5 H5 c5 f5 s5=>?_⟩;have s':=(s2.trans s3).trans s5
      cases o4 with
      |next=>exact⟨c5,t4,f5,s',e2⟩
      |cont=>exact⟨c5,t4,f5,s',e2⟩
      |brk=>cases e2;exact k σ5 H5 c5 f5 (s1.trans s')
      |ret r=>cases e2;exact k σ5 H5 c5 f5 (s1.trans s')
 .have hi':i=ds.length:=by lia
  subst hi';rw[uh2] at e2
  cases e2
  exact .inl ⟨it.stop c' H' s2.ext,k σ' H' c' f2 (s1.trans s2)⟩
theorem Q5{iter:Expr}{body:List Stmt}{f:M (List D)}{g:D->M Unit}{b:M Out}(hp:PassesOwn (model X.prog X.w) X.A X.env X.xe)(hc:X.calm=true)(hi:PI X tg iter (RI X.K f))(hg:PG X tg (RG X.K g))(hb:PSs X body (RSg X.K μ b))
 (hs:∀x,foldedSetIterable iter X.env x=pure x:=by intro _;rfl):PS X (.For tg iter body [] pos) (RSg X.K μ (B7 f g b)):=
 Br (Sb hp hc hi hg hb hs) λ_ _ _ q=>RS.for q
theorem ItOk.lst{K:ib}{c:Cf}{H:Hp}{p:ig}{ds:List D}(r:∀c' H',Ext c H c' H'->∃vs,SqL K H' p vs/\Reps K c' H' vs ds):ItOk K (Itl K p) c H ds:=by
 refine⟨λc' H' i ex hi=>?_,λc' H' i x H'' d ex hd hy=>?_,λc' H' ex=>?_⟩
 .clear 5(r c' H' ex)vs h1 h2;obtain⟨v,e,_⟩:=h2.at (ub3 hi);exact⟨vs,v,h1,e⟩
 .clear 5(r c' H' ex)vs h1 h2;clear 5 hy rfl h;exact⟨rfl,h2.get (h vs h1) hd⟩
 .clear 5(r c' H' ex)vs h1 h2;exact⟨vs,h1,by rw[h2.length];exact um5 _⟩
theorem ItOk.tup{K:ib}{c:Cf}{H:Hp}{p:ig}{ds:List D}(r:∀c' H',Ext c H c' H'->∃vs,SqT K H' p vs/\Reps K c' H' vs ds):ItOk K (Itt K p) c H ds:=by
 refine⟨λc' H' i ex hi=>?_,λc' H' i x H'' d ex hd hy=>?_,λc' H' ex=>?_⟩
 .clear 5(r c' H' ex)vs h1 h2;obtain⟨v,e,_⟩:=h2.at (ub3 hi);exact⟨vs,v,h1,e⟩
 .clear 5(r c' H' ex)vs h1 h2;clear 5 hy rfl h;exact⟨rfl,h2.get (h vs h1) hd⟩
 .clear 5(r c' H' ex)vs h1 h2;exact⟨vs,h1,by rw[h2.length];exact um5 _⟩
end
theorem FInv.leave{Oo:ig->Prop}(f:FInv K Oo c t σ H):SInv K ⟨c.ι,Oo⟩ t.S H/\Ext c H ⟨c.ι,Oo⟩ H:=by
 have ext:Ext c H ⟨c.ι,Oo⟩ H:=⟨λ_ _ e _=>e,λb o _ z=>z.elim .inl λw=>.inr (f.sub b w),λ_ _ e=>e⟩;exact⟨⟨f.s.len,f.s.nd,λk a o e1 e2=>(f.s.obs k a o e1 e2).mono ext rfl,λb z=>f.s.trk b (f.sub b z),λb z=>f.s.dis b (f.sub b z)⟩,ext⟩
noncomputable def env0(m:Nat)(ds:List D):List (Option Sl):=ds.map (λd=>some (.val d))++List.replicate (m-ds.length) none
def fnOf(n m:Nat)(g:M Out):Fn:=λds S=>if ds.length=n then(match g ⟨env0 m ds,S⟩ with
 |some (.ret r,t)=>some (r,t.S)
 |some (.next,t)=>some (.non,t.S)
 |_=>none) else none
theorem Hx{ds:List D}{N:List Str}(s:SInv K c S H)(r:Reps K c H vs ds):FInv K c.O c ⟨env0 N.length ds,S⟩ (L2.EC N vs) H:=by
 have hlen:vs.length=ds.length:=r.length;have none_:∀{i:Nat}{x:Sl},(env0 N.length ds)[i]?=some (some x)->∃d,ds[i]?=some d/\x=.val d:=λ{i x} q=>by
  unfold env0 at q
  by_cases hi:i<ds.length
  .rw[ub1 (by simpa using hi),uf4,ub3 hi] at q;simp at q;exact⟨ds[i],ub3 hi,q.symm⟩
  .rw[ua7 (by simpa using hi),ub4] at q
   split at q<;>simp at q
 refine⟨s,by simp[env0,L2.EC,hlen],λ_ z=>z,λi d q=>?_,λi es q=>?_,λi j es _ a q _ _ _=>?_⟩
 .obtain⟨d',h1,h2⟩:=none_ q
  cases h2
  clear 5(r.at h1)v h3 h4;refine⟨v,?_,h4⟩;unfold L2.EC;have hi:=(ub0.mp h3).1;rw[ub1 (by simpa using hi),uf4,h3];rfl
 .obtain⟨_,_,h2⟩:=none_ q;cases h2
 .obtain⟨_,_,h2⟩:=none_ q;cases h2
set_option tactic.hygienic true in
theorem bh{P:im}{w:ir}{mg:Str->Option ie}{base:Heap}{x qual:Str}{st:Stmt}{fa:ig}{fd:iu}{N ps:List Str}{k:Nat}{g:M Out}(F:Fun K x qual st fa fd)(S:FnScope N ps (AD st))
 (hb:∀(cdv:ie) (A:Around) (outer:List Env) (s:ij) (H:Hp) (E:XK),Room k (A.deeper (PyProof.Rows.envOfC qual (AD st) s.heap.objs.size fa cdv))->
   PSs (E7 CX0 P w K mg base N qual (AD st) fa cdv A outer s H E).nox (B6 st) (RS K g)):FnOk P w K mg base CX0 (k+1) fa fd ps (spF K (fnOf ps.length N.length g)):=by
 have hlen:∀{ds:List D}{S:List Ob}{z:D×List Ob},fnOf ps.length N.length g ds S=some z->ds.length=ps.length:=λ{ds S z} h=>by
  unfold fnOf at h
  split at h
  .next h1=>exact h1
  .cases h
 refine F.ok S (λvs H Q E h=>?_) (λcdv A outer s H vs Q E hr h=>?_)
 .obtain⟨c,ds,S,si,rs,r,S',e,_⟩:=h;rw[rs.length];exact hlen e
 clear 5 h c ds S0 si rs r S' e kk;refine⟨RS K g,hb cdv A outer s H E hr,?_⟩;have hl:=hlen e;unfold fnOf at e;rw[lD hl] at e
 cases eg:g ⟨env0 N.length ds,S0⟩ with
 |none=>rw[eg] at e;cases e
 |some p=>
   clear 5 p o t;rw[eg] at e;refine⟨c.O,c,_,Hx si rs,o,t,eg,λσ' H' c' f' s'=>?_⟩;clear 5 f'.leave si' ext';have st':Stp c.O c H ⟨c'.ι,c.O⟩ H':=⟨s'.ext.trans ext',s'.oo⟩
   cases o with
   |next=>cases e;exact kk .non H' _ si' st' (λ_=>lz) .non
   |ret d=>cases e;exact λv rv=>kk v H' _ si' st' (λ_=>lz) (rv.mono ext')
   |brk=>cases e
   |cont=>cases e
variable{fr:List Nat}
section
variable{X:Cx}{e a b:Expr}{pos:Pos}
def items:D->M (List D)
 |.lst ds=>ret ds
 |.tup ds=>ret ds
 |.scr ns=>ret (ns.map .int)
 |_=>fail
noncomputable def Bo(lo:Int)(n:Nat):List D:=(List.range n).map λi=>.int (lo+(i:Nat))
theorem ItOk.rng{lo:Int}:ItOk K (Itr lo n) c H (Bo lo n):=by
 refine⟨λc' H' i ex hi=>?_,λc' H' i x H'' d ex hd hy=>?_,λc' H' ex=>?_⟩
 .have:i<n:=by simpa[Bo] using hi
  exact this
 .clear 5 hy rfl rfl;refine⟨rfl,?_⟩;have hi:i<n:=by
   have:=(ub0.mp hd).1;simpa[Bo] using this
  have:d=.int (lo+(i:Nat)):=by
   rw[Bo,uf4,List.getElem?_range hi] at hd;simpa using hd.symm
  rw[this];exact .int _
 .show n<=(Bo lo n).length;simp[Bo]
noncomputable def C4(i:Int):Bool:=decide (-(2 ^ 62)<=i)&&decide (i<2 ^ 62)
def Ly:List D->M (List D)
 |[.int j]=>λt=>if C4 j=true then some (Bo 0 j.toNat,t) else none
 |_=>fail
def Lz:List D->M (List D)
 |[.int i,.int j]=>λt=>if (C4 i&&C4 j)=true then some (Bo i (j-i).toNat,t) else none
 |_=>fail
def Do(f:M (List D)):M (List D):=bnd f Ly
def GN(f:M (List D)):M (List D):=bnd f Lz
theorem GO{i:Int}(h:C4 i=true) : -(2 ^ 62)<=i/\i<2 ^ 62:=by
 unfold C4 at h;rw[ug9] at h;exact⟨ug3 h.1,ug3 h.2⟩
set_option tactic.hygienic true
theorem Q1{f:M (List D)}(hg:Gl X "range")(hm:X.mg "range" = none)(ha:PA X [a] (RA X.K f))(hs:starEach [a] X.env=[(false,eval a X.env)]:=by rfl):PI X tg (.Call (.Name "range" p) [a] [] pos) (RI X.K (Do f)):=
 JZ (R4 hg hm ha hs) λσ H R z9=>by
  clear 5 z9 Oo c t fi ds t' eq k;clear 5(Ai eq)xs t1 e1 eq;refine⟨Oo,c,t,fi,xs,t1,e1,λvs H1 c1 f1 s1 rv=>?_⟩;unfold Ly at eq
  split at eq
  .next j=>
   split at eq
   .next hs=>
    cases eq
    cases rv with
    |cons r rs=>
      cases rs
      cases r
      clear 5(GO hs)h1 h2;exact⟨j,rfl,h1,h2,k _ H1 c1 f1 s1 ItOk.rng⟩
   .cases eq
  .cases eq
theorem Q2{f:M (List D)}(hg:Gl X "range")(hm:X.mg "range" = none)(ha:PA X [a,b] (RA X.K f))(hs:starEach [a,b] X.env=[(false,eval a X.env),(false,eval b X.env)]:=by rfl)(hs2:starEach [b] X.env=[(false,eval b X.env)]:=by rfl):PI X tg (.Call (.Name "range" p) [a,b] [] pos) (RI X.K (GN f)):=
 JZ (R5 hg hm ha hs hs2) λσ H R z9=>by
  clear 5 z9 Oo c t fi ds t' eq k;clear 5(Ai eq)xs t1 e1 eq;refine⟨Oo,c,t,fi,xs,t1,e1,λvs H1 c1 f1 s1 rv=>?_⟩;unfold Lz at eq
  split at eq
  .next i j=>
   split at eq
   .next hs=>
    cases eq
    rw[ug9] at hs
    cases rv with
    |cons r rs=>
      cases r
      cases rs with
      |cons r rs=>
        cases rs
        cases r
        clear 5(GO hs.1)h1 h2;clear 5(GO hs.2)h3 h4;exact⟨i,j,rfl,⟨h1,h2,h3,h4⟩,k _ H1 c1 f1 s1 ItOk.rng⟩
   .cases eq
  .cases eq
def CK(st:D->M Unit)(tst:M Bool)(elt:M D):List D->M (List D)
 |[]=>ret []
 |d::r=>bnd (st d) λ_=>bnd tst λk=>if k=true then bnd elt λx=>bnd (CK st tst elt r) λxs=>ret (x::xs) else CK st tst elt r
noncomputable def b9:Option (Option Sl)->Option Sl
 |some (some (.val d))=>some (.val d)
 |_=>none
def cenv(n:Nat)(fr:List Nat)(env:List (Option Sl)):List (Option Sl):=List.replicate n none++fr.map λi=>b9 env[i]?
noncomputable def Gc(n:Nat)(fr:List Nat)(σ:L2.St):L2.St:=List.replicate n none++fr.map λi=>(σ[i]?).join
def CL(n:Nat)(fr:List Nat)(f:M (List D))(st:D->M Unit)(tst:M Bool)(elt:M D):M (List D):=bnd f λds t=>match CK st tst elt ds ⟨cenv n fr t.env,t.S⟩ with
 |some (xs,t')=>if xs.length<=LIM then some (xs,{t with S:=t'.S}) else none
 |none=>none
set_option tactic.hygienic false
theorem JK{env:List (Option Sl)}{x:Sl}(h:(cenv n fr env)[j]?=some (some x)):∃i d,n<=j/\fr[j-n]?=some i/\env[i]?=some (some (.val d))/\x=.val d:=by
 unfold cenv at h
 by_cases hj:j<n
 .rw[ub1 (by simpa using hj),ub4] at h
  split at h<;>simp at h
 .rw[ua7 (by simpa using hj),uc8,uf4] at h
  cases e:fr[j-n]? with
  |none=>rw[e] at h;simp at h
  |some i=>
    rw[e] at h;simp only[uj1,ug0] at h
    cases e2:env[i]? with
    |none=>rw[e2] at h;cases h
    |some o=>
      cases o with
      |none=>rw[e2] at h;cases h
      |some sl=>
        cases sl with
        |own _=>rw[e2] at h;cases h
        |val d=>rw[e2] at h;cases h;exact⟨i,d,by lia,rfl,e2,rfl⟩
theorem Kt{Oo:ig->Prop}(f:FInv K Oo c t σ H):FInv K c.O c ⟨cenv n fr t.env,t.S⟩ (Gc n fr σ) H:=by
 refine⟨f.s,by simp[cenv,Gc],λ_ z=>z,λj d q=>?_,λj es q=>?_,λj _ es _ _ q _ _ _=>?_⟩
 .obtain⟨i,d',h0,h1,h2,h3⟩:=JK q
  cases h3
  clear 5(f.val i d h2)v h4 h5;refine⟨v,?_,h5⟩;unfold Gc;rw[ua7 (by simpa using h0),uc8,uf4,h1];simp[h4]
 .obtain⟨_,_,_,_,_,h⟩:=JK q;cases h
 .obtain⟨_,_,_,_,_,h⟩:=JK q;cases h
set_option tactic.hygienic true in
theorem RF.comp{f:M (List D)}{st:D->M Unit}{tst:M Bool}{elt:M D}{Q:VK}(q:RF K (CL n fr f st tst elt) σ H Q):Mz (RI K f) (RG K st) (RT K tst) (RE K elt) (Gc n fr) σ H Q:=by
 clear 5 q Oo c t fi xs t' eq k;clear 5(Ai eq)ds t1 e1 eq;refine⟨Oo,c,t,fi,ds,t1,e1,λJ H1 c1 f1 s1 it=>?_⟩
 cases e3:CK st tst elt ds ⟨cenv n fr t1.env,t1.S⟩ with
 |none=>rw[e3] at eq;cases eq
 |some p=>
   clear 5 p ys t3;rw[e3] at eq;dsimp only at eq
   split at eq
   case isFalse=>cases eq
   next hl=>
   cases eq
   refine⟨λi m acc σ' H'=>m=ds.length-i/\i<=ds.length/\∃c' t2 zs rest,FInv K c1.O c' t2 σ' H'/\Stp c1.O c1 H1 c' H'/\Reps K c' H' acc zs/\CK st tst elt (ds.drop i) t2=some (rest,t3)/\xs=zs++rest,
    ⟨_,rfl,um6 _,c1,_,[],xs,Kt f1,.refl,.nil,by rw[uk0];exact e3,rfl⟩,?_⟩
   rintro i m acc σ' H' ⟨rfl,hi,c',t2,zs,rest,f2,s2,ra,e2,ez⟩;have hacc:acc.length<=sizeLine:=by
    have:zs.length<=xs.length:=by rw[ez,ue6];exact uh3 _ _
    rw[ra.length];exact ul7 this (ul7 hl DG)
   refine⟨hacc,?_⟩
   by_cases hlt:i<ds.length
   .refine .inr ⟨it.go c' H' i s2.ext hlt,λx H'' hy=>?_⟩;clear 5(it.yld c' H' i x H'' _ s2.ext (ub3 hlt) hy)rfl rx;rw[ub2 hlt] at e2;unfold CK at e2;clear 5(Ai e2)u t4 e4 e2;clear 5(Ai e2)kb t5 e5 e2;refine⟨c1.O,c',t2,_,f2,rx,t4,e4,λσ3 H3 c3 f3 s3=>⟨c1.O,c3,t4,f3,kb,t5,e5,λH4 c4 f4 s4=>?_⟩⟩
    cases kb with
    |false=>
      rw[lE ue3] at e2⊢;exact⟨ds.length-(i+1),by lia,rfl,hlt,c4,t5,zs,rest,f4,(s2.trans s3).trans s4,ra.mono (s3.trans s4).ext,e2,ez⟩
    |true=>
      rw[lD rfl] at e2⊢;clear 5(Ai e2)x6 t6 e6 e2;clear 5(Ai e2)r7 t7 e7 e2
      cases e2
      refine⟨c1.O,c4,t5,f4,x6,t6,e6,λv H5 c5 f5 s5 rv=>?_⟩;exact⟨ds.length-(i+1),by lia,rfl,hlt,c5,t6,zs++[x6],r7,f5,((s2.trans s3).trans s4).trans s5,(ra.mono ((s3.trans s4).trans s5).ext).append (.cons rv .nil),e7,by rw[ez,uf7];rfl⟩
   .have hi':i=ds.length:=by lia
    subst hi';rw[uh2] at e2
    cases e2
    refine .inl ⟨it.stop c' H' s2.ext,λp hp _=>?_⟩;clear 5 f2.leave si ext;clear 5(f1.after si ⟨s2.ext.trans ext,s2.oo⟩ (λ_=>lz))f6 s6;rw[ui4] at ez;subst ez;exact k p acc H' _ f6 (s1.trans s6) (ra.mono ext) hp
end
end
open PySem.SeqAt
noncomputable def eq0:D->D->Option Bool
 |.int a,.int b=>some (a==b)
 |.str a,.str b=>some (a==b)
 |.bl a,.bl b=>some (a==b)
 |.non,.non=>some true
 |.non,.tup _=>some false
 |_,_=>none
noncomputable def DS(f:D->D->Option Bool):List D->List D->Option Bool
 |x::xs,y::ys=>match f x y,DS f xs ys with
   |some a,some b=>some (a&&b)
   |_,_=>none
 |_,_=>some true
def eqN:Nat->D->D->Option Bool
 |0,x,y=>eq0 x y
 |n+1,.tup xs,.tup ys=>(DS (eqN n) xs ys).map λb=>b&&xs.length==ys.length
 |n+1,.lst xs,.lst ys=>if xs.length=ys.length then DS (eqN n) xs ys else some false
 |_+1,x,y=>eq0 x y
noncomputable def ej(f:D->D->Option Bool)(xs ys:List D)(j:Nat):Bool:=match xs[j]?,ys[j]? with
 |some d,some e=>(f d e).getD true
 |_,_=>true
theorem D2{f:D->D->Option Bool}:∀{xs ys:List D}{b:Bool},DS f xs ys=some b->b=(List.range (min xs.length ys.length)).all (ej f xs ys)/\∀(j:Nat) d e,xs[j]?=some d->ys[j]?=some e->∃k,f d e=some k
 |[],ys,b,h=>by
   have h:some true=some b:=by simpa[DS] using h
   cases h
   refine⟨by simp,λj d e q _=>by simp at q⟩
 |x::xs,[],b,h=>by
   have h:some true=some b:=by simpa[DS] using h
   cases h
   refine⟨by simp,λj d e _ q=>by simp at q⟩
 |x::xs,y::ys,b,h=>by
   unfold DS at h
   cases e1:f x y with
   |none=>rw[e1] at h;cases h
   |some a=>
     cases e2:DS f xs ys with
     |none=>rw[e1,e2] at h;cases h
     |some c=>
       rw[e1,e2] at h
       cases h
       clear 5(D2 e2)h1 h2;refine⟨?_,λj d e q1 q2=>?_⟩
       .have hm:min (x::xs).length (y::ys).length=min xs.length ys.length+1:=by simp[Nat.succ_min_succ]
        rw[hm,List.range_succ_eq_map,uk6,um1,h1];have:ej f (x::xs) (y::ys) 0=a:=by simp[ej,e1]
        rw[this];rfl
       .cases j with
        |zero=>simp at q1 q2;subst q1 q2;exact⟨a,e1⟩
        |succ j=>exact h2 j d e (by simpa using q1) (by simpa using q2)
section
variable{P:im}{w:ir}{H:Hp}{vs:List V}
theorem HC{h:Heap}{a:ig}(o:HOk P w H h)(e:H a=some (.lst vs)):∃its:List ie,Vals vs its/\h.IsList a its.toArray:=by
 obtain⟨_,its,n,r,q⟩:=o a _ e;exact⟨its,r,_,q,rfl,n,rfl⟩
theorem FV{h:Heap}{a:ig}(o:HOk P w H h)(e:H a=some (.tup vs)):∃its:List ie,Vals vs its/\h.IsTuple a its.toArray:=by
 obtain⟨_,its,r,q⟩:=o a _ e;exact⟨its,r,q⟩
theorem KP{its:List ie}{j:Nat}(r:Vals vs its)(h:j<its.toArray.size):∃v,vs[j]?=some v/\RelV v its.toArray[j]:=by
 have h':j<its.length:=by simpa using h
 have hl:j<vs.length:=by rw[r.length];exact h'
 clear 5(r.get (ub3 hl))u e1 e2;refine⟨vs[j],ub3 hl,?_⟩;rw[ub3 h'] at e1
 cases e1
 simpa using e2
variable{b:Bool}
theorem QQ{f:D->D->Option Bool}{xs ys:List D}(h:DS f xs ys=some b)(ht:∀(j:Nat) d e k,xs[j]?=some d->ys[j]?=some e->f d e=some k->k=true):b=true:=by
 clear 5(D2 h)h1 h2;rw[h1,uh4];intro j hj;have hj':=uj6.mp hj;have l1:j<xs.length:=by lia
 have l2:j<ys.length:=by lia
 clear 5(h2 j _ _ (ub3 l1) (ub3 l2))k ek;have:=ht j _ _ k (ub3 l1) (ub3 l2) ek;unfold ej;rw[ub3 l1,ub3 l2];simp[ek,this]
theorem Ir{x y:D}(e:eq0 x y=some b):(∃i j,x=.int i/\y=.int j/\(i==j)=b)\/(∃i j,x=.str i/\y=.str j/\(i==j)=b)\/(∃i j,x=.bl i/\y=.bl j/\(i==j)=b)\/(x=.non/\y=.non/\true=b)\/(∃ys,x=.non/\y=.tup ys/\false=b):=by
 unfold eq0 at e
 split at e
 .cases e;exact .inl ⟨_,_,rfl,rfl,rfl⟩
 .cases e;exact .inr (.inl ⟨_,_,rfl,rfl,rfl⟩)
 .cases e;exact .inr (.inr (.inl ⟨_,_,rfl,rfl,rfl⟩))
 .cases e;exact .inr (.inr (.inr (.inl ⟨rfl,rfl,rfl⟩)))
 .cases e;exact .inr (.inr (.inr (.inr ⟨_,rfl,rfl,rfl⟩)))
 .cases e
theorem Iu{n:Nat}{x y:D}(e:eqN n x y=some b):eq0 x y=some b\/(∃m xs ys,n=m+1/\x=.lst xs/\y=.lst ys/\(if xs.length=ys.length then DS (eqN m) xs ys else some false)=some b)\/∃m xs ys b',n=m+1/\x=.tup xs/\y=.tup ys/\DS (eqN m) xs ys=some b'/\(b'&&xs.length==ys.length)=b:=by
 unfold eqN at e
 split at e
 .exact .inl e
 .clear 5(uc1.mp e)b' e1 e2;exact .inr (.inr ⟨_,_,_,b',rfl,rfl,rfl,e1,e2⟩)
 .exact .inr (.inl ⟨_,_,_,rfl,rfl,rfl,e⟩)
 .exact .inl e
variable{K:ib}{c:Cf}
def Rpv(K:ib)(c:Cf)(H:Hp)(v:V):D->Prop
 |.non=>v=.non
 |.bl b=>v=.bl b
 |.int i=>v=.int i
 |.str x=>v=.str x
 |.tup ds=>∃a vs,v=.ref a/\H a=some (.tup vs)/\Reps K c H vs ds
 |.lst ds=>∃a vs,v=.ref a/\H a=some (.lst vs)/\¬c.A a/\Reps K c H vs ds
 |_=>True
theorem Rep.rv{v:V}{d:D}(h:Rep K c H v d):Rpv K c H v d:=by cases h<;>first|rfl|trivial|exact⟨_,_,rfl,by assumption,by assumption⟩|exact⟨_,_,rfl,by assumption,by assumption,by assumption⟩
theorem Ou:∀(n:Nat){v:V}{d e:D}{b:Bool},Rep K c H v d->Rep K c H v e->eqN n d e=some b->b=true
 :=by
  intro n
  induction n using Nat.strongRecOn with
  |ind n ih=>
  intro v d e b rd re q;have items:∀{m:Nat}{vs:List V}{ds es:List D}{b':Bool},n=m+1->Reps K c H vs ds->Reps K c H vs es->DS (eqN m) ds es=some b'->b'=true:=λ{m vs ds es b'} hm r1 r2 e'=>
   QQ e' λj d e k q1 q2 ek=>by
    clear 5(r1.at q1)v g1 g2;exact ih m (by lia) g2 (r2.get g1 q2) ek
  rcases Iu q with q0|⟨m,ds,es,hm,rfl,rfl,q0⟩|⟨m,ds,es,b',hm,rfl,rfl,q1,q2⟩
  .rcases Ir q0 with⟨i,j,rfl,rfl,rfl⟩|⟨i,j,rfl,rfl,rfl⟩|⟨i,j,rfl,rfl,rfl⟩|⟨rfl,rfl,rfl⟩|⟨ys,rfl,rfl,rfl⟩
   .have h:=rd.rv.symm.trans re.rv;cases h;simp
   .have h:=rd.rv.symm.trans re.rv;cases h;simp
   .have h:=rd.rv.symm.trans re.rv;cases h;simp
   .rfl
   .obtain⟨a,vs,e,_⟩:=re.rv;cases (show V.non=_ from rd.rv.symm.trans e)
  .obtain⟨a,vs,rfl,h1,_,h3⟩:=rd.rv
   .obtain⟨_,ws,k,g1,_,g3⟩:=re.rv
    .  cases k
       rw[h1] at g1;cases g1
       rw[lD (h3.length.symm.trans g3.length)] at q0;exact items hm h3 g3 q0
  .obtain⟨a,vs,rfl,h1,h3⟩:=rd.rv
   .obtain⟨_,ws,k,g1,g3⟩:=re.rv
    .  cases k
       rw[h1] at g1;cases g1
       rw[<-q2,items hm h3 g3 q1,h3.length.symm.trans g3.length];simp
theorem Lg{s:ij}(hok:HOk P w H s.heap):∀(n:Nat){A:Around}{x y:V}{u v:ie}{dx dy:D}{b:Bool},RelV x u->RelV y v->Rep K c H x dx->Rep K c H y dy->eqN n dx dy=some b->A.units+n<cLine->
 RcAt A s u v b/\(EqAt A s u v b)
 :=by
  intro n
  induction n using Nat.strongRecOn with
  |ind n ih=>
  intro A x y u v dx dy b ru rv rx ry e hu;have items:∀{m:Nat}{vs ws:List V}{is js:List ie}{ds es:List D}{b':Bool},n=m+1->Vals vs is->Vals ws js->Reps K c H vs ds->Reps K c H ws es->DS (eqN m) ds es=some b'->
   ∀j (h1:j<is.toArray.size) (h2:j<js.toArray.size),EqAt A.in1 s is.toArray[j] js.toArray[j] (ej (eqN m) ds es j):=λ{m vs ws is js ds es b'} hm r1 r2 q1 q2 e' j h1 h2=>by
   clear 5(KP r1 h1)v1 a1 a2;clear 5(KP r2 h2)v2 b1 b2;clear 5(ub0.mp a1)l1 g1;clear 5(ub0.mp b1)l2 g2;have k1:ds[j]?=some (ds[j]'(by rw[<-q1.length];exact l1)):=ub3 _;have k2:es[j]?=some (es[j]'(by rw[<-q2.length];exact l2)):=ub3 _;clear 5((D2 e').2 j _ _ k1 k2)kk ek;have:ej (eqN m) ds es j=kk:=by unfold ej;rw[k1,k2];simp[ek]
   rw[this];have hu':A.in1.units+m<cLine:=by
    have:A.in1.units=A.units+1:=by first|rfl|exact Around.units_in1 _|simp[Around.in1,Around.units]
    lia
   exact(ih m (by lia) a2 b2 (q1.get a1 k1) (q2.get b1 k2) ek hu').2
  have hu0:A.units<cLine:=by lia
  have conc:∀{p q:ig}{k:Bool},p≠q->RcAt A s (.ref p) (.ref q) k->RcAt A s (.ref p) (.ref q) k/\EqAt A s (.ref p) (.ref q) k:=λhn h=>⟨h,EqAt.of_refs hn h⟩;rcases Iu e with e0|⟨m,ds,es,hm,rfl,rfl,e0⟩|⟨m,ds,es,b',hm,rfl,rfl,e1,e2⟩
  .rcases Ir e0 with⟨i,j,rfl,rfl,rfl⟩|⟨i,j,rfl,rfl,rfl⟩|⟨i,j,rfl,rfl,rfl⟩|⟨rfl,rfl,rfl⟩|⟨ys,rfl,rfl,rfl⟩
   .cases (show x=_ from rx.rv);cases (show y=_ from ry.rv);clear 5 ru t' rfl;clear 5 rv t rfl;exact⟨RcAt.int_int _ _ _ _,EqAt.int_int _ _ _ _⟩
   .cases (show x=_ from rx.rv);cases (show y=_ from ry.rv);clear 5 ru t' rfl;clear 5 rv t rfl;exact⟨RcAt.str_str _ _ _ _,EqAt.str_str _ _ _ _⟩
   .cases (show x=_ from rx.rv);cases (show y=_ from ry.rv);cases ru;cases rv;exact⟨RcAt.bool_bool _ _,EqAt.bool_bool _ _⟩
   .cases (show x=_ from rx.rv);cases (show y=_ from ry.rv);cases ru;cases rv;exact⟨RcAt.none_none,EqAt.same _⟩
   .cases (show x=_ from rx.rv);obtain⟨_,_,rfl,h1,_⟩:=ry.rv;cases ru;cases rv;clear 5(FV hok h1)its r l;exact⟨RcAt.none_tuple l hu0,EqAt.none_tuple l hu0⟩
  .obtain⟨p,vs,rfl,g1,g2,g3⟩:=rx.rv
   .obtain⟨q,ws,rfl,h1,h2,h3⟩:=ry.rv
    .
     cases ru
     cases rv
     clear 5(HC hok g1)is r1 l1;clear 5(HC hok h1)js r2 l2;have hs1:is.toArray.size=ds.length:=by rw[<-g3.length,r1.length];simp
     have hs2:js.toArray.size=es.length:=by rw[<-h3.length,r2.length];simp
     by_cases hl:ds.length=es.length
     .rw[lD hl] at e0;have hsz:is.toArray.size=js.toArray.size:=by rw[hs1,hs2,hl]
      have rc:=RcAt.lists l1 l2 hsz hu0 (items hm r1 r2 g3 h3 e0);have eb:(List.range is.toArray.size).all (ej (eqN m) ds es)=b:=by rw[(D2 e0).1,hs1,<-hl,Nat.min_self]
      rw[eb] at rc
      by_cases hpq:p=q
      .refine⟨rc,?_⟩;subst hpq;rw[Ou n rx ry e];exact EqAt.same _
      .exact conc hpq rc
     .rw[lE hl] at e0
      cases e0
      have hsz:(is.toArray.size != js.toArray.size)=true:=by rw[hs1,hs2];simpa using hl
      refine conc (λz=>hl ?_) (RcAt.lists_lengths l1 l2 hsz hu0);subst z;rw[g1] at h1;cases h1
      rw[<-g3.length,<-h3.length]
  .obtain⟨p,vs,rfl,g1,g3⟩:=rx.rv
   .obtain⟨q,ws,rfl,h1,h3⟩:=ry.rv
    .
     cases ru
     cases rv
     clear 5(FV hok g1)is r1 l1;clear 5(FV hok h1)js r2 l2;have hs1:is.toArray.size=ds.length:=by rw[<-g3.length,r1.length];simp
     have hs2:js.toArray.size=es.length:=by rw[<-h3.length,r2.length];simp
     have rc:=RcAt.tuples l1 l2 hu0 (items hm r1 r2 g3 h3 e1);have eb:((List.range (min is.toArray.size js.toArray.size)).all (ej (eqN m) ds es)&&is.toArray.size==js.toArray.size)=b:=by rw[hs1,hs2,<-(D2 e1).1];exact e2
     rw[eb] at rc
     by_cases hpq:p=q
     .refine⟨rc,?_⟩;subst hpq;rw[Ou n rx ry e];exact EqAt.same _
     .exact conc hpq rc
theorem Wp{s:ij}(hok:HOk P w H s.heap)(n:Nat){A:Around}{x y:V}{u v:ie}{dx dy:D}{b:Bool}(ru:RelV x u)(rv:RelV y v)(rx:Rep K c H x dx)(ry:Rep K c H y dy)(e:eqN n dx dy=some b)(hu:A.units+n<cLine) :
 RcNeAt A s u v (!b):=by
 have items:∀{m:Nat}{vs ws:List V}{is js:List ie}{ds es:List D}{b':Bool},n=m+1->Vals vs is->Vals ws js->Reps K c H vs ds->Reps K c H ws es->DS (eqN m) ds es=some b'->
  ∀j (h1:j<is.toArray.size) (h2:j<js.toArray.size),EqAt A.in1 s is.toArray[j] js.toArray[j] (ej (eqN m) ds es j):=λ{m vs ws is js ds es b'} hm r1 r2 q1 q2 e' j h1 h2=>by
  clear 5(KP r1 h1)v1 a1 a2;clear 5(KP r2 h2)v2 b1 b2;clear 5(ub0.mp a1)l1 g1;clear 5(ub0.mp b1)l2 g2;have k1:ds[j]?=some (ds[j]'(by rw[<-q1.length];exact l1)):=ub3 _;have k2:es[j]?=some (es[j]'(by rw[<-q2.length];exact l2)):=ub3 _;clear 5((D2 e').2 j _ _ k1 k2)kk ek;have:ej (eqN m) ds es j=kk:=by unfold ej;rw[k1,k2];simp[ek]
  rw[this];have hu':A.in1.units+m<cLine:=by
   have:A.in1.units=A.units+1:=rfl;lia
  exact(Lg hok m a2 b2 (q1.get a1 k1) (q2.get b1 k2) ek hu').2
 have hu0:A.units<cLine:=by lia
 rcases Iu e with e0|⟨m,ds,es,hm,rfl,rfl,e0⟩|⟨m,ds,es,b',hm,rfl,rfl,e1,e2⟩
 .rcases Ir e0 with⟨i,j,rfl,rfl,rfl⟩|⟨i,j,rfl,rfl,rfl⟩|⟨i,j,rfl,rfl,rfl⟩|⟨rfl,rfl,rfl⟩|⟨ys,rfl,rfl,rfl⟩
  .cases (show x=_ from rx.rv);cases (show y=_ from ry.rv);clear 5 ru t' rfl;clear 5 rv t rfl;exact RcNeAt.int_int _ _ _ _
  .cases (show x=_ from rx.rv);cases (show y=_ from ry.rv);clear 5 ru t' rfl;clear 5 rv t rfl;exact RcNeAt.str_str _ _ _ _
  .cases (show x=_ from rx.rv);cases (show y=_ from ry.rv);cases ru;cases rv;exact RcNeAt.bool_bool _ _
  .cases (show x=_ from rx.rv);cases (show y=_ from ry.rv);cases ru;cases rv;exact RcNeAt.none_none
  .cases (show x=_ from rx.rv);obtain⟨_,_,rfl,h1,_⟩:=ry.rv;cases ru;cases rv;clear 5(FV hok h1)its r l;exact RcNeAt.none_tuple l hu0
 .obtain⟨p,vs,rfl,g1,g2,g3⟩:=rx.rv
  .obtain⟨q,ws,rfl,h1,h2,h3⟩:=ry.rv
   .
    cases ru
    cases rv
    clear 5(HC hok g1)is r1 l1;clear 5(HC hok h1)js r2 l2;have hs1:is.toArray.size=ds.length:=by rw[<-g3.length,r1.length];simp
    have hs2:js.toArray.size=es.length:=by rw[<-h3.length,r2.length];simp
    by_cases hl:ds.length=es.length
    .rw[lD hl] at e0;have hsz:is.toArray.size=js.toArray.size:=by rw[hs1,hs2,hl]
     have rc:=RcNeAt.lists l1 l2 hsz hu0 (items hm r1 r2 g3 h3 e0);rw[show(List.range is.toArray.size).all (ej (eqN m) ds es)=b by rw[(D2 e0).1,hs1,<-hl,Nat.min_self]] at rc;exact rc
    .rw[lE hl] at e0
     cases e0
     exact RcNeAt.lists_lengths l1 l2 (by rw[hs1,hs2];simpa using hl) hu0
 .obtain⟨p,vs,rfl,g1,g3⟩:=rx.rv
  .obtain⟨q,ws,rfl,h1,h3⟩:=ry.rv
   .
    cases ru
    cases rv
    clear 5(FV hok g1)is r1 l1;clear 5(FV hok h1)js r2 l2;have hs1:is.toArray.size=ds.length:=by rw[<-g3.length,r1.length];simp
    have hs2:js.toArray.size=es.length:=by rw[<-h3.length,r2.length];simp
    have rc:=RcNeAt.tuples l1 l2 hu0 (items hm r1 r2 g3 h3 e1);have eb:((List.range (min is.toArray.size js.toArray.size)).all (ej (eqN m) ds es)&&is.toArray.size==js.toArray.size)=b:=by rw[hs1,hs2,<-(D2 e1).1];exact e2
    rw[eb] at rc;exact rc
def EQD:Nat:=40
def neD(x y:D):M D:=λt=>(eqN EQD x y).map λb=>(.bl (!b),t)
def Uo(K:ib)(g:Bool->Bool):R2:=λx y H Q=>∃c dx dy b,Rep K c H x dx/\Rep K c H y dy/\eqN EQD dx dy=some b/\Q (.bl (g b)) H
theorem RN{X:Cx}(hu:X.A.units+64<cLine):OpR X (compareOp .Eq) (Uo X.K id):=by
 intro ic s σ H x y v u Q I rx ry h;clear 5 h c dx dy b q1 q2 e q;have hu':X.A.units+EQD<cLine:=by unfold EQD;lia
 exact(Lg I.hok EQD rx ry q1 q2 e hu').1 X.prog X.w _ _ ⟨.bl b,H,I,rfl,q⟩
theorem RY{X:Cx}(hu:X.A.units+64<cLine):OpR X (compareOp .NotEq) (Uo X.K (!·)):=by
 intro ic s σ H x y v u Q I rx ry h;clear 5 h c dx dy b q1 q2 e q;have hu':X.A.units+EQD<cLine:=by unfold EQD;lia
 exact Wp I.hok EQD rx ry q1 q2 e hu' X.prog X.w _ _ ⟨.bl (!b),H,I,rfl,q⟩
end
section
variable{g:Int->Int->D}{t:T}{z:D×T}{X:Cx}{c:Cf}{H:Hp}
section
variable{K:ib}
def i2(g:Int->Int->D):D->D->M D
 |.int i,.int j=>ret (g i j)
 |_,_=>fail
theorem YK{x y:D}(h:i2 g x y t=some z):∃i j,x=.int i/\y=.int j/\z=(g i j,t):=by
 cases x with
 |int i=>cases y with
   |int j=>cases h;exact⟨i,j,rfl,rfl,rfl⟩
   |_=>cases h
 |_=>cases h
theorem ad{gV:Int->Int->V}(hr:∀i j c H,Rep K c H (gV i j) (g i j)):BE K (rI0 gV) (i2 g):=λ{Oo c t σ H x y dx dy r t' Q} f rx ry eq k=>by
 clear 5(YK eq)i j rfl rfl z
 cases z
 cases rx
 cases ry
 exact⟨i,j,rfl,rfl,k _ H c f .refl (hr i j c H)⟩
def i2C(C:Int->Int->Bool)(g:Int->Int->D):D->D->M D
 |.int i,.int j=>λt=>if C i j=true then some (g i j,t) else none
 |_,_=>fail
theorem V6{C:Int->Int->Bool}{x y:D}(h:i2C C g x y t=some z):∃i j,x=.int i/\y=.int j/\C i j=true/\z=(g i j,t):=by
 cases x with
 |int i=>cases y with
   |int j=>
     unfold i2C at h;dsimp only at h
     by_cases hc:C i j=true
     .rw[lD hc] at h;cases h;exact⟨i,j,rfl,rfl,hc,rfl⟩
     .rw[lE hc] at h;cases h
   |_=>cases h
 |_=>cases h
theorem LB{P:Int->Int->Prop}{C:Int->Int->Bool}{gV:Int->Int->V}(hP:∀i j,C i j=true->P i j)(hr:∀i j c H,Rep K c H (gV i j) (g i j)):BE K (rI P gV) (i2C C g):=λ{Oo c t σ H x y dx dy r t' Q} f rx ry eq k=>by
 clear 5(V6 eq)i j rfl rfl hc z
 cases z
 cases rx
 cases ry
 exact⟨i,j,rfl,rfl,hP i j hc,k _ H c f .refl (hr i j c H)⟩
def CO:=i2 λi j=>.int (i-j)
noncomputable def Mu(_ j:Int):Bool:=decide (0<j)&&decide (j<1073741824)
def Bv:=i2C Mu λi j=>.int (i/j)
def Bz:=i2C (λ_ j=>decide (0<j)) λi j=>.int (i%j)
noncomputable def Va(i j:Int):Bool:=decide (0<=j)&&decide (j<=1000000)&&decide (i.natAbs<2 ^ 64)
def d5:=i2C Va λi j=>.int (i ^ j.toNat)
noncomputable def FP(i j:Int):Bool:=(decide (-(2 ^ 64)<i)&&decide (i<2 ^ 64))||(decide (-(2 ^ 64)<j)&&decide (j<2 ^ 64))
def NT:=i2C (λ_ j=>decide (0<=j)) λi j=>.int (i/2 ^ j.toNat)
theorem Xm:BE K (rI0 λi j=>.int (i-j)) CO:=ad λi j _ _=>.int _
theorem Ux:BE K (rI XN λi j=>.int (i/j)) Bv:=LB (λi j h=>by
 unfold Mu at h;rw[ug9] at h;exact⟨ug3 h.1,ug3 h.2⟩) λi j _ _=>.int _
theorem Xi:BE K (rI (λ_ j=>0<j) λi j=>.int (i%j)) Bz:=LB (λi j h=>ug3 h) λi j _ _=>.int _
theorem Xl:BE K (rI (λ_ j=>0<=j) λi j=>.int (i/2 ^ j.toNat)) NT:=LB (λi j h=>ug3 h) λi j _ _=>.int _
theorem Ry{i j:Int}(h:FP i j=true):CMul i j:=by
 unfold FP at h;rw[Bool.or_eq_true,ug9,ug9] at h;rcases h with h|h
 .exact .inl ⟨ug3 h.1,ug3 h.2⟩
 .exact .inr ⟨ug3 h.1,ug3 h.2⟩
def dW:D->M D
 |.int i=>ret (.int (-i))
 |_=>fail
def XW:D->D->M D
 |.int i,.int j=>ret (.int (i+j))
 |.str x,.str y=>lim (x.length+y.length) (.str (x++y))
 |.lst xs,.lst ys=>lim (xs.length+ys.length) (.lst (xs++ys))
 |_,_=>fail
def WX:R2:=λx y H Q=>∃i j,x=.str i/\y=.str j/\i.length+j.length<=sizeLine/\Q (.str (i++j)) H
def Qf(K:ib):R2:=λx y H Q=>rI0 (λi j=>.int (i+j)) x y H Q\/(WX x y H Q\/Um x y H Q)
theorem Ww:OpR X (binaryOp .Add) (Qf X.K):=op_add.or (op_add_str.or RM)
theorem W8:BE K (Qf K) XW:=λ{Oo c t σ H x y dx dy r t' Q} f rx ry eq k=>by
 cases rx with
 |int i=>
   cases ry with
   |int j=>cases eq;exact .inl ⟨i,j,rfl,rfl,k _ H c f .refl (.int _)⟩
   |_=>cases eq
 |str i=>
   cases ry with
   |str j=>
     clear 5(EE eq)h z
     cases z
     exact .inr (.inl ⟨i,j,rfl,rfl,ul7 h DG,k _ H c f .refl (.str _)⟩)
   |_=>cases eq
 |@lst a vs ds h1 h2 h3=>
   cases ry with
   |@lst b ws es g1 g2 g3=>
     clear 5(EE eq)h z
     cases z
     refine .inr (.inr ⟨a,b,vs,ws,rfl,rfl,h1,g1,?_,λp hp=>?_⟩)
     .rw[h3.length,g3.length];exact ul7 h DG
     .exact k _ _ c (f.laid hp) (f.stp_laid hp) (.lst AG (f.s.free hp) ((h3.append g3).mono (Ext.laid f.s hp)))
   |_=>cases eq
 |_=>cases eq
def Io:D->D->M (List D)
 |.lst xs,.lst ys=>lim (xs.length+ys.length) (xs++ys)
 |_,_=>fail
theorem Uv:Pg K Um Io:=λ{Oo c t σ H x y dx dy r t' Q} f rx ry eq k=>by
 cases rx with
 |@lst a vs ds h1 h2 h3=>
   cases ry with
   |@lst b ws es g1 g2 g3=>
     clear 5(EE eq)h z
     cases z
     refine⟨a,b,vs,ws,rfl,rfl,h1,g1,?_,λp hp=>k p _ H c f .refl (h3.append g3) hp⟩;rw[h3.length,g3.length];exact ul7 h DG
   |_=>cases eq
 |_=>cases eq
def isC:D->D->M D
 |x,.non=>λt=>some (.bl (match x with | .non=>true|_=>false),t)
 |x,.bl b=>λt=>some (.bl (match x with | .bl c=>c==b|_=>false),t)
 |_,_=>fail
def Ri(x y:D):M D:=bnd (isC x y) λd=>match d with | .bl b=>ret (.bl (!b))|_=>fail
def rIs(g:Bool->Bool):R2:=λx y H Q=>(y=.non\/∃b,y=.bl b)/\Q (.bl (g (decide (x=y)))) H
theorem Vv{x y:V}{v u:ie}(rx:RelV x v)(ry:RelV y u)(hy:y=.non\/∃b,y=.bl b):plainIs v u=true/\(v==u)=decide (x=y):=by
 rcases hy with rfl|⟨b,rfl⟩
 .cases ry
  cases x with
  |non=>cases rx;exact⟨rfl,by simp⟩
  |bl _=>cases rx;exact⟨rfl,by simp⟩
  |int _=>clear 5 rx t rfl;exact⟨rfl,by simp⟩
  |str _=>clear 5 rx t rfl;exact⟨rfl,by simp⟩
  |byt _=>clear 5 rx t rfl;exact⟨rfl,by simp⟩
  |flt _=>clear 5 rx t rfl;exact⟨rfl,by simp⟩
  |ref _=>cases rx;exact⟨rfl,by simp⟩
  |ty _=>cases rx;exact⟨rfl,by simp⟩
 .cases ry
  cases x with
  |non=>cases rx;exact⟨rfl,by simp⟩
  |bl c=>cases rx;exact⟨rfl,by simp;cases c<;>cases b<;>rfl⟩
  |int _=>clear 5 rx t rfl;exact⟨rfl,by simp⟩
  |str _=>clear 5 rx t rfl;exact⟨rfl,by simp⟩
  |byt _=>clear 5 rx t rfl;exact⟨rfl,by simp⟩
  |flt _=>clear 5 rx t rfl;exact⟨rfl,by simp⟩
  |ref _=>cases rx;exact⟨rfl,by simp⟩
  |ty _=>cases rx;exact⟨rfl,by simp⟩
theorem RV:OpR X (compareOp .Is) (rIs id):=by
 intro ic s σ H x y v u Q I rx ry h;clear 5 h hy q;clear 5(Vv rx ry hy)h1 h2;exact wpAny_is_plain h1 ⟨.bl _,H,I,by rw[h2];rfl,q⟩
set_option tactic.hygienic true in
theorem V7{x y:V}{dx dy:D}(rx:Rep K c H x dx)(ry:Rep K c H y dy)(eq:isC dx dy t=some z):(y=.non\/∃b,y=.bl b)/\z=(.bl (decide (x=y)),t):=by
 cases ry with
 |non=>
   refine⟨.inl rfl,?_⟩
   cases rx<;>(cases eq;first|rfl|simp)
 |bl b=>
   refine⟨.inr ⟨b,rfl⟩,?_⟩
   cases rx<;>(cases eq;first|rfl|simp)
   next a=>cases a<;>cases b<;>rfl
 |_=>cases eq
theorem So:BE K (rIs id) isC:=λ{Oo c t σ H x y dx dy r t' Q} f rx ry eq k=>by
 clear 5(V7 rx ry eq)h z
 cases z
 exact⟨h,k _ H c f .refl (.bl _)⟩
noncomputable def Kv:D->Bool
 |.non=>true | .bl _=>true | .int _=>true | .str _=>true|_=>false
noncomputable def KL:D->Option (List D)
 |.lst ds=>some ds
 |.tup ds=>some ds
 |.gts xs=>some (xs.map .str)
 |_=>none
noncomputable def toV:D->V
 |.bl b=>.bl b | .int i=>.int i | .str x=>.str x|_=>.non
theorem Ff{v:V}{d:D}(r:Rep K c H v d)(h:Kv d=true):v=toV d:=by cases r<;>first|rfl|cases h
theorem EJ{c:Cf}{H:Hp}:∀{vs:List V}{ds:List D},Reps K c H vs ds->ds.all Kv=true->vs=ds.map toV
 |_,_,.nil,_=>rfl
 |_,_,.cons r t,h=>by
   rw[uk6,ug9] at h;rw[uk4,Ff r h.1,EJ t h.2]
theorem E8:∀d:D,FM (toV d)=true:=λd=>by cases d<;>rfl
def inD(neg:Bool)(x y:D):M D:=λt=>match KL y with
 |some ds=>if Kv x=true/\ds.all Kv=true then some (.bl (if neg then !inV (toV x) (ds.map toV) else inV (toV x) (ds.map toV)),t) else none
 |none=>none
set_option tactic.hygienic true in
theorem ae{neg:Bool}:BE K (rIn K neg) (inD neg):=λ{Oo c t σ H x y dx dy r t' Q} f rx ry eq k=>by
 unfold inD at eq
 cases ry with
 |@lst a vs ds h1 h2 h3=>
   dsimp only[KL] at eq
   split at eq
   .next h=>
    cases eq
    refine⟨a,vs,rfl,.inl (SqL.of h1),?_,?_,?_⟩
    .rw[Ff rx h.1];exact E8 _
    .rw[EJ h3 h.2,um1,uh4];exact λd _=>E8 d
    .rw[Ff rx h.1,EJ h3 h.2];exact k _ H c f .refl (.bl _)
   .cases eq
 |@tup a vs ds h1 h2 h3=>
   dsimp only[KL] at eq
   split at eq
   .next h=>
    cases eq
    refine⟨a,vs,rfl,.inr (SqT.of h1),?_,?_,?_⟩
    .rw[Ff rx h.1];exact E8 _
    .rw[EJ h3 h.2,um1,uh4];exact λd _=>E8 d
    .rw[Ff rx h.1,EJ h3 h.2];exact k _ H c f .refl (.bl _)
   .cases eq
 |@gts a xs hk=>
   dsimp only[KL] at eq
   split at eq
   .next h=>
    cases eq
    have h3:Reps K c H (xs.map V.str) (xs.map D.str):=Reps.strs xs;refine⟨a,_,rfl,.inr (.inr hk),?_,?_,?_⟩
    .rw[Ff rx h.1];exact E8 _
    .rw[EJ h3 h.2,um1,uh4];exact λd _=>E8 d
    .rw[Ff rx h.1,EJ h3 h.2];exact k _ H c f .refl (.bl _)
   .cases eq
 |_=>cases eq
def ixD:D->D->M D
 |.lst ds,.int i=>λt=>(atI ds i).map λd=>(d,t)
 |.tup ds,.int i=>λt=>(atI ds i).map λd=>(d,t)
 |.scr ns,.int i=>λt=>(atI ns i).map λn=>(.int n,t)
 |.str x,.int i=>λt=>if x.length<=LIM then(atI x.cps.toList i).map λn=>(.str ⟨#[n]⟩,t) else none
 |.obj k,.int i=>λt=>match t.S[k]? with
   |some (.lst ds)=>(atI ds i).map λd=>(d,t)
   |_=>none
 |_,_=>fail
theorem JG{vs:List V}{ds:List D}{i:Int}{d:D}(r:Reps K c H vs ds)(h:atI ds i=some d):∃v,atI vs i=some v/\Rep K c H v d:=by
 unfold atI at h⊢;clear 5(Option.bind_eq_some_iff.mp h)j h1 h2;clear 5(r.at h2)v h3 h4;exact⟨v,by rw[r.length,h1];exact h3,h4⟩
theorem Vu{α β:Type}(g:α->β)(xs:List α)(i:Int):atI (xs.map g) i=(atI xs i).map g:=by
 unfold atI;rw[ui2]
 cases ixN xs.length i with
 |none=>rfl
 |some j=>simp
theorem YN{dx dy r:D}{t':T}(eq:ixD dx dy t=some (r,t')):∃i,dy=.int i/\((∃ds,dx=.lst ds)\/(∃ds,dx=.tup ds)\/(∃ns,dx=.scr ns)\/(∃z,dx=.str z)\/∃k,dx=.obj k):=by
 unfold ixD at eq
 split at eq
 .exact⟨_,rfl,.inl ⟨_,rfl⟩⟩
 .exact⟨_,rfl,.inr (.inl ⟨_,rfl⟩)⟩
 .exact⟨_,rfl,.inr (.inr (.inl ⟨_,rfl⟩))⟩
 .exact⟨_,rfl,.inr (.inr (.inr (.inl ⟨_,rfl⟩)))⟩
 .exact⟨_,rfl,.inr (.inr (.inr (.inr ⟨_,rfl⟩)))⟩
 .cases eq
set_option tactic.hygienic true in
theorem af:BE K (rIx K) ixD:=λ{Oo c t σ H x y dx dy r t' Q} f rx ry eq k=>by
 clear 5(YN eq)i rfl hd
 cases ry
 rcases hd with⟨ds,rfl⟩|⟨ds,rfl⟩|⟨ns,rfl⟩|⟨z,rfl⟩|⟨kk,rfl⟩
 .cases rx with
  |@lst a vs _ h1 h2 h3=>
    clear 5(uc1.mp eq)d e1 e2
    cases e2
    clear 5(JG h3 e1)v e3 e4;exact .inl ⟨a,vs,i,v,rfl,rfl,SqL.of h1,e3,k _ H c f .refl e4⟩
 .cases rx with
  |@tup a vs _ h1 h2 h3=>
    clear 5(uc1.mp eq)d e1 e2
    cases e2
    clear 5(JG h3 e1)v e3 e4;exact .inr (.inl ⟨a,vs,i,v,rfl,rfl,SqT.of h1,e3,k _ H c f .refl e4⟩)
 .cases rx with
  |@scr a _ h1=>
    clear 5(uc1.mp eq)n e1 e2
    cases e2
    exact .inl ⟨a,_,i,.int n,rfl,rfl,h1.sq,by rw[Vu,e1];rfl,k _ H c f .refl (.int n)⟩
 .cases rx
  unfold ixD at eq;dsimp only at eq
  split at eq
  .next hl=>
   clear 5(uc1.mp eq)n e1 e2
   cases e2
   exact .inr (.inr ⟨z,i,n,rfl,rfl,ul7 hl DG,e1,k _ H c f .refl (.str _)⟩)
  .cases eq
 .cases rx with
  |@obj a _ h1=>
    unfold ixD at eq;dsimp only at eq
    cases es:t.S[kk]? with
    |none=>rw[es] at eq;cases eq
    |some o=>
      rw[es] at eq
      cases o with
      |dct _|ins _ _=>cases eq
      |lst ds=>
        clear 5(uc1.mp eq)d e1 e2
        cases e2
        clear 5(f.s.obs kk a _ h1 es)vs g1 g2;clear 5(JG g2 e1)v e3 e4;exact .inl ⟨a,vs,i,v,rfl,rfl,SqL.of g1,e3,k _ H c f .refl e4⟩
end
variable{f:M D}{id:String}{R:List V->Hp->VK->Prop}{p:Pos}
section
variable{X:Cx}{e a b:Expr}{es:List Expr}{pos:Pos}
inductive RO(K:ib)(f:M (Option Int))(σ:L2.St)(H:Hp)(Q:Option Int->Hp->Prop):Prop where
 |mk (Oo:ig->Prop) (c:Cf) (t:T) (fi:FInv K Oo c t σ H) (r:Option Int) (t':T) (e:f t=some (r,t')) (k:∀H' c',FInv K Oo c' t' σ H'->Stp Oo c H c' H'->Q r H'):RO K f σ H Q
theorem QC{oe:Option Expr}{t t':TO}(h:PO X oe t)(i:∀σ H Q,t' σ H Q->t σ H Q):PO X oe t':=λic s σ H Q I q=>h ic s σ H Q I (i σ H Q q)
def fNo:M (Option Int):=ret none
def asI:D->M (Option Int)
 |.int i=>ret (some i)
 |_=>fail
def Hw(f:M D):M (Option Int):=bnd f asI
theorem VW:PO X none (RO X.K fNo):=QC WO λσ H Q z9=>by
 clear 5 z9 Oo c t fi r t' eq k
 cases eq
 exact k H c fi .refl
theorem VX(h:PE X e (RE X.K f)):PO X (some e) (RO X.K (Hw f)):=QC (WP h) λσ H Q z9=>by
 clear 5 z9 Oo c t fi r t' eq k;clear 5(Ai eq)d t1 e1 eq;refine⟨Oo,c,t,fi,d,t1,e1,λv H1 c1 f1 s1 rv=>?_⟩
 cases rv with
 |int i=>cases eq;exact⟨i,rfl,k H1 c1 f1 s1⟩
 |_=>cases eq
def Ph(K:ib)(R:V->Option Int->Option Int->Hp->VK->Prop)(h:D->Option Int->Option Int->M D):Prop:=∀{Oo:ig->Prop}{c:Cf}{t:T}{σ:L2.St}{H:Hp}{x:V}{dx r:D}{lo hi:Option Int}{t':T}{Q:VK},FInv K Oo c t σ H->Rep K c H x dx->h dx lo hi t=some (r,t')->
 (∀v H' c',FInv K Oo c' t' σ H'->Stp Oo c H c' H'->Rep K c' H' v r->Q v H')->R x lo hi H Q
def fSl(f:M D)(l u:M (Option Int))(h:D->Option Int->Option Int->M D):M D:=bnd f λx=>bnd l λlo=>bnd u λhi=>h x lo hi
theorem Na{R:V->Option Int->Option Int->Hp->VK->Prop}{h:D->Option Int->Option Int->M D}{l u:M (Option Int)}{lo hi:Option Expr}{p2:Pos}(hr:SlR X R)(s:Ph X.K R h)(he:PE X e (RE X.K f))(hl:PO X lo (RO X.K l))(hu:PO X hi (RO X.K u)):PE X (.Subscript e (.Slice lo hi none p2) pos) (RE X.K (fSl f l u h)):=
 AM (ND hr he hl hu) λσ H Q z9=>by
  clear 5 z9 Oo c t fi r t' eq k;clear 5(Ai eq)d t1 e1 eq;clear 5(Ai eq)ol t2 e2 eq;clear 5(Ai eq)oh t3 e3 eq;exact⟨Oo,c,t,fi,d,t1,e1,λv H1 c1 f1 s1 rv=>⟨Oo,c1,t1,f1,ol,t2,e2,λH2 c2 f2 s2=>⟨Oo,c2,t2,f2,oh,t3,e3,λH3 c3 f3 s3=>
   s f3 (rv.mono (s2.trans s3).ext) eq λv H' c' f' s' rv'=>k v H' c' f' (((s1.trans s2).trans s3).trans s') rv'⟩⟩⟩
def Ci{α:Type}(xs:List α)(lo hi:Option Int):List α:=(xs.drop (HT.sIx xs.length 0 lo)).take (HT.sIx xs.length xs.length hi-HT.sIx xs.length 0 lo)
def slD:D->Option Int->Option Int->M D
 |.lst ds,lo,hi=>ret (.lst (Ci ds lo hi))
 |.scr ns,lo,hi=>ret (.lst ((Ci ns lo hi).map .int))
 |.tup ds,lo,hi=>λt=>if HT.sIx ds.length 0 lo=0/\HT.sIx ds.length ds.length hi=ds.length then none else some (.tup (Ci ds lo hi),t)
 |_,_,_=>fail
theorem Fg{K:ib}{vs:List V}{ds:List D}(r:Reps K c H vs ds)(lo hi:Option Int):Reps K c H (Hu vs lo hi) (Ci ds lo hi):=by
 unfold Hu Ci;rw[r.length];exact(r.drop _).take _
theorem Td{α β:Type}(g:α->β)(xs:List α)(lo hi:Option Int):Ci (xs.map g) lo hi=(Ci xs lo hi).map g:=by
 unfold Ci;rw[ui2,kW,List.map_drop]
theorem LU(ns:List Int)(lo hi:Option Int):Hu (ns.map V.int) lo hi=(Ci ns lo hi).map V.int:=Td V.int ns lo hi
def Up(K:ib):V->Option Int->Option Int->Hp->VK->Prop:=λx lo hi H Q=>ZW K x lo hi H Q\/ZY K x lo hi H Q
theorem sl2:SlR X (Up X.K):=sl_list.or aj
set_option tactic.hygienic true in
theorem ag{K:ib}:Ph K (Up K) slD:=λ{Oo c t σ H x dx r lo hi t' Q} f rx eq k=>by
 cases rx with
 |@lst p vs ds h1 h2 h3=>
   cases eq
   exact .inl ⟨p,vs,rfl,SqL.of h1,λq hq=>k _ _ c (f.laid hq) (f.stp_laid hq) (.lst AG (f.s.free hq) ((Fg h3 lo hi).mono (Ext.laid f.s hq)))⟩
 |@scr p ns h1=>
   cases eq
   refine .inl ⟨p,_,rfl,h1.sq,λq hq=>k _ _ c (f.laid hq) (f.stp_laid hq) (.lst AG (f.s.free hq) ?_)⟩;rw[LU];exact Reps.ints _
 |@tup p vs ds h1 h2 h3=>
   unfold slD at eq;dsimp only at eq
   split at eq
   .cases eq
   .next hn=>
    cases eq
    exact .inr ⟨p,vs,rfl,SqT.of h1,by rw[h3.length];exact hn,λq hq=>k _ _ c (f.laid hq) (f.stp_laid hq) (.tup AG (f.s.free hq) ((Fg h3 lo hi).mono (Ext.laid f.s hq)))⟩
 |_=>cases eq
theorem dH{h:List D->M D}{f:M (List D)}{x:Str}(hc:Dc X (.builtin id) R)(s:F1 X.K R h)(hg:Gl X x)(hm:X.mg x=none)(hv:bootBuiltins x=some (.builtin id))(ha:PA X (e::es) (RA X.K f))(hn:x≠"__name__":=by decide)(hdb:(x==("__debug__":Str))=false:=by decide)
 (he:starEach (e::es) X.env=(false,eval e X.env)::starEach es X.env:=by rfl) (hpl:(backTo pos (starEach es X.env)).any (·.1)=false:=by rfl):PE X (.Call (.Name x p) (e::es) [] pos) (RE X.K (fB f h)):=
 AM (T7 hc hg hm hv ha hn hdb he hpl) λ_ _ _ q=>RE.callB s q
theorem dI{h:List D->M D}{f:M (List D)}{x:Str}(hc:Dc X (.type id) R)(s:F1 X.K R h)(hg:Gl X x)(hm:X.mg x=none)(hv:bootBuiltins x=some (.type id))(ha:PA X (e::es) (RA X.K f))(hn:x≠"__name__":=by decide)(hdb:(x==("__debug__":Str))=false:=by decide)
 (he:starEach (e::es) X.env=(false,eval e X.env)::starEach es X.env:=by rfl) (hpl:(backTo pos (starEach es X.env)).any (·.1)=false:=by rfl):PE X (.Call (.Name x p) (e::es) [] pos) (RE X.K (fB f h)):=
 AM (IK hc hg hm hv ha hn hdb he hpl) λ_ _ _ q=>RE.callB s q
theorem dJ{h:List D->M (List D)}{f:M (List D)}{x:Str}(hc:Dc X (.type id) R)(s:J2 X.K R h)(hg:Gl X x)(hm:X.mg x=none)(hv:bootBuiltins x=some (.type id))(ha:PA X (e::es) (RA X.K f))(hn:x≠"__name__":=by decide)(hdb:(x==("__debug__":Str))=false:=by decide)
 (he:starEach (e::es) X.env=(false,eval e X.env)::starEach es X.env:=by rfl) (hpl:(backTo pos (starEach es X.env)).any (·.1)=false:=by rfl):PE X (.Call (.Name x p) (e::es) [] pos) (RF X.K (fBF f h)):=
 AM (IK hc hg hm hv ha hn hdb he hpl) λ_ _ _ q=>RF.callB s q
theorem bf{op:Operator}{R:R2}{g:M D}{h:D->D->M (List D)}(ho:OpR X (binaryOp op) R)(s:Pg X.K R h)(ha:PE X a (RE X.K f))(hb:PE X b (RE X.K g)):PE X (.BinOp a op b pos) (RF X.K (bnd f λx=>bnd g λy=>h x y)):=
 AM (Qb ho ha hb) λ_ _ _ q=>RF.two s q
end
section
variable{K:ib}
theorem Fi{xs:List V}{d:D}(r:Reps K c H xs [d]):∃v,xs=[v]/\Rep K c H v d:=by
 cases r with
 |cons r rs=>cases rs;exact⟨_,rfl,r⟩
theorem Qj{xs:List V}{d e:D}(r:Reps K c H xs [d,e]):∃v u,xs=[v,u]/\Rep K c H v d/\Rep K c H u e:=by
 cases r with
 |cons r rs=>
   clear 5(Fi rs)u rfl q;exact⟨_,u,rfl,r,q⟩
def AY:List D->M D
 |[.lst ds]=>ret (.int ds.length)
 |[.tup ds]=>ret (.int ds.length)
 |[.scr ns]=>ret (.int ns.length)
 |[.str x]=>lim x.length (.int x.length)
 |[.obj k]=>λt=>match t.S[k]? with
   |some (.lst ds)=>some (.int ds.length,t)
   |_=>none
 |_=>fail
theorem Xd:F1 K (λxs H Q=>∃x n,xs=[x]/\XR K x H n/\Q (.int n) H) AY:=λ{Oo c t σ H xs ds r t' Q} f rx eq k=>by
 match ds,rx,eq with
 |[],_,eq=>cases eq
 |d0::_::_,_,eq=>cases d0<;>cases eq
 |[d],rx,eq=>
   clear 5(Fi rx)v rfl rv
   cases rv with
   |@lst a vs ds h1 h2 h3=>cases eq;exact⟨_,ds.length,rfl,.inl ⟨vs,SqL.of h1,h3.length.symm⟩,k _ H c f .refl (.int _)⟩
   |@tup a vs ds h1 h2 h3=>cases eq;exact⟨_,ds.length,rfl,.inr ⟨vs,SqT.of h1,h3.length.symm⟩,k _ H c f .refl (.int _)⟩
   |@scr a ns h1=>cases eq;exact⟨_,ns.length,rfl,.inl ⟨_,h1.sq,by simp⟩,k _ H c f .refl (.int _)⟩
   |str x=>
     clear 5(EE eq)hl z
     cases z
     exact⟨_,x.length,rfl,⟨ul7 hl DG,rfl⟩,k _ H c f .refl (.int _)⟩
   |@obj a kk h1=>
     unfold AY at eq;dsimp only at eq
     cases es:t.S[kk]? with
     |none=>rw[es] at eq;cases eq
     |some o=>
       rw[es] at eq
       cases o with
       |dct _|ins _ _=>cases eq
       |lst ds=>
         cases eq
         clear 5(f.s.obs kk a _ h1 es)vs g1 g2;exact⟨_,ds.length,rfl,.inl ⟨vs,SqL.of g1,g2.length.symm⟩,k _ H c f .refl (.int _)⟩
   |_=>cases eq
noncomputable def tyD:D->Option String
 |.non=>some "NoneType"
 |.bl _=>some "bool"
 |.int _=>some "int"
 |.str _=>some "str"
 |.lst _=>some "list"
 |.tup _=>some "tuple"
 |.dic=>some "dict"
 |_=>none
noncomputable def Gn(n m:String):Option Bool:=match m with
 | "int"=>some (n == "int" || n == "bool")
 | "bool"=>some (n == "bool")
 | "str"=>some (n == "str")
 | "list"=>some (n == "list")
 | "tuple"=>some (n == "tuple")
 | "dict"=>some (n == "dict")
 |_=>none
def Da:List D->M D
 |[d,.ty m]=>λt=>match tyD d with
   |some n=>(Gn n m).map λb=>(.bl b,t)
   |none=>none
 |_=>fail
theorem Wb{d:D}{n m:String}{b:Bool}(h1:tyD d=some n)(h2:Gn n m=some b):PySem.W.kitOne K (.type n) (.type m)=some b:=by
 have hm:m = "int"\/m = "bool"\/m = "str"\/m = "list"\/m = "tuple"\/m = "dict":=by
  unfold Gn at h2
  split at h2<;>simp_all
 have hn:n = "NoneType"\/n = "bool"\/n = "int"\/n = "str"\/n = "list"\/n = "tuple"\/n = "dict":=by
  cases d<;>simp[tyD] at h1<;>simp[<-h1]
 rcases hm with rfl|rfl|rfl|rfl|rfl|rfl<;>rcases hn with rfl|rfl|rfl|rfl|rfl|rfl|rfl<;>(cases h2;rfl)
def ZQ(K:ib):List V->Hp->VK->Prop:=λxs H Q=>∃x n t b,xs=[x,.ty n]/\TyOf K H x t/\PySem.W.kitOne K t (.type n)=some b/\Q (.bl b) H
theorem S8:Dc X (.builtin "isinstance") (ZQ X.K):=by
 intro ic s σ H xs us Q I r h;clear 5 h x n t b rfl ty e q;clear 5(Qp r)u w' rfl rx rt
 cases rt
 exact Rj I rx ty e λtk=>⟨.bl b,H,I.tok tk,rfl,q⟩
set_option tactic.hygienic true in
theorem Xc:F1 K (ZQ K) Da:=λ{Oo c t σ H xs ds r t' Q} f rx eq k=>by
 unfold Da at eq
 split at eq
 .next d m=>
  clear 5(Qj rx)v u rfl rv ru
  cases ru
  cases et:tyD d with
  |none=>rw[et] at eq;cases eq
  |some n=>
    rw[et] at eq;clear 5(uc1.mp eq)b e1 e2
    cases e2
    refine⟨v,m,.type n,b,rfl,?_,Wb et e1,k _ H c f .refl (.bl b)⟩
    cases rv<;>first|(cases et;first|exact .non|exact .bl _|exact .int _|exact .str _|exact .lst ‹_› | exact .tup ‹_› | exact .dK ‹_›)|cases et
 .cases eq
def eL:List D->M D
 |[.lst ds]=>ret (.tup ds)
 |[.tup ds]=>ret (.tup ds)
 |[.obj k]=>λt=>match t.S[k]? with
   |some (.lst ds)=>some (.tup ds,t)
   |_=>none
 |_=>fail
def Gp:List D->M (List D)
 |[.lst ds]=>ret ds
 |[.tup ds]=>ret ds
 |[.scr ns]=>ret (ns.map .int)
 |[.obj k]=>λt=>match t.S[k]? with
   |some (.lst ds)=>some (ds,t)
   |_=>none
 |_=>fail
theorem Xe:J2 K (λxs H Q=>∃p ys,xs=[.ref p]/\(SqL K H p ys\/SqT K H p ys)/\∀l,H l=none->Q (.ref l) (upd H l (.lst ys))) Gp:=λ{Oo c t σ H xs ds r t' Q} f rx eq k=>by
 match ds,rx,eq with
 |[],_,eq=>cases eq
 |d0::_::_,_,eq=>cases d0<;>cases eq
 |[d],rx,eq=>
   clear 5(Fi rx)v rfl rv
   cases rv with
   |@lst a vs ds h1 h2 h3=>cases eq;exact⟨a,vs,rfl,.inl (SqL.of h1),λq hq=>k q vs H c f .refl h3 hq⟩
   |@tup a vs ds h1 h2 h3=>cases eq;exact⟨a,vs,rfl,.inr (SqT.of h1),λq hq=>k q vs H c f .refl h3 hq⟩
   |@scr a ns h1=>cases eq;exact⟨a,_,rfl,.inl h1.sq,λq hq=>k q _ H c f .refl (Reps.ints ns) hq⟩
   |@obj a kk h1=>
     unfold Gp at eq;dsimp only at eq
     cases es:t.S[kk]? with
     |none=>rw[es] at eq;cases eq
     |some o=>
       rw[es] at eq
       cases o with
       |dct _|ins _ _=>cases eq
       |lst ds=>
         cases eq
         clear 5(f.s.obs kk a _ h1 es)vs g1 g2;exact⟨a,vs,rfl,.inl (SqL.of g1),λq hq=>k q vs H c f .refl g2 hq⟩
   |_=>cases eq
def JO:List D->M D
 |[.int i]=>ret (.int i)
 |[.bl b]=>ret (.int (if b then 1 else 0))
 |_=>fail
theorem Xb:F1 K (λxs H Q=>(∃i,xs=[.int i]/\Q (.int i) H)\/∃k,xs=[.bl k]/\Q (.int (if k then 1 else 0)) H) JO:=λ{Oo c t σ H xs ds r t' Q} f rx eq k=>by
 match ds,rx,eq with
 |[],_,eq=>cases eq
 |d0::_::_,_,eq=>cases d0<;>cases eq
 |[d],rx,eq=>
   clear 5(Fi rx)v rfl rv
   cases rv with
   |int i=>cases eq;exact .inl ⟨i,rfl,k _ H c f .refl (.int _)⟩
   |bl b=>cases eq;exact .inr ⟨b,rfl,k _ H c f .refl (.int _)⟩
   |_=>cases eq
def dA:List D->M D
 |[.int i]=>ret (.int (if i<0 then -i else i))
 |_=>fail
def Lo:List D->M D
 |[.int i,.int j]=>ret (.int (if j<i then j else i))
 |_=>fail
def Ln:List D->M D
 |[.int i,.int j]=>ret (.int (if j > i then j else i))
 |_=>fail
set_option tactic.hygienic true
theorem Xh:F1 K (λxs H Q=>∃i j,xs=[.int i,.int j]/\Q (.int (if j<i then j else i)) H) Lo:=λ{Oo c t σ H xs ds r t' Q} f rx eq k=>by
 unfold Lo at eq
 split at eq
 .next i j=>
  clear 5(Qj rx)v u rfl rv ru
  cases rv;cases ru;cases eq
  exact⟨i,j,rfl,k _ H c f .refl (.int _)⟩
 .cases eq
theorem Xg:F1 K (λxs H Q=>∃i j,xs=[.int i,.int j]/\Q (.int (if j > i then j else i)) H) Ln:=λ{Oo c t σ H xs ds r t' Q} f rx eq k=>by
 unfold Ln at eq
 split at eq
 .next i j=>
  clear 5(Qj rx)v u rfl rv ru
  cases rv;cases ru;cases eq
  exact⟨i,j,rfl,k _ H c f .refl (.int _)⟩
 .cases eq
def JT:List D->M D
 |[.str x]=>λt=>if x.length=1 then some (.int (x.cps.getD 0 0:Nat),t) else none
 |_=>fail
theorem Xk:F1 K (λxs H Q=>∃x,xs=[.str x]/\x.length=1/\Q (.int (x.cps.getD 0 0:Nat)) H) JT:=λ{Oo c t σ H xs ds r t' Q} f rx eq k=>by
 match ds,rx,eq with
 |[],_,eq=>cases eq
 |d0::_::_,_,eq=>cases d0<;>cases eq
 |[d],rx,eq=>
   clear 5(Fi rx)v rfl rv
   cases rv with
   |str x=>
     unfold JT at eq;dsimp only at eq
     split at eq
     .next h=>cases eq;exact⟨x,rfl,h,k _ H c f .refl (.int _)⟩
     .cases eq
   |_=>cases eq
end
end
open AutoSeq1 (wpAny_loadPart')
open AutoSeq1 (wpAny_loadPart')
theorem MtM.or{X:Cx}{id:String}{r r':V->List V->Hp->VK->Prop}(h:MtM X id r)(h':MtM X id r'):MtM X id (λx xs H Q=>r x xs H Q\/r' x xs H Q):=by
 intro ic s σ H x xs v us Q I rx rv q;rcases q with q|q
 .exact h ic s σ H x xs v us Q I rx rv q
 .exact h' ic s σ H x xs v us Q I rx rv q
section
variable{X:Cx}{a b c d:Expr}{ta tb tc td:TE}{pos:Pos}
end
section
variable{K:ib}
def AU(x y:D):M D:=XW x y
def Vb(K:ib):R2:=Qf K
theorem OO{X:Cx}:OpR X (binaryOp .Add) (Vb X.K):=Ww
theorem NR:BE K (Vb K) AU:=W8
def T0:D->D->M D
 |.int i,.int j=>λt=>if FP i j=true then some (.int (i*j),t) else none
 |_,_=>fail
def Qg(K:ib):R2:=rI CMul (λi j=>.int (i*j))
theorem op_mul3{X:Cx}:OpR X (binaryOp .Mult) (Qg X.K):=Zl
set_option tactic.hygienic true in
theorem Xj:BE K (Qg K) T0:=λ{Oo c t σ H x y dx dy r t' Q} f rx ry eq k=>by
 cases rx with
 |int i=>
   cases ry with
   |int j=>
     unfold T0 at eq;dsimp only at eq
     split at eq
     .next h=>cases eq;exact⟨i,j,rfl,rfl,Ry h,k _ H c f .refl (.int _)⟩
     .cases eq
   |_=>cases eq
 |_=>cases eq
end
section
variable{K:ib}{μ:Cf->Hp->D->(V->Hp->Prop)->Prop}
section
variable{X:Cx}{e a b:Expr}{pos:Pos}
def BH(xs:List D):List D->Option (List D)
 |[d]=>if xs.length<LIM then some (xs++[d]) else none
 |_=>none
def EV(xs:List D):List D->Option (List D)
 |[.lst ys]=>if xs.length+ys.length<=LIM then some (xs++ys) else none
 |_=>none
def ownM(i:Nat)(h:List D->List D->Option (List D))(g:M (List D)):M Out:=λt=>match t.env[i]? with
 | some (some (.own _))=>bnd g (λds t1=>match t1.env[i]? with
   |some (some (.own xs))=>(h xs ds).map λys=>(.next,{t1 with env:=t1.env.set i (some (.own ys))})
   |_=>none) t
 |_=>none
def Pi(K:ib)(R:V->List V->Hp->VK->Prop)(h:List D->List D->Option (List D)):Prop:=∀{c:Cf}{S:List Ob}{H:Hp}{a:ig}{vs us:List V}{xs ds ys:List D}{Q:VK},SInv K c S H->H a=some (.lst vs)->Reps K c H vs xs->Reps K c H us ds->h xs ds=some ys->
 (∀ws,Reps K c H ws ys->Q .non (upd H a (.lst ws)))->R (.ref a) us H Q
set_option tactic.hygienic true in
theorem O0:Pi K OU BH:=λ{c S H a vs us xs ds ys Q} s h r rs e k=>by
 unfold BH at e
 split at e
 .next d=>
  split at e
  .next hl=>
   cases e
   clear 5(Fi rs)v rfl rv;exact⟨a,vs,v,rfl,rfl,h,by rw[r.length];exact ue1 hl DG,k _ (r.append (.cons rv .nil))⟩
  .cases e
 .cases e
def Vd(K:ib):V->List V->Hp->VK->Prop:=OV
theorem OI{X:Cx}:MtM X "list.extend" (Vd X.K):=Rx
set_option tactic.hygienic true
theorem O2:Pi K (Vd K) EV:=λ{c S H a vs us xs ds ys Q} s h r rs e k=>by
 unfold EV at e
 split at e
 .split at e
  .next hl=>
   cases e
   clear 5(Fi rs)v rfl rv
   cases rv with
   |lst h1 h2 h3=>exact⟨a,_,vs,_,rfl,rfl,h,h1,by rw[r.length,h3.length];exact ul7 hl DG,k _ (r.append h3)⟩
  .cases e
 .cases e
theorem RS.ownM{μ:Cf->Hp->D->(V->Hp->Prop)->Prop}{K:ib}{i:Nat}{h:List D->List D->Option (List D)}{g:M (List D)}{R:V->List V->Hp->VK->Prop}(s:Pi K R h){E:Ends}{σ:L2.St}{H:Hp}(q:RSg K μ (L2.ownM i h g) E σ H):Vk (tBM K "list" R (az i) (RA K g)) E σ H:=by
 clear 5 q Oo c t fi o t' eq k;unfold L2.ownM at eq
 split at eq
 .next xs0 e0=>
  clear 5(Ai eq)ds t1 e1 eq;clear 5(fi.own i xs0 e0)a vs0 h1 h2 h3 h4 h5;refine⟨.ref a,h1,.inl ⟨rfl,vs0,SqL.of h4⟩,Oo,c,t,fi,ds,t1,e1,λus H1 c1 f1 s1 rus=>?_⟩
  split at eq
  .next xs ex=>
   clear 5(uc1.mp eq)ys ey ez
   cases ez
   clear 5(f1.own i xs ex)a' vs g1 g2 g3 g4 g5;rw[h1] at g1;injection g1 with g1;injection g1 with g1;injection g1 with g1;subst g1
   refine s f1.s g4 g5 rus ey λws rws=>?_;clear 5(f1.wrOwn ex h1 rws)f2 s2;exact k σ _ c1 f2 (s1.trans s2)
  .cases eq
 .cases eq
set_option tactic.hygienic false
theorem Q3(i:Nat){x:Str}{es:List Expr}{g:M (List D)}{px apos cpos:Pos}(ha:PA X (e::es) (RA X.K g))(hN:X.N[i]?=some x:=by rfl)(hv:Vis X.env.scope x:=by walk_at"h")(hd:(x==("__debug__":Str))=false:=by decide)
 (hcd:(x==("__classdict__":Str))=false:=by decide)
 (hbase:attributeBase (.Name x px) "append" X.env (eval (.Name x px) X.env)=eval (.Name x px) X.env:=by rfl)
 (hfew:((backTo cpos (starEach (e::es) X.env)).all (λx=>!x.1)&&(backToKw cpos (keywordEach [] X.env)).all (λx=>x.1.isSome)&&decide ((e::es).length+([]:List Keyword).length+(if ([]:List Keyword).isEmpty then 0 else 1)<30))=true:=by rfl)
 (hline:(apos.endLine==cpos.line)=true:=by rfl) (hs:starEach (e::es) X.env=(false,eval e X.env)::starEach es X.env:=by rfl) (hplain:(backTo cpos (starEach es X.env)).any (·.1)=false:=by rfl) :
 PS X (.Expr (.Call (.Attribute (.Name x px) "append" apos) (e::es) [] cpos) pos) (RSg X.K μ (ownM i BH g)):=
 Br (Lu (Jj ub5 jk jm Mc (Hf hN hv hd hcd) ha hbase hfew hline hs hplain)) λ_ _ _ q=>RS.ownM O0 q
theorem Q4(i:Nat){x:Str}{es:List Expr}{g:M (List D)}{px apos cpos:Pos}(ha:PA X (e::es) (RA X.K g))(hN:X.N[i]?=some x:=by rfl)(hv:Vis X.env.scope x:=by walk_at"h")(hd:(x==("__debug__":Str))=false:=by decide)
 (hcd:(x==("__classdict__":Str))=false:=by decide)
 (hbase:attributeBase (.Name x px) "extend" X.env (eval (.Name x px) X.env)=eval (.Name x px) X.env:=by rfl)
 (hfew:((backTo cpos (starEach (e::es) X.env)).all (λx=>!x.1)&&(backToKw cpos (keywordEach [] X.env)).all (λx=>x.1.isSome)&&decide ((e::es).length+([]:List Keyword).length+(if ([]:List Keyword).isEmpty then 0 else 1)<30))=true:=by rfl)
 (hline:(apos.endLine==cpos.line)=true:=by rfl) (hs:starEach (e::es) X.env=(false,eval e X.env)::starEach es X.env:=by rfl) (hplain:(backTo cpos (starEach es X.env)).any (·.1)=false:=by rfl) :
 PS X (.Expr (.Call (.Attribute (.Name x px) "extend" apos) (e::es) [] cpos) pos) (RSg X.K μ (ownM i EV g)):=
 Br (Lu (Jj ub5 jn jq OI (Hf hN hv hd hcd) ha hbase hfew hline hs hplain)) λ_ _ _ q=>RS.ownM O2 q
def objM(h:List D->List D->Option (List D))(f:M D)(g:M (List D)):M D:=bnd f λo=>match o with
 |.obj k=>λt=>match t.S[k]? with
   | some (.lst _)=>bnd g (λds t1=>match t1.S[k]? with
     |some (.lst xs)=>(h xs ds).map λys=>(.non,{t1 with S:=t1.S.set k (.lst ys)})
     |_=>none) t
   |_=>none
 |_=>fail
set_option tactic.hygienic true in
theorem RE.objM{K:ib}{h:List D->List D->Option (List D)}{f:M D}{g:M (List D)}{R:V->List V->Hp->VK->Prop}(s:Pi K R h){σ:L2.St}{H:Hp}{Q:VK}(q:RE K (L2.objM h f g) σ H Q):tBM K "list" R (RE K f) (RA K g) σ H Q:=by
 clear 5 q Oo c t fi r t' eq k;clear 5(Ai eq)o t0 e0 eq;refine⟨Oo,c,t,fi,o,t0,e0,λx H0 c0 f0 s0 rx=>?_⟩
 cases rx with
 |@obj a kk hk=>
   dsimp only at eq
   split at eq
   .next xs0 ex0=>
    clear 5(Ai eq)ds t1 e1 eq;clear 5(f0.s.obs kk a _ hk ex0)vs0 g0 g0';refine⟨.inl ⟨rfl,vs0,SqL.of g0⟩,Oo,c0,t0,f0,ds,t1,e1,λus H1 c1 f1 s1 rus=>?_⟩
    split at eq
    .next xs ex=>
     clear 5(uc1.mp eq)ys ey ez
     cases ez
     have hk1:=s1.ext.io _ _ hk;clear 5(f1.s.obs kk a _ hk1 ex)vs g1 g2;refine s f1.s g1 g2 rus ey λws rws=>?_;obtain⟨f2,s2⟩:=f1.wrObj (o:=.lst ys) (u:=.lst ws) hk1 λc' H' ext hu=>⟨ws,hu,rws.mono ext⟩;exact k _ _ c1 f2 ((s0.trans s1).trans s2) .non
    .cases eq
   .cases eq
 |_=>cases eq
theorem QT{o:Expr}{es:List Expr}{f:M D}{g:M (List D)}{apos cpos:Pos}(ho:PE X o (RE X.K f))(ha:PA X (e::es) (RA X.K g))
 (hbase:attributeBase o "append" X.env (eval o X.env)=eval o X.env:=by rfl)
 (hfew:((backTo cpos (starEach (e::es) X.env)).all (λx=>!x.1)&&(backToKw cpos (keywordEach [] X.env)).all (λx=>x.1.isSome)&&decide ((e::es).length+([]:List Keyword).length+(if ([]:List Keyword).isEmpty then 0 else 1)<30))=true:=by rfl)
 (hline:(apos.endLine==cpos.line)=true:=by rfl) (hs:starEach (e::es) X.env=(false,eval e X.env)::starEach es X.env:=by rfl) (hplain:(backTo cpos (starEach es X.env)).any (·.1)=false:=by rfl) :
 PE X (.Call (.Attribute o "append" apos) (e::es) [] cpos) (RE X.K (objM BH f g)):=
 AM (Jj ub5 jk jm Mc ho ha hbase hfew hline hs hplain) λ_ _ _ q=>RE.objM O0 q
def ak(o i d:D):M Unit:=match o,i with
 |.obj k,.int j=>λt=>match t.S[k]? with
   |some (.lst xs)=>(ixN xs.length j).map λn=>((),{t with S:=t.S.set k (.lst (xs.set n d))})
   |_=>none
 |_,_=>fail
def stD(f g:M D)(d:D):M Unit:=bnd f λo=>bnd g λi=>ak o i d
end
variable{H:Hp}
section
variable{X:Cx}{e a b tg iter elt:Expr}{ifs:List Expr}{pos:Pos}{scope:Scope}{N':List Str}{n:Nat}{fr:List Nat}{f:M (List D)}{st:D->M Unit}{tst:M Bool}{el:M D}
def G7:M Bool:=ret true
theorem VO:PIf X [] (RT X.K G7):=λic s σ H Q I z9=>by
 clear 5 z9 Oo c t fi r t' eq k;exact WL ic s σ H Q I (by cases eq;exact k H c fi .refl)
theorem VP{g:M Bool}(h:PT X e (RT X.K g)):PIf X [e] (RT X.K g):=WM h
theorem Ja(O:CmpOk X scope N' (Gc n fr))(hc:X.calm=true)(hi:PI X tg iter (RI X.K f))
 (hg:∀cl C s2 H2 fp,PG (Cs X N' scope cl C s2 H2 fp) tg (RG X.K st)) (ht:∀cl C s2 H2 fp,PIf (Cs X N' scope cl C s2 H2 fp) ifs (RT X.K tst)) (he:∀cl C s2 H2 fp,PE (Cs X N' scope cl C s2 H2 fp) elt (RE X.K el))
 (hs:∀x,foldedSetIterable iter X.env x=pure x:=by intro _;rfl):PE X (.ListComp elt [⟨tg,iter,ifs,0⟩] scope pos) (RF X.K (CL n fr f st tst el)):=
 AM (OQ O hc hi hg ht he hs) λ_ _ _ q=>RF.comp q
theorem RF.ofPure{f:M (List D)}{σ:L2.St}{Q:VK}(q:RE K (Au f) σ H Q):RF K f σ H Q:=by
 clear 5 q Oo c t fi r t' eq k;clear 5(Ai eq)ds t1 e1 eq
 cases eq
 exact⟨Oo,c,t,fi,ds,_,e1,λp xs H1 c1 f1 s1 rxs hp=>k _ _ c1 (f1.laid hp) (s1.trans (f1.stp_laid hp)) (.lst AG (f1.s.free hp) (rxs.mono (Ext.laid f1.s hp)))⟩
theorem V0{i:Nat}{y:Str}{py spos:Pos}(O:CmpOk X scope N' (Gc n fr))(hc:X.calm=true)(hN:X.N.Nodup)(hiN:X.N[i]?=some y)(hx:X.env.scope.names.lookup y=some .local)(hi:PI X tg iter (RI X.K f))
 (hg:∀cl C s2 H2 fp,PG (Cs X N' scope cl C s2 H2 fp) tg (RG X.K st)) (ht:∀cl C s2 H2 fp,PIf (Cs X N' scope cl C s2 H2 fp) ifs (RT X.K tst)) (he:∀cl C s2 H2 fp,PE (Cs X N' scope cl C s2 H2 fp) elt (RE X.K el))
 (hsw:swapsWith (.ListComp elt [⟨tg,iter,ifs,0⟩] scope pos) (some (.Name y py)) spos.line X.env=pure true:=by rfl)
 (hs:∀x,foldedSetIterable iter X.env x=pure x:=by intro _;rfl):PS X (.Assign [.Name y py] (.ListComp elt [⟨tg,iter,ifs,0⟩] scope pos) spos) (RSg X.K μ (setS i (Au (CL n fr f st tst el)))):=
 Br (WS O hc hN hiN hx hi hg ht he hsw hs) λE σ H q=>RF.comp (RF.ofPure (RS.set q))
theorem Fm(tgs:List Str)(frn:List (Nat×Str))(hk:scope.kind=.function)(hcell:(scope.names.all λy=>y.2 != .cell)=true)(hloc:(scope.names.all λy=>y.2 != .local||scope.names.lookup y.1==some .local)=true)
 (hfree:(scope.names.all λy=>y.2 != .free||X.env.kindOf y.1==some .cell||X.env.kindOf y.1==some .free)=true)
 (hf:(frn.all λp=>X.N[p.1]?==some p.2&&scope.names.lookup p.2==some .free)=true):CmpOk X scope (tgs++frn.map (·.2)) (Gc tgs.length (frn.map (·.1))):=by
 rw[uh4] at hcell hloc hfree hf;refine⟨hk,λy hy=>by simpa using hcell y hy,λy hy hl=>?_,λy hy hl=>?_,λσ _=>by simp[Gc],λσ j x v h1 h2=>?_⟩
 .have:=hloc y hy;simpa[hl] using this
 .have:=hfree y hy;simpa[hl] using this
 .unfold Gc at h2
  by_cases hj:j<tgs.length
  .rw[ub1 (by simpa using hj),ub4] at h2
   split at h2<;>simp at h2
  .rw[ua7 (by simpa using hj),uc8,uf4,uf4] at h2;rw[ua7 (by simpa using hj),uf4] at h1
   cases e:frn[j-tgs.length]? with
   |none=>rw[e] at h1;cases h1
   |some p=>
     rw[e] at h1 h2;simp only[uj1,ug0] at h1 h2;have hp:=hf p (ud3 e);rw[ug9] at hp;refine⟨p.1,by rw[<-h1];simpa using hp.1,?_,by rw[<-h1];simpa using hp.2⟩
     cases e2:σ[p.1]? with
     |none=>rw[e2] at h2;cases h2
     |some o=>rw[e2] at h2;simpa using h2
end
mutual
noncomputable def Cr:D->Bool
 |.tup xs=>FD xs
 |.lst xs=>FD xs
 |.obj _=>false
 |.scr _=>false
 |.exc _ _=>false
 |.gts _=>false
 |_=>true
noncomputable def FD:List D->Bool
 |[]=>true
 |d::r=>Cr d&&FD r
end
def c0:Cf:=⟨[],λ_=>False⟩
theorem MQ(a:ig):¬c0.A a:=λh=>h.elim (λz=>nomatch z) λz=>z
mutual
theorem GA{K:ib}{c:Cf}{H:Hp}{v:V}{d:D}(r:Rep K c H v d)(p:Cr d=true):Rep K c0 H v d:=by
 cases r with
 |non=>exact .non
 |bl b=>exact .bl b
 |int i=>exact .int i
 |str x=>exact .str x
 |ty n=>exact .ty n
 |tup h n r=>exact .tup h (MQ _) (Jk r (by simpa[Cr] using p))
 |lst h n r=>exact .lst h (MQ _) (Jk r (by simpa[Cr] using p))
 |scr h=>simp[Cr] at p
 |dic h n=>exact .dic h (MQ _)
 |obj h=>simp[Cr] at p
 |exc _ _ _ _ _=>simp[Cr] at p
 |gts _=>simp[Cr] at p
theorem Jk{K:ib}{c:Cf}{H:Hp}{vs:List V}{ds:List D}(r:Reps K c H vs ds)(p:FD ds=true):Reps K c0 H vs ds:=by
 cases r with
 |nil=>exact .nil
 |cons h t=>
   simp only[FD,ug9] at p;exact .cons (GA h p.1) (Jk t p.2)
end
noncomputable def FE(S:List Ob):D->D
 |.obj k=>match S[k]? with
   |some (.lst ds)=>.lst ds
   |_=>.obj k
 |d=>d
noncomputable def Nl:D->Bool
 |.obj _=>true
 |_=>false
def eqS(g:Bool->Bool)(x y:D):M D:=λt=>
 if (Nl x||Nl y)=true then(if (Cr (FE t.S x)&&Cr (FE t.S y))=true then(eqN EQD (FE t.S x) (FE t.S y)).map λb=>(.bl (g b),t) else none)
 else(eqN EQD x y).map λb=>(.bl (g b),t)
set_option tactic.hygienic true
theorem HJ{c:Cf}{S:List Ob}{v:V}{d:D}(s:SInv K c S H)(r:Rep K c H v d)(p:Cr (FE S d)=true):Rep K c0 H v (FE S d):=by
 cases r with
 |@obj a k hk=>
   unfold FE at p⊢;dsimp only at p⊢
   split
   .next ds e=>
    rw[e] at p;clear 5(s.obs k a _ hk e)vs h1 h2;exact .lst h1 (MQ _) (Jk h2 (by simpa[Cr] using p))
   .next h=>
    split at p
    .next ds e=>exact absurd e (h ds)
    .simp[Cr] at p
 |non=>exact .non
 |bl b=>exact .bl b
 |int b=>exact .int b
 |str b=>exact .str b
 |ty b=>exact .ty b
 |tup h n q=>exact GA (.tup h n q) p
 |lst h n q=>exact GA (.lst h n q) p
 |scr h=>exact GA (c:=c) (.scr h) p
 |dic h n=>exact GA (.dic h n) p
 |exc a b n f q=>exact GA (.exc a b n f q) p
 |gts h=>exact GA (c:=c) (.gts h) p
theorem Jn{g:Bool->Bool}:BE K (Uo K g) (eqS g):=λ{Oo c t σ H x y dx dy r t' Q} f rx ry eq k=>by
 unfold eqS at eq
 split at eq
 .split at eq
  .next hp=>
   rw[ug9] at hp;clear 5(uc1.mp eq)b e1 e2
   cases e2
   exact⟨c0,_,_,b,HJ f.s rx hp.1,HJ f.s ry hp.2,e1,k _ H c f .refl (.bl (g b))⟩
  .cases eq
 .obtain⟨b,e1,e2⟩:=uc1.mp eq
  cases e2
  exact⟨c,dx,dy,b,rx,ry,e1,k _ H c f .refl (.bl (g b))⟩
set_option tactic.hygienic false
theorem Rn{a:ig}{ns:List Int}{f:Fn}{S':List Ob}(hO:Pf H)(hS:SqL K H a (ns.map V.int))(e:f [.scr ns] []=some (.bl true,S')):spF K f [.ref a] H (λv _=>v=.bl true) λ_ _ _=>False:=by
 refine⟨c0,[.scr ns],[],⟨rfl,List.Pairwise.nil,λk a o h=>by simp[c0] at h,λb z=>z.elim,λb z=>z.elim⟩,.cons (.scr ?_) .nil,.bl true,S',e,λv H' c' _ _ _ rv=>by cases rv;rfl⟩;rcases hS with (h|h)|h
 .rcases hO a with z|⟨o,xs,z⟩
  .rw[z] at h;cases h
  .rw[z] at h;cases h
 .exact .inl ⟨h,MQ _⟩
 .exact .inr h
end
section
variable{prog:im}{w:ir}{A:Around}{E:ie->ij->Prop}{s:ij}
theorem Kn{it l:ig}{items:Array ie}(hne:l≠it):∀(n i:Nat) (s:ij) (Q:List ie->ij->Prop),s.heap.IsListIter it l i->s.heap.IsList l items->i+n<=items.size->
 (∀h',h'.IsListIter it l (i+n)->Heap.SameBut it s.heap h'->Q ((items.toList.drop i).take n) {s with heap:=h'})->wpAny (model prog w) A (draw (.ref it) n) Q E s
 |0,i,s,Q,hit,_,_,hQ=>un0 (by simpa using hQ s.heap hit (Heap.SameBut.refl ..))
 |n+1,i,s,Q,hit,ht,hle,hQ=>by
   have hlt:i<items.size:=by lia
   refine um9 (wpAny_pyNext_list_item hit ht (x:=items[i]) (by simp[hlt]) λh1 hit1 hs1=>?_);refine um9 (ul4 (Kn hne n (i+1) _ _ hit1 (ht.extBut hs1.extBut hne) (by lia) λh2 hit2 hs2=>un0 ?_));have hd:items.toList.drop i=items[i]::items.toList.drop (i+1):=by simp[ub2,hlt]
   have:=hQ h2 (by rw[show i+(n+1)=i+1+n by lia];exact hit2) (hs1.trans hs2);rw[hd,List.take_succ_cons] at this;exact this
theorem N0{l:ig}{items:Array ie}{targets:List (Bool×(ie->Sem Unit))}{Q:Unit->ij->Prop}(hh:A.handled=none)(ht:s.heap.IsList l items)(hn:targets.length=items.size)(hstar:targets.findIdx? (·.1)=none)
 (h:∀h',Heap.ExtBut s.heap.objs.size s.heap h'->wpAny (model prog w) A (assignInOrder (targets.map (·.2)) items.toList) Q E {s with heap:=h'}):wpAny (model prog w) A (unpack (.ref l) targets) Q E s:=by
 have hlt:l≠s.heap.objs.size:=by obtain⟨o,ho,_⟩:=ht;exact ul6 (ul5 ho)
 unfold unpack;rw[hn,hstar];refine um9 (ul4 ?_);unfold unpackItems;refine um9 ?_;unfold notIterableAtAll;refine um9 (kP ht.typeIs PySem.F.slot_list_iter.lookup ?_);refine un0 ?_;simp only[ue7,lv];refine um9 (ul4 (wpAny_pyIter_list ht ?_));have hp:Heap.IsList (s.heap.push {cls:=.type "list_iterator",data:=.fields #[.ref l,.int 0 0]}) l items:=by
  clear 5 ht o ho r;exact⟨o,ub9 _ ho,r⟩
 refine um9 (ul4 (Kn hlt items.size 0 _ _ ⟨_,ud6 _ rfl,rfl,rfl⟩ hp (by lia) λh1 hit1 hs1=>?_));have hall:List.take items.size (List.drop 0 items.toList)=items.toList:=by
  rw[uk0];exact uc2 (by simp)
 rw[hall];rw[lE (by simp)];have ht1:Heap.IsList h1 l items:=hp.extBut hs1.extBut hlt;refine um9 (ul4 (wpAny_pyNext_list_end hh hit1 ht1 (by simp) λh2 he2=>?_));simp only[Option.isSome_none,ue7,lv];exact un0 (h h2 λb o hb e=>he2 b o hb (hs1.extBut b o hb (ub9 _ e)))
end
section
variable{X:Cx}{pos:Pos}
def gUn(K:ib)(n:Nat)(t:TGs):TG:=λv σ H Q=>∃a xs,v=.ref a/\(SqT K H a xs\/SqL K H a xs)/\xs.length=n/\t xs σ H Q
theorem bE{es:List Expr}{k:Nat}{t:TGs}{n:Nat}(hc:X.calm=true)(h:PGs X es t)
 (hn:(assignEach es X.env).length=n:=by rfl) (hst:(assignEach es X.env).findIdx? (·.1)=none:=by rfl):PG X (.Tuple es k pos) (gUn X.K n t):=by
 intro ic s σ H v u Q I r hw;obtain⟨a,xs,e1,hq|hq,hl,hw⟩:=hw
 .exact ZB hc h hn hst ic s σ H v u Q I r ⟨a,xs,e1,hq,hl,hw⟩
 .subst e1
  cases r
  clear 5(I.list hq)its rv ht hz;rw[assign_Tuple];refine um9 (kU (N0 (I.ok.hd hc) ht.isList (by simp[hn,<-hl,rv.length]) hst λh' hx=>?_));have I1:Inv X ic σ H {s with heap:=h'}:=I.kept (t':=s.toks) λb o e=>hx b o (ul6 (ul5 e)) e;exact h ic _ σ H xs _ Q I1 (by simpa using rv) hw
end
section
open HT
variable{prog:im}{w:ir}{A:Around}{E:ie->ij->Prop}{s:ij}
theorem H9{t sl:ig}{items:Array ie}{vl vu:ie}{lo hi:Option Int}{Q:ie->ij->Prop}(ht:IsTup s.heap t items)(hs:s.heap.IsSliceOf sl vl vu .none)(pl:IsPart vl lo)(pu:IsPart vu hi)
 (hw:sIx items.size 0 lo=0/\sIx items.size items.size hi=items.size) (h:Q (.ref t) s):wpAny (model prog w) A (getItem (.ref t) (.ref sl)) Q E s:=by
 clear 5(id hs)os hos hcs hds;have hTs:s.TypeIs (.ref sl) "slice":=⟨os,hos,hcs⟩;unfold getItem
 try with_reducible refine ul4 ?_
 first|refine um9 (un0 ?_)|skip
 refine um9 (wpAny_sequenceKey ht.typeIs (by decide) ?_);refine um9 (wpAny_callSpecial?_slot (name:=Str.ofString "__getitem__") ht.typeIs ua1
  (wpAny_call_entry ua1 ht.typeIs entry_tuple_getitem ?_ (args_tuple_getitem _ _)))
 show wpAny _ _ (Builtin.Tuple.tupleItemsOf (.ref t) >>= _) _ _ s;refine um9 (tupleItemsOf_ ht ?_);refine um9 (lb hTs ?_);rw[lD (by decide)];refine um9 (GD hs pl pu ?_);have hyes:(((sIx items.size 0 lo:Nat):Int)==0&&(1:Int)==1&&(sIx items.size items.size hi-sIx items.size 0 lo)==items.size)=true:=by
  rw[hw.1,hw.2];simp
 show wpAny _ _ (if (((sIx items.size 0 lo:Nat):Int)==0&&(1:Int)==1&&(sIx items.size items.size hi-sIx items.size 0 lo)==items.size)=true then _ else _) _ _ s;rw[lD hyes];refine um9 (m:=Builtin.Tuple.tupleIsExact _) ?_;unfold Builtin.Tuple.tupleIsExact;refine um9 (lb ht.typeIs (un0 ?_));rw[lD (by decide)]
 first
  |exact um9 (wpAny_rule (un0 ⟨_,rfl,un0 h⟩))
  |exact um9 (wpAny_rule (um9 (un0 (un0 ⟨_,rfl,un0 h⟩))))
end
section
variable{X:Cx}
def ZZ(K:ib):V->Option Int->Option Int->Hp->VK->Prop:=λx lo hi H Q=>∃a xs,x=.ref a/\SqT K H a xs/\(HT.sIx xs.length 0 lo=0/\HT.sIx xs.length xs.length hi=xs.length)/\Q (.ref a) H
theorem Xq:SlR X (ZZ X.K):=by
 intro ic s σ H x v vl vu lo hi sl Q I rx hs pl pu h;clear 5 h a xs rfl hx hw q
 cases rx
 clear 5(I.tuple hx)its r ht hz;have hlen:its.toArray.size=xs.length:=by rw[uf3];exact r.length.symm
 exact⟨"tuple",_,ua1.lookup,ht.typeIs,H9 ht hs pl pu (by rw[hlen];exact hw) ⟨.ref a,H,I,rfl,q⟩⟩
end
noncomputable def Its(z:Str):It:=⟨λi _=>i<z.cps.size,λi H x H'=>H'=H/\∃c,z.cps[i]?=some c/\x=.str ⟨#[c]⟩,λi _=>i=z.cps.size⟩
theorem NZ{P:im}{w:ir}{K:ib}{tg:Expr}{T:String}{x:Str}{t:Tok}(it:ig)(hT:["enumerate", "zip", "dict_itemiterator", "dict_reverseitemiterator", "odict_iterator", "itertools.zip_longest", "itertools.pairwise"].contains T=false)
 (W:∀A:Around,A.handled=none->Walks P w A it [it] [it] x.cps.size (SignAt x) (λi h=>h.IsStrIter it T x t i))
 (self:∀(A:Around) (i:Nat) (s:ij) (Q:ie->ij->Prop) (E:ie->ij->Prop),s.heap.IsStrIter it T x t i->Q (.ref it) s->wpAny (model P w) A (pyIter (.ref it)) Q E s) :
 Turn P w K tg (Its x) [it] it (λi h=>h.IsStrIter it T x t i) where
 mem:=by simp
 obj:=λi h st b hb=>by
  have e:b=it:=by simpa using hb
  subst e;clear 5 st o e c d;exact⟨o,e,λv z=>by rw[d] at z;cases z⟩
 keep:=λi h h' st k=>by
  clear 5 st o e r;exact⟨o,k it (by simp) o e,r⟩
 item:=by
  intro X hP hw hK hc i ic s σ H E I hf st hg;subst hP hw hK;clear 5(hf it (by simp))f0 f1 f2 f3 f4 f5;refine(W X.A (I.ok.hd hc)).item i s _ _ hg st λv h' tk hv st' kk=>?_;clear 5 hv c u hcc rfl;have I1:Inv X ic σ H {s with heap:=h',toks:=tk}:=I.turned (λb o hb e=>kk b o (by simpa using hb) e) f0 f1 f3 f4 f5;clear 5(id st')o e ec ed;exact⟨_,rfl,Mw (s:={s with heap:=h',toks:=tk}) e ec ed hT ⟨.str ⟨#[c]⟩,H,I1,⟨u,rfl⟩,⟨rfl,c,hcc,rfl⟩,st',λb hb=>(hf b hb).1⟩⟩
 done:=by
  intro X hP hw hK hc i ic s σ H E I hf st hg;subst hP hw hK;clear 5(hf it (by simp))f0 f1 f2 f3 f4 f5;have hg':i=x.cps.size:=hg;subst hg';exact(W X.A (I.ok.hd hc)).done s _ _ st λh' tk kk=>⟨rfl,I.turned (λb o hb e=>kk b o (by simpa using hb) e) f0 f1 f3 f4 f5⟩
 self:=λA i s Q E st h=>self A i s Q E st h
section
variable{X:Cx}{tg:Expr}{pos:Pos}
def dQ(K:ib)(tl:TE):TI:=λσ H R=>tl σ H λx H1=>(∃a,x=.ref a/\(∃xs,SqL K H1 a xs)/\R (Itl K a) H1)\/(∃a,x=.ref a/\(∃xs,SqT K H1 a xs)/\R (Itt K a) H1)\/∃z,x=.str z/\R (Its z) H1
theorem R3{l:Expr}{tl:TE}(hl:PE X l tl):PI X tg l (dQ X.K tl):=by
 intro ic s σ H R I h;refine thn (hl ic s σ H _ I h) λv s1 z9=>?_;clear 5 z9 x H1 I1 r1 q1;have fp:∀b∈[s1.heap.objs.size],FpOk X ic H1 b:=λb hb=>by
  have e:b=s1.heap.objs.size:=by simpa using hb
  subst e;exact I1.fpOk (um5 _) (I1.hok.fresh (um5 _))
 rcases q1 with⟨a,rfl,⟨xs,hq⟩,q⟩|⟨a,rfl,⟨xs,hq⟩,q⟩|⟨z,rfl,q⟩
 .cases r1
  clear 5(I1.list hq)its rv p hz;refine wpAny_pyIter_list p.isList ?_;exact⟨s1.heap.objs.size,[s1.heap.objs.size],_,_,H1,rfl,I1.kept (t':=s1.toks) λb o e=>ub9 _ e,SE a _,⟨_,ud6 _ rfl,rfl,rfl⟩,fp,q⟩
 .cases r1
  clear 5(I1.tuple hq)its rv p hz;refine wpAny_pyIter_tuple (show s1.heap.IsTuple a its.toArray from p) ?_;exact⟨s1.heap.objs.size,[s1.heap.objs.size],_,_,H1,rfl,I1.kept (t':=s1.toks) λb o e=>ub9 _ e,Qo a _,⟨_,ud6 _ rfl,rfl,rfl⟩,fp,q⟩
 .obtain⟨t,rfl⟩:=r1
  cases ha:z.cps.all (· < 128)
  .refine wpAny_pyIter_wide ha ?_;exact⟨s1.heap.objs.size,[s1.heap.objs.size],_,_,H1,rfl,I1.kept (t':=s1.toks) λb o e=>ub9 _ e,NZ (T:="str_iterator") (x:=z) (t:=t) _ (by decide) (λA hA=>Walks.strWide hA _ z t) (λ_ _ _ _ _ st h=>wpAny_pyIter_striter_wide st h),⟨_,ud6 _ rfl,rfl,rfl⟩,fp,q⟩
  .refine wpAny_pyIter_ascii ha ?_;exact⟨s1.heap.objs.size,[s1.heap.objs.size],_,_,H1,rfl,I1.kept (t':=s1.toks) λb o e=>ub9 _ e,NZ (T:="str_ascii_iterator") (x:=z) (t:=t) _ (by decide) (λA hA=>Walks.strAscii hA _ z t) (λ_ _ _ _ _ st h=>wpAny_pyIter_striter_ascii st h),⟨_,ud6 _ rfl,rfl,rfl⟩,fp,q⟩
def Vg:R2:=λx y H Q=>∃z k,x=.str z/\y=.int k/\MulOk z k/\Q (.str (Txt.mul z k)) H
theorem WA:OpR X (binaryOp .Mult) Vg:=by
 intro ic s σ H x y v u Q I rx ry h;clear 5 h z k rfl rfl hk q;clear 5 rx t rfl;clear 5 ry t' rfl;exact SB.mul hk λt2 tk=>⟨.str _,H,I.tok tk,⟨t2,rfl⟩,q⟩
def ZX:V->Option Int->Option Int->Hp->VK->Prop:=λx lo hi H Q=>∃z,x=.str z/\z.length<=sizeLine/\Q (.str (Txt.slice z lo hi)) H
theorem sl_str:SlR X ZX:=by
 intro ic s σ H x v vl vu lo hi sl Q I rx hs pl pu h;clear 5 h z rfl hz q;clear 5 rx t rfl;refine⟨"str",_,PySem.F.slot_str_getitem.lookup,typeIs_str _ _ _,?_⟩;have part:∀{v:ie}{o:Option Int},IsPart v o->∃l:Option (Int×Tok),v=partValue l/\l.map (·.1)=o:=λ{v o} p=>by
  cases p with
  |none=>exact⟨none,rfl,rfl⟩
  |int i t=>exact⟨some (i,t),rfl,rfl⟩
 clear 5(part pl)l rfl el;clear 5(part pu)u rfl eu;refine wpAny_getItem_str_slice (l:=l) (u:=u) (st:=none) (by clear 5 hs o h1 h2 h3;exact⟨o,h1,h2,h3⟩) rfl ?_;unfold sliceMade slicePicked;rw[el,eu];show(if ((1:Int)==1&&(Builtin.Str.strSliceIndices lo hi 1 z.length).length==z.length)=true then Made.val (.str z t) else Made.str ⟨((Builtin.Str.strSliceIndices lo hi 1 z.length).filterMap (z.cps[·]?)).toArray⟩).post _ s;have hle:=Txt.slice_le z lo hi;unfold Txt.slice at q hle
 by_cases hc:((1:Int)==1&&(Builtin.Str.strSliceIndices lo hi 1 z.length).length==z.length)=true
 .rw[lD hc] at q⊢;exact⟨.str z,H,I,⟨t,rfl⟩,q⟩
 .rw[lE hc] at q hle⊢;exact⟨ul7 hle hz,.str _,H,I.tok _,⟨_,rfl⟩,q⟩
def HI(g:Int->Int->Bool)(h:List Nat->List Nat->Bool):R2:=λx y H Q=>(∃i j,x=.int i/\y=.int j/\Q (.bl (g i j)) H)\/∃i j,x=.str i/\y=.str j/\Q (.bl (h i.cps.toList j.cps.toList)) H
theorem Zj:OpR X (compareOp .Lt) (HI (λi j=>decide (i<j)) λi j=>decide (i<j)):=op_lt.or λic s σ H x y v u Q I rx ry h=>by
 clear 5 h i j rfl rfl q;clear 5 rx t rfl;clear 5 ry t' rfl;exact P.lt_str ⟨.bl _,H,I,rfl,q⟩
theorem RW:OpR X (compareOp .LtE) (HI (λi j=>decide (i<=j)) λi j=>!(decide (j<i))):=op_le.or λic s σ H x y v u Q I rx ry h=>by
 clear 5 h i j rfl rfl q;clear 5 rx t rfl;clear 5 ry t' rfl;exact P.le_str ⟨.bl _,H,I,rfl,q⟩
theorem RQ:OpR X (compareOp .Gt) (HI (λi j=>decide (j<i)) λi j=>decide (j<i)):=op_gt.or λic s σ H x y v u Q I rx ry h=>by
 clear 5 h i j rfl rfl q;clear 5 rx t rfl;clear 5 ry t' rfl;exact P.gt_str ⟨.bl _,H,I,rfl,q⟩
theorem Zh:OpR X (compareOp .GtE) (HI (λi j=>decide (j<=i)) λi j=>!(decide (i<j))):=op_ge.or λic s σ H x y v u Q I rx ry h=>by
 clear 5 h i j rfl rfl q;clear 5 rx t rfl;clear 5 ry t' rfl;exact P.ge_str ⟨.bl _,H,I,rfl,q⟩
end
def DI:D->M (List D)
 |.lst ds=>ret ds
 |.scr ns=>ret (ns.map .int)
 |.tup ds=>ret ds
 |.str x=>ret (x.cps.toList.map λc=>.str ⟨#[c]⟩)
 |.gts xs=>ret (xs.map .str)
 |_=>fail
def Dn(f:M D):M (List D):=bnd f DI
def CN:D->D->M D
 |.str x,.int k=>λt=>if C4 k=true/\x.length*k.toNat<=LIM/\k<=LIM/\x.length<=LIM then some (.str (Txt.mul x k),t) else none
 |x,y=>T0 x y
def GC:D->Option Int->Option Int->M D
 |.str x,lo,hi=>lim x.length (.str (Txt.slice x lo hi))
 |.tup ds,lo,hi=>ret (.tup (Ci ds lo hi))
 |x,lo,hi=>slD x lo hi
def M4(g:Int->Int->Bool)(h:List Nat->List Nat->Bool):D->D->M D
 |.int i,.int j=>ret (.bl (g i j))
 |.str x,.str y=>ret (.bl (h x.cps.toList y.cps.toList))
 |_,_=>fail
def ltA:=M4 (λi j=>decide (i<j)) (λi j=>decide (i<j))
def leA:=M4 (λi j=>decide (i<=j)) (λi j=>!(decide (j<i)))
def gtA:=M4 (λi j=>decide (j<i)) (λi j=>decide (j<i))
def geA:=M4 (λi j=>decide (j<=i)) (λi j=>!(decide (i<j)))
def unS(n:Nat)(g:List D->M Unit):D->M Unit
 |.tup ds=>if ds.length=n then g ds else fail
 |.lst ds=>if ds.length=n then g ds else fail
 |_=>fail
def dG:M D:=fC .dic
section
variable{μ:Cf->Hp->D->(V->Hp->Prop)->Prop}{tg:Expr}{K:ib}{n:Nat}{g:List D->M Unit}{es:List Expr}
section
variable{X:Cx}{e a b:Expr}{pos:Pos}{st:Stmt}
theorem Oz:PS X st (RSg X.K μ fail):=λic s σ H E I ⟨Oo,c,t,fi,o,t',eq,k⟩=>by cases eq
theorem ItOk.str{K:ib}{c:Cf}{H:Hp}{x:Str}:ItOk K (Its x) c H (x.cps.toList.map λc=>.str ⟨#[c]⟩):=by
 refine⟨λc' H' i ex hi=>?_,λc' H' i y H'' d ex hd hy=>?_,λc' H' ex=>?_⟩
 .show i<x.cps.size;simpa using hi
 .clear 5 hy rfl n hn rfl;refine⟨rfl,?_⟩;have:d=.str ⟨#[n]⟩:=by
   rw[uf4] at hd;have hn':x.cps.toList[i]?=some n:=by simpa using hn
   rw[hn'] at hd;simpa using hd.symm
  rw[this];exact .str _
 .show _=x.cps.size;simp
theorem Yy{f:M D}(h:PE X e (RE X.K f)):PI X tg e (RI X.K (Dn f)):=
 JZ (R3 h) λσ H R z9=>by
  clear 5 z9 Oo c t fi ds t' eq k;clear 5(Ai eq)d t1 e1 eq;refine⟨Oo,c,t,fi,d,t1,e1,λv H1 c1 f1 s1 rv=>?_⟩
  cases rv with
  |@lst p vs ds' h1 h2 h3=>
    cases eq
    exact .inl ⟨p,rfl,⟨vs,SqL.of h1⟩,k _ H1 c1 f1 s1 (ItOk.lst λc' H' ex=>⟨vs,SqL.of (ex.keep _ _ h1 h2),h3.mono ex⟩)⟩
  |@scr p ns h1=>
    cases eq
    exact .inl ⟨p,rfl,⟨_,h1.sq⟩,k _ H1 c1 f1 s1 (ItOk.lst λc' H' ex=>⟨_,(h1.mono ex).sq,Reps.ints ns⟩)⟩
  |@tup p vs ds' h1 h2 h3=>
    cases eq
    exact .inr (.inl ⟨p,rfl,⟨vs,SqT.of h1⟩,k _ H1 c1 f1 s1 (ItOk.tup λc' H' ex=>⟨vs,SqT.of (ex.keep _ _ h1 h2),h3.mono ex⟩)⟩)
  |str x=>
    cases eq
    exact .inr (.inr ⟨x,rfl,k _ H1 c1 f1 s1 ItOk.str⟩)
  |@gts p xs hk=>
    cases eq
    exact .inr (.inl ⟨p,rfl,⟨_,.inr hk⟩,k _ H1 c1 f1 s1 (ItOk.tup λc' H' ex=>⟨_,.inr hk,Reps.strs xs⟩)⟩)
  |_=>cases eq
theorem RG.un{v:V}{σ:L2.St}{H:Hp}{Q:L2.St->Hp->Prop}(q:RG K (unS n g) v σ H Q):gUn K n (RGs K g) v σ H Q:=by
 clear 5 q Oo c t d fi rv t' eq k
 cases rv with
 |@tup a vs ds h1 h2 h3=>
   unfold unS at eq
   by_cases hn:ds.length=n
   .dsimp only at eq;rw[lD hn] at eq;exact⟨a,vs,rfl,.inl (SqT.of h1),by rw[h3.length];exact hn,Oo,c,t,ds,fi,h3,t',eq,k⟩
   .dsimp only at eq;rw[lE hn] at eq;cases eq
 |@lst a vs ds h1 h2 h3=>
   unfold unS at eq
   by_cases hn:ds.length=n
   .dsimp only at eq;rw[lD hn] at eq;exact⟨a,vs,rfl,.inr (SqL.of h1),by rw[h3.length];exact hn,Oo,c,t,ds,fi,h3,t',eq,k⟩
   .dsimp only at eq;rw[lE hn] at eq;cases eq
 |_=>cases eq
theorem bg{k:Nat}(hc:X.calm=true)(h:PGs X es (RGs X.K g))(hn:(assignEach es X.env).length=n:=by rfl)(hst:(assignEach es X.env).findIdx? (·.1)=none:=by rfl):PG X (.Tuple es k pos) (RG X.K (unS n g)):=
 MH (bE hc h hn hst) λ_ _ _ _ q=>RG.un q
theorem Tp{f:D->M Unit}(h1:PG X e (RG X.K f))(h2:PGs X es (RGs X.K g))(hs:(assignEach (e::es) X.env).map (·.2)=assign e X.env::(assignEach es X.env).map (·.2):=by rfl):PGs X (e::es) (RGs X.K (AR f g)):=
 Og (Ue h1 h2 hs) λ_ _ _ _ q=>RGs.cons q
end
section
variable{K:ib}
def Vf(K:ib):R2:=λx y H Q=>Qg K x y H Q\/Vg x y H Q
theorem Wz{X:Cx}:OpR X (binaryOp .Mult) (Vf X.K):=op_mul3.or WA
theorem Oa{x:Str}{k:Int}(h:C4 k=true/\x.length*k.toNat<=LIM/\k<=LIM/\x.length<=LIM):MulOk x k:=by
 clear 5(GO h.1)g1 g2;have hL:LIM=100000:=rfl;refine⟨?_,λh1 _=>?_,λh1 _=>?_⟩
 .rw[Bool.or_eq_false_iff];exact⟨uj5 (by lia),uj5 (by lia)⟩
 .have h2:k<=100000:=by have:=h.2.2.1;rw[hL] at this;exact this
  have h3:x.length<=100000:=by have:=h.2.2.2;rw[hL] at this;exact this
  have h4:(92233720368547:Int)<=(2 ^ 63-1)/k:=by
   rw[Int.le_ediv_iff_mul_le (by lia)];lia
  lia
 .have h5:=h.2.1;rw[hL] at h5;unfold Builtin.Str.tooLong
  first|exact uj5 (by unfold sizeLine;lia)|(unfold sizeLine;exact uj5 (by lia))
set_option tactic.hygienic true in
theorem Uy:BE K (Vf K) CN:=λ{Oo c t σ H x y dx dy r t' Q} f rx ry eq k=>by
 unfold CN at eq
 split at eq
 .next z kk=>
  split at eq
  .next h=>
   cases eq
   cases rx
   cases ry
   exact .inr ⟨z,kk,rfl,rfl,Oa h,k _ H c f .refl (.str _)⟩
  .cases eq
 .exact .inl (Xj f rx ry eq k)
def Uq(K:ib):V->Option Int->Option Int->Hp->VK->Prop:=λx lo hi H Q=>Up K x lo hi H Q\/(ZX x lo hi H Q\/ZZ K x lo hi H Q)
theorem sl3{X:Cx}:SlR X (Uq X.K):=sl2.or (sl_str.or Xq)
theorem Pt{α:Type}{xs:List α}{lo hi:Option Int}(h:HT.sIx xs.length 0 lo=0/\HT.sIx xs.length xs.length hi=xs.length):Ci xs lo hi=xs:=by
 unfold Ci;rw[h.1,h.2];simp
set_option tactic.hygienic true in
theorem O5:Ph K (Uq K) GC:=λ{Oo c t σ H x dx r lo hi t' Q} f rx eq k=>by
 unfold GC at eq
 split at eq
 .next z=>
  clear 5(EE eq)h e
  cases e
  cases rx
  exact .inr (.inl ⟨z,rfl,ul7 h DG,k _ H c f .refl (.str _)⟩)
 .next ds=>
  cases eq
  cases rx with
  |@tup p vs ds h1 h2 h3=>
    by_cases hw:HT.sIx ds.length 0 lo=0/\HT.sIx ds.length ds.length hi=ds.length
    .rw[Pt hw] at k;exact .inr (.inr ⟨p,vs,rfl,SqT.of h1,by rw[h3.length];exact hw,k _ H c f .refl (.tup h1 h2 h3)⟩)
    .exact .inl (.inr ⟨p,vs,rfl,SqT.of h1,by rw[h3.length];exact hw,λq hq=>k _ _ c (f.laid hq) (f.stp_laid hq) (.tup AG (f.s.free hq) ((Fg h3 lo hi).mono (Ext.laid f.s hq)))⟩)
 .exact .inl (ag f rx eq k)
theorem Jm{g:Int->Int->Bool}{h:List Nat->List Nat->Bool}:BE K (HI g h) (M4 g h):=λ{Oo c t σ H x y dx dy r t' Q} f rx ry eq k=>by
 cases rx with
 |int i=>cases ry with
   |int j=>cases eq;exact .inl ⟨i,j,rfl,rfl,k _ H c f .refl (.bl _)⟩
   |_=>cases eq
 |str i=>cases ry with
   |str j=>cases eq;exact .inr ⟨i,j,rfl,rfl,k _ H c f .refl (.bl _)⟩
   |_=>cases eq
 |_=>cases eq
theorem Xf:BE K (HI (λi j=>decide (i<j)) λi j=>decide (i<j)) ltA:=Jm
theorem O4:BE K (HI (λi j=>decide (i<=j)) λi j=>!(decide (j<i))) leA:=Jm
theorem O3:BE K (HI (λi j=>decide (j<i)) λi j=>decide (j<i)) gtA:=Jm
theorem W9:BE K (HI (λi j=>decide (j<=i)) λi j=>!(decide (i<j))) geA:=Jm
end
variable{fa:ig}{fd:iu}
theorem YA{P:im}{w:ir}{mg:Str->Option ie}{base:Heap}{x qual:Str}{st:Stmt}{N ps:List Str}{k m:Nat}{g:M Out}(e1:ps.length=n)(e2:N.length=m)(F:Fun K x qual st fa fd)(S:FnScope N ps (AD st))
 (hb:∀(cdv:ie) (A:Around) (outer:List Env) (s:ij) (H:Hp) (E:XK),Room k (A.deeper (PyProof.Rows.envOfC qual (AD st) s.heap.objs.size fa cdv))->
   PSs (E7 CX0 P w K mg base N qual (AD st) fa cdv A outer s H E).nox (B6 st) (RS K g)):FnOk P w K mg base CX0 (k+1) fa fd ps (spF K (fnOf n m g)):=by
 subst e1 e2;exact bh F S hb
theorem Z9{P:im}{w:ir}{mg:Str->Option ie}{base:Heap}{ps:List Str}{k:Nat}{f g:Fn}(e:f=g)(h:FnOk P w K mg base CX0 k fa fd ps (spF K g)):FnOk P w K mg base CX0 k fa fd ps (spF K f):=by rw[e];exact h
theorem XY:bootBuiltins "len" = some (.builtin "len"):=by decide +kernel
theorem Ml:bootBuiltins "isinstance" = some (.builtin "isinstance"):=by decide +kernel
theorem X8:bootBuiltins "ord" = some (.builtin "ord"):=by decide +kernel
theorem X7:bootBuiltins "min" = some (.builtin "min"):=by decide +kernel
theorem XZ:bootBuiltins "max" = some (.builtin "max"):=by decide +kernel
theorem QH:bootBuiltins "int" = some (.type "int"):=by decide +kernel
theorem X9:bootBuiltins "str" = some (.type "str"):=by decide +kernel
theorem Vx:bootBuiltins "bool" = some (.type "bool"):=by decide +kernel
theorem Ol:bootBuiltins "list" = some (.type "list"):=by decide +kernel
theorem SY:bootBuiltins "tuple" = some (.type "tuple"):=by decide +kernel
noncomputable def Bn:Expr->Bool
 |.Starred _ _=>true
 |_=>false
theorem Bp{e:Expr}{env:Env}(h:Bn e=false):starEach (e::es) env=(false,eval e env)::starEach es env:=by
 cases e<;>first|rfl|cases h
def Bs(es:List Expr):Bool:=es.all λe=>!Bn e
theorem Bj:∀{es:List Expr}{env:Env}{p:Pos},Bs es=true->(backTo p (starEach es env)).any (·.1)=false/\(backTo p (starEach es env)).all (λx=>!x.1)=true
 |[],env,p,_=>⟨rfl,rfl⟩
 |e::es,env,p,h=>by
   have h':Bn e=false/\Bs es=true:=by
    rw[Bs,uk6,ug9] at h;exact⟨by simpa using h.1,h.2⟩
   clear 5(Bj (es:=es) (env:=env) (p:=p) h'.2)h1 h2;rw[Bp h'.1];refine⟨?_,?_⟩
   .show(false||(backTo p (starEach es env)).any (·.1))=false;rw[h1];rfl
   .show(!false&&(backTo p (starEach es env)).all (λx=>!x.1))=true;rw[h2];rfl
variable{f:M (List D)}{p:Pos}{id:String}{R:List V->Hp->VK->Prop}
section
variable{X:Cx}{e a b:Expr}{es:List Expr}{pos:Pos}
theorem Tg{f:M D}{g:M (List D)}(ha:PE X e (RE X.K f))(hr:PA X es (RA X.K g))(hs:Bn e=false:=by rfl):PA X (e::es) (RA X.K (Ab f g)):=VF ha hr (Bp hs)
theorem Ti{k:Nat}{ps:List Str}{g:Fn}{x:Str}(F:FnOk X.prog X.w X.K X.mg X.base CX0 k fa fd ps (spF X.K g))(hr:Room k X.A)(hg:Gl X x)(hm:X.mg x=some (.ref fa))(hk:PySem.W.keepIn X.K (.ref fa)=true)(hb:Binds X.K fd ps [])
 (ha:PA X (e::es) (RA X.K f)) (hdb:(x==("__debug__":Str))=false:=by decide) (h1:Bn e=false:=by rfl) (h2:Bs es=true:=by rfl) :
 PE X (.Call (.Name x p) (e::es) [] pos) (RE X.K (Ak g f)):=VG F hr hg hm hk hb ha hdb (Bp h1) (Bj h2).1
theorem Kr{h:List D->M D}{x:Str}(hc:Dc X (.builtin id) R)(s:F1 X.K R h)(hg:Gl X x)(hm:X.mg x=none)(hv:bootBuiltins x=some (.builtin id))(ha:PA X (e::es) (RA X.K f))(hn:x≠"__name__":=by decide)(hdb:(x==("__debug__":Str))=false:=by decide)
 (h1:Bn e=false:=by rfl) (h2:Bs es=true:=by rfl):PE X (.Call (.Name x p) (e::es) [] pos) (RE X.K (fB f h)):=dH hc s hg hm hv ha hn hdb (Bp h1) (Bj h2).1
theorem a8{h:List D->M D}{x:Str}(hc:Dc X (.type id) R)(s:F1 X.K R h)(hg:Gl X x)(hm:X.mg x=none)(hv:bootBuiltins x=some (.type id))(ha:PA X (e::es) (RA X.K f))(hn:x≠"__name__":=by decide)(hdb:(x==("__debug__":Str))=false:=by decide)
 (h1:Bn e=false:=by rfl) (h2:Bs es=true:=by rfl):PE X (.Call (.Name x p) (e::es) [] pos) (RE X.K (fB f h)):=dI hc s hg hm hv ha hn hdb (Bp h1) (Bj h2).1
theorem bb{h:List D->M (List D)}{x:Str}(hc:Dc X (.type id) R)(s:J2 X.K R h)(hg:Gl X x)(hm:X.mg x=none)(hv:bootBuiltins x=some (.type id))(ha:PA X (e::es) (RA X.K f))(hn:x≠"__name__":=by decide)(hdb:(x==("__debug__":Str))=false:=by decide)
 (h1:Bn e=false:=by rfl) (h2:Bs es=true:=by rfl):PE X (.Call (.Name x p) (e::es) [] pos) (RF X.K (fBF f h)):=dJ hc s hg hm hv ha hn hdb (Bp h1) (Bj h2).1
theorem Py(hg:Gl X "range")(hm:X.mg "range" = none)(ha:PA X [a] (RA X.K f))(h1:Bn a=false:=by rfl):PI X tg (.Call (.Name "range" p) [a] [] pos) (RI X.K (Do f)):=Q1 hg hm ha (Bp h1)
theorem Pz(hg:Gl X "range")(hm:X.mg "range" = none)(ha:PA X [a,b] (RA X.K f))(h1:Bn a=false:=by rfl)(h2:Bn b=false:=by rfl):PI X tg (.Call (.Name "range" p) [a,b] [] pos) (RI X.K (GN f)):=
 Q2 hg hm ha (by rw[Bp h1,Bp h2];rfl) (Bp h2)
theorem QZ{cpos:Pos}(h1:Bn e=false)(h2:Bs es=true)(h3:es.length<20):((backTo cpos (starEach (e::es) X.env)).all (λx=>!x.1)&&(backToKw cpos (keywordEach [] X.env)).all (λx=>x.1.isSome)&&decide ((e::es).length+([]:List Keyword).length+(if ([]:List Keyword).isEmpty then 0 else 1)<30))=true:=by
 rw[(Bj (es:=e::es) (env:=X.env) (p:=cpos) (by rw[Bs,uk6,h1];exact h2)).2];show(true&&true&&decide (es.length+1+0+0<30))=true;simp;lia
theorem PF(i:Nat){x:Str}{g:M (List D)}{px apos cpos:Pos}(ha:PA X (e::es) (RA X.K g))(hN:X.N[i]?=some x:=by rfl)(hv:Vis X.env.scope x:=by walk_at"h")(hd:(x==("__debug__":Str))=false:=by decide)
 (hcd:(x==("__classdict__":Str))=false:=by decide) (hline:(apos.endLine==cpos.line)=true:=by rfl) (h1:Bn e=false:=by rfl) (h2:Bs es=true:=by rfl) (h3:es.length<20:=by decide) :
 PS X (.Expr (.Call (.Attribute (.Name x px) "append" apos) (e::es) [] cpos) pos) (RSg X.K μ (ownM i BH g)):=Q3 i ha hN hv hd hcd rfl (QZ h1 h2 h3) hline (Bp h1) (Bj h2).1
theorem PJ(i:Nat){x:Str}{g:M (List D)}{px apos cpos:Pos}(ha:PA X (e::es) (RA X.K g))(hN:X.N[i]?=some x:=by rfl)(hv:Vis X.env.scope x:=by walk_at"h")(hd:(x==("__debug__":Str))=false:=by decide)
 (hcd:(x==("__classdict__":Str))=false:=by decide) (hline:(apos.endLine==cpos.line)=true:=by rfl) (h1:Bn e=false:=by rfl) (h2:Bs es=true:=by rfl) (h3:es.length<20:=by decide) :
 PS X (.Expr (.Call (.Attribute (.Name x px) "extend" apos) (e::es) [] cpos) pos) (RSg X.K μ (ownM i EV g)):=Q4 i ha hN hv hd hcd rfl (QZ h1 h2 h3) hline (Bp h1) (Bj h2).1
end
end
end L2
namespace HT
open PySem PySem.Spec L2 PyProof.Rows
section
variable{prog:im}{w:ir}{A:Around}{E:ie->ij->Prop}{s:ij}
end
end HT
namespace L2
open PySem PySem.Spec PyProof.Rows
section
variable{X:Cx}{e ek:Expr}{p2 pos:Pos}{te:TE}{tk:TO}
theorem Vals.rev{xs:List V}{us:List ie}(r:Vals xs us):Vals xs.reverse us.reverse:=by
 induction r with
 |nil=>exact .nil
 |cons r1 _ ih=>rw[ug1,ug1];exact ih.append (.cons r1 .nil)
end
section
variable{X:Cx}
end
section
variable{X:Cx}
end
section
variable{X:Cx}
end
section
variable{X:Cx}{K:ib}
theorem Reps.rev{c:Cf}{H:Hp}:∀{ds:List D}{vs:List V},Reps K c H vs ds->Reps K c H vs.reverse ds.reverse
 |[],_,r=>by cases r;exact .nil
 |_::_,_,r=>by
   cases r with
   |cons r1 r2=>rw[ug1,ug1];exact(Reps.rev r2).append (.cons r1 .nil)
end
def Sd:R2:=λx y H Q=>∃a kvs k v,x=.ref a/\y=.str k/\H a=some (.dK kvs)/\DU kvs (Sum.inr k:Key)=some v/\Q v H
def ZO:V->V->V->Hp->(Hp->Prop)->Prop:=λo i v H Q=>∃a kvs k,o=.ref a/\i=.str k/\H a=some (.dK kvs)/\kvs.length<sizeLine/\Q (upd H a (.dK (Ex kvs (Sum.inr k:Key) v)))
section
variable{X:Cx}
theorem YM:IxR X Sd:=by
 intro value slice ic s σ H x y v u Q I rx ry h hs;clear 5 h a kvs k z rfl rfl e l q
 cases rx
 obtain⟨_,_,vs,rel,dd⟩:=IX I.hok e;have g:DGet H a (kV (Sum.inr k:Key)) (some z):=by rw[<-l];exact DGet.k e
 have hT:=dd.typeIs;unfold subscriptTail;refine um9 ?_;rw[getitemInPython_of_ne hT.not_modules];refine um9 (kP hT PySem.F.slot_dict_getitem.lookup ?_);have get:wpAny (model X.prog X.w) X.A (getItem (.ref a) u) (EP X ic σ Q) X.xe s:=by
  clear 5(RelO.some_of (v:=z) (o:=valueAt vs (Sum.inr k:Key)) (by rw[<-l];exact rel.val _))w' hw rw';exact wpAny_getItem_of (KB (k:=(Sum.inr k:Key)) ry) dd.mapOf hw ⟨z,H,I.tok _,rw',q⟩
 have fin:wpAny (model X.prog X.w) X.A (subscripted slice false (.ref a) u) (λr s₃=>wpAny (model X.prog X.w) X.A (letTemporaryGo value (.ref a) r >>= λ_=>pure r) (EP X ic σ Q) X.xe s₃) X.xe s:=by
  rw[hs];exact wpAny_operating (un1 get (λr s₃ h₃=>um9 (wpAny_letTemporaryGo (un0 h₃))) λ_ _ x=>x)
 first
  |exact un0 (um9 fin)
  |exact um9 (un0 (um9 fin))
  |exact um9 fin
theorem Xn:XT X ZO:=by
 intro ic s σ H o i v ov iv u Q I ro ri rv h;clear 5 h a kvs k rfl rfl e l q
 cases ro
 clear 5(IX I.hok e)z hd vs rel dd;have hz:vs.length<=sizeLine:=by rw[<-rel.length];exact z
 have hl:(Ex kvs (Sum.inr k:Key) v).length<=sizeLine:=by have:=Jy kvs (Sum.inr k:Key) v;lia
 refine wpAny_setItem_pairs (hsz:=hz) (KB (k:=(Sum.inr k:Key)) ri) dd λh' dd' hs=>⟨_,?_,q⟩;have he:∃q,h'.get? a=some q:=let ⟨q,_,_,hq,_⟩:=dd';⟨q,hq⟩;exact Op I (by rw[e];exact True.intro) hs he (M7 hl hd (rel.put _ rv) dd')
end
noncomputable def Be(kvs:List (Key×D))(k:Key):Option D:=(kvs.find? λkv=>decide (kv.1=k)).map (·.2)
noncomputable def BQ(kvs:List (Key×D))(k:Key)(d:D):List (Key×D):=
 if (kvs.any λkv=>decide (kv.1=k))=true then kvs.map (λkv=>if kv.1=k then(kv.1,d) else kv) else kvs++[(k,d)]
def As:D->D->M D
 |.obj n,.str x=>λt=>match t.S[n]? with
   |some (.dct kvs)=>(Be kvs (.inr x)).map λd=>(d,t)
   |_=>none
 |_,_=>fail
def Hk:D->D->D->M Unit
 |.obj n,.str x,d=>λt=>match t.S[n]? with
   |some (.dct kvs)=>if kvs.length<LIM then some ((),{t with S:=t.S.set n (.dct (BQ kvs (.inr x) d))}) else none
   |_=>none
 |_,_,_=>fail
def D0(f g:M D)(d:D):M Unit:=bnd f λo=>bnd g λi=>Hk o i d
def EA:List (Str×M D)->M (List (Key×D))
 |[]=>ret []
 |(k,f)::r=>bnd f λd=>bnd (EA r) λps=>ret ((.inr k,d)::ps)
def Dh(ps:List (Key×D)):List (Key×D):=ps.foldl (λacc kv=>BQ acc kv.1 kv.2) []
def FT(n:Nat)(ps:List (Key×D)):M D:=λt=>match t.S[n]? with
 |some (.dct [])=>if ps.length<=15 then some (.obj n,{t with S:=t.S.set n (.dct (Dh ps))}) else none
 |_=>none
def El(l:List (Str×M D)):M D:=λt=>bnd (EA l) (FT t.S.length) {t with S:=t.S++[.dct []]}
section
variable{K:ib}{c:Cf}{H:Hp}
theorem KVR.get{us:List (Key×V)}{kvs:List (Key×D)}(r:KVR K c H us kvs)(k:Key){d:D}(e:Be kvs k=some d):∃v,DU us k=some v/\Rep K c H v d:=by
 unfold KVR at r
 induction r with
 |nil=>simp[Be] at e
 |@cons p q ps qs h t ih=>
   by_cases hk:p.1=k
   .have hq:q.1=k:=h.1.symm.trans hk;have:Be (q::qs) k=some q.2:=by simp[Be,ui9,hq]
    rw[this] at e;cases e
    exact⟨p.2,HQ hk,h.2⟩
   .have hq:¬q.1=k:=λz=>hk (h.1.trans z);have:Be (q::qs) k=Be qs k:=by simp[Be,ui9,hq]
    rw[this] at e;rw[HN hk];exact ih e
theorem KVR.any{us:List (Key×V)}{kvs:List (Key×D)}(r:KVR K c H us kvs)(k:Key):(us.any λkv=>decide (kv.1=k))=(kvs.any λkv=>decide (kv.1=k)):=by
 unfold KVR at r
 induction r with
 |nil=>rfl
 |@cons p q ps qs h t ih=>rw[uk7,uk7,ih,h.1]
theorem KVR.put{us:List (Key×V)}{kvs:List (Key×D)}(r:KVR K c H us kvs)(k:Key){v:V}{d:D}(rv:Rep K c H v d):KVR K c H (Ex us k v) (BQ kvs k d):=by
 unfold Ex BQ;rw[r.any k]
 by_cases q:(kvs.any λkv=>decide (kv.1=k))=true
 .rw[lD q,lD q];clear q;unfold KVR at r⊢
  induction r with
  |nil=>exact .nil
  |@cons p q ps qs h t ih=>
    rw[uk4,uk4];refine .cons ?_ ih
    by_cases e:p.1=k
    .rw[lD e,lD (h.1.symm.trans e)];exact⟨h.1,rv⟩
    .rw[lE e,lE (λz=>e (h.1.trans z))];exact h
 .rw[lE q,lE q];exact Paired.snoc r ⟨rfl,rv⟩
theorem KVR.length{us:List (Key×V)}{kvs:List (Key×D)}(r:KVR K c H us kvs):us.length=kvs.length:=Paired.length r
theorem KVR.mono{c':Cf}{H':Hp}{us:List (Key×V)}{kvs:List (Key×D)}(e:Ext c H c' H')(r:KVR K c H us kvs):KVR K c' H' us kvs:=Paired.mapP r λ_ _ z=>⟨z.1,z.2.mono e⟩
theorem KVR.merge:∀{ps:List (Key×D)}{us:List (Key×V)}{acc:List (Key×D)}{ua:List (Key×V)},KVR K c H us ps->KVR K c H ua acc->KVR K c H (Gy ua us) (ps.foldl (λacc kv=>BQ acc kv.1 kv.2) acc):=by
 intro ps us acc ua r;unfold KVR at r
 induction r generalizing acc ua with
 |nil=>intro q;exact q
 |@cons p q ps qs h t ih=>
   intro r0;refine ih ?_;show KVR K c H (Ex ua p.1 p.2) (BQ acc q.1 q.2);have:=KVR.put r0 p.1 h.2;rw[<-h.1];exact this
set_option tactic.hygienic true in
theorem Sn:BE K Sd As:=λ{Oo c t σ H x y dx dy r t' Q} f rx ry eq k=>by
 unfold As at eq
 split at eq
 .next n z=>
  cases ry
  cases rx with
  |@obj a kk hk=>
    split at eq
    .next kvs es=>
     clear 5(uc1.mp eq)d e1 e2
     cases e2
     clear 5(f.s.obs _ a _ hk es)us g1 g2;clear 5(g2.get _ e1)v e3 e4;exact⟨a,us,z,v,rfl,rfl,g1,e3,k _ H c f .refl e4⟩
    .cases eq
 .cases eq
end
section
variable{X:Cx}{pos:Pos}{e:Expr}
set_option tactic.hygienic true in
theorem Q0{o i:Expr}{f g:M D}(ho:PE X o (RE X.K f))(hi:PE X i (RE X.K g))
 (ha:∀v,assign (.Subscript o i pos) X.env v=(do
   let ov <-holding [v] (eval o X.env)
   let iv <-holding [v,ov] (eval i X.env)
   standAt pos
   holding [v,ov,iv] (setItem ov iv v)
   release [v,ov,iv] []):=by intro _;rfl):PG X (.Subscript o i pos) (RG X.K (D0 f g)):=
 MH (ZA ho hi Xn ha) λv σ H Q z9=>by
  clear 5 z9 Oo c t d fi rv t' eq k;clear 5(Ai eq)d0 t1 e1 eq;clear 5(Ai eq)di t2 e2 eq;refine⟨Oo,c,t,fi,_,t1,e1,λx H1 c1 f1 s1 rx=>⟨Oo,c1,t1,f1,di,t2,e2,λy H2 c2 f2 s2 ry=>?_⟩⟩;unfold Hk at eq
  split at eq
  .next n z dd=>
   cases ry
   cases rx with
   |@obj a kk hk=>
     split at eq
     .next kvs es=>
      split at eq
      .next hl=>
       cases eq
       have hk2:=s2.ext.io _ _ hk;clear 5(f2.s.obs _ a _ hk2 es)us g1 g2;refine⟨a,us,z,rfl,rfl,g1,by rw[g2.length];exact Nat.lt_trans hl XQ,?_⟩;have rv2:=rv.mono (s1.trans s2).ext;obtain⟨f3,s3⟩:=f2.wrObj (o:=.dct (BQ kvs (.inr z) d)) (u:=.dK (Ex us (.inr z) v)) hk2 λc' H' ext hu=>⟨_,hu,(g2.put _ rv2).mono ext⟩;exact k σ _ c2 f3 ((s1.trans s2).trans s3)
      .cases eq
     .cases eq
  .cases eq
def RP(K:ib)(f:M (List (Key×D)))(σ:St)(H:Hp)(Q:List (V×V)->Hp->Prop):Prop:=
 ∃Oo c t,FInv K Oo c t σ H/\∃ps t',f t=some (ps,t')/\∀us H' c',FInv K Oo c' t' σ H'->Stp Oo c H c' H'->KVR K c' H' us ps->Q (us.map λkv=>(kV kv.1,kv.2)) H'
def PPf(X:Cx)(pos:Pos)(keys:List (Option Expr))(values:List Expr)(f:M (List (Key×D))):Prop:=
 ∃trs,PPs X pos keys values trs/\∀σ H Q,RP X.K f σ H Q->KN trs σ H Q
theorem VY:PPf X pos [] [] (EA []):=⟨[],WQ,λσ H Q z9=>by
 clear 5 z9 Oo c t fi ps t' eq k
 cases eq
 exact k [] H c fi .refl .nil⟩
theorem Ts{k:Str}{j:Nat}{kp:Pos}{v:Expr}{ks:List (Option Expr)}{vs:List Expr}{f:M D}{r:List (Str×M D)}(hv:PE X v (RE X.K f))(hr:PPf X pos ks vs (EA r)) :
 PPf X pos (some (.Constant (.str k) j kp)::ks) (v::vs) (EA ((k,f)::r)):=by
 clear 5 hr trs h1 h2;refine⟨_,Uh R0 hv h1,λσ H Q z9=>?_⟩;clear 5 z9 Oo c t fi ps t' eq kk;clear 5(Ai eq)d t1 e1 eq;clear 5(Ai eq)qs t2 e2 eq
 cases eq
 refine⟨Oo,c,t,fi,d,t1,e1,λy H1 c1 f1 s1 ry=>?_⟩;refine h2 σ H1 _ ⟨Oo,c1,t1,f1,qs,_,e2,λus H2 c2 f2 s2 ru=>?_⟩;exact kk ((.inr k,y)::us) H2 c2 f2 (s1.trans s2) (.cons ⟨rfl,ry.mono s2.ext⟩ ru)
set_option tactic.hygienic true in
theorem VH{keys:List (Option Expr)}{values:List Expr}{l:List (Str×M D)}(h:PPf X pos keys values (EA l))(hall:keys.all (·.isSome)=true:=by rfl)(hl:keys.length=values.length:=by rfl)(h0:keys≠[]:=by exact uh5 _ _)
 (h15:keys.length<=15:=by exact kg rfl):PE X (.Dict keys values pos) (RE X.K (El l)):=by
 clear 5 h trs h1 h2;refine AM (WG h1 hall hl h0 h15) λσ H Q z9=>?_;clear 5 z9 Oo c t fi r t' eq k;intro p hp;obtain⟨c1,f1,s1,e1⟩:=fi.newObj (o:=.dct []) (u:=.dK []) hp λc' H' ex hu=>⟨[],hu,.nil⟩;clear 5(Ai eq)ps t2 e2 eq;refine h2 σ _ _ ⟨Oo,c1,_,f1,ps,t2,e2,λus H2 c2 f2 s2 ru=>?_⟩;unfold FT at eq
 split at eq
 .next es=>
  split at eq
  .next hl15=>
   cases eq
   have hk2:=s2.ext.io _ _ e1;clear 5(f2.s.obs _ p _ hk2 es)u0 g1 g2
   cases g2
   refine⟨g1,us,rfl,by rw[ru.length];exact hl15,?_⟩;obtain⟨f3,s3⟩:=f2.wrObj (o:=.dct (Dh ps)) (u:=.dK (Gy [] us)) hk2 λc' H' ext hu=>⟨_,hu,(KVR.merge ru .nil).mono ext⟩;exact k _ _ c2 f3 (s1.trans (s2.trans s3)) (.obj hk2)
  .cases eq
 .cases eq
end
section
variable{X:Cx}
end
section
variable{X:Cx}{pos:Pos}{e:Expr}{es:List Expr}
end
section
variable{prog:im}{w:ir}{A:Around}{I:ig}{fp wr:List ig}{G:Array GenState->Array GenState->Prop}{n:Nat}{P:Nat->ie->Prop}{St:Nat->ij->Prop}
end
section
variable{X:Cx}
end
section
variable{X:Cx}{pos:Pos}{e:Expr}
end
noncomputable def DL(f:M Bool)(b:M Out):Nat->M Out
 |0=>λ_=>none
 |n+1=>λt=>match f t with
   |none=>none
   |some (false,t1)=>some (.next,t1)
   |some (true,t1)=>match b t1 with
     |some (.next,t2)=>DL f b n t2
     |some (.cont,t2)=>DL f b n t2
     |some (.brk,t2)=>some (.next,t2)
     |some (.ret x,t2)=>some (.ret x,t2)
     |none=>none
def Ho:Nat:=1000000
def Hm(f:M Bool)(b:M Out):M Out:=DL f b Ho
theorem RS.while{μ:Cf->Hp->D->(V->Hp->Prop)->Prop}{K:ib}{f:M Bool}{b:M Out}{E:Ends}{σ:L2.St}{H:Hp}(q:RSg K μ (Hm f b) E σ H):SA (RT K f) (RSg K μ b) E σ H:=by
 clear 5 q Oo c t fi o t' eq k;refine⟨λm σ' H'=>∃c' t2,FInv K Oo c' t2 σ' H'/\Stp Oo c H c' H'/\DL f b m t2=some (o,t'),⟨Ho,c,t,fi,.refl,eq⟩,?_⟩;rintro m σ' H' ⟨c',t2,f2,s2,e2⟩
 cases m with
 |zero=>cases e2
 |succ m=>
 rw[DL] at e2;dsimp only at e2
 cases ef:f t2 with
 |none=>rw[ef] at e2;cases e2
 |some p=>
 clear 5 p r t3;rw[ef] at e2;refine⟨Oo,c',t2,f2,r,t3,ef,λH3 c3 f3 s3=>?_⟩
 cases r with
 |false=>
   cases e2
   exact k σ' H3 c3 f3 (s2.trans s3)
 |true=>
   rw[lD rfl];dsimp only at e2;refine⟨λσ4 H4=>∃c4 t4,FInv K Oo c4 t4 σ4 H4/\Stp Oo c H c4 H4/\DL f b m t4=some (o,t'),λσ4 H4 h=>⟨m,ug6 m,h⟩,?_⟩
   cases eb:b t3 with
   |none=>rw[eb] at e2;cases e2
   |some p=>
   clear 5 p ob t4;rw[eb] at e2;refine⟨Oo,c3,t3,f3,ob,t4,eb,λσ4 H4 c4 f4 s4=>?_⟩
   cases ob with
   |next=>exact⟨c4,t4,f4,(s2.trans s3).trans s4,e2⟩
   |cont=>exact⟨c4,t4,f4,(s2.trans s3).trans s4,e2⟩
   |brk=>
     cases e2
     exact k σ4 H4 c4 f4 ((s2.trans s3).trans s4)
   |ret x=>
     cases e2
     exact k σ4 H4 c4 f4 ((s2.trans s3).trans s4)
section
variable{X:Cx}{pos:Pos}
theorem Tu{μ:Cf->Hp->D->(V->Hp->Prop)->Prop}{e:Expr}{body:List Stmt}{f:M Bool}{b:M Out}(hp:PassesOwn (model X.prog X.w) X.A X.env X.xe)(hc:PT X e (RT X.K f))(hb:PSs X body (RSg X.K μ b)):PS X (.While e body [] pos) (RSg X.K μ (Hm f b)):=
 Br (Uj hp hc hb) λ_ _ _ q=>RS.while q
end
section
variable{X:Cx}{tg:Expr}
end
section
variable{X:Cx}{pos:Pos}{e:Expr}{es:List Expr}
end
noncomputable def Fe(H:Hp)(a:ig):Hp:=λb=>if b=a then none else H b
theorem T5{H:Hp}{a:ig}{o:HO}(h:H a=some o):upd (Fe H a) a o=H:=by
 funext b
 by_cases e:b=a
 .subst e;rw[AG];exact h.symm
 .rw[Ap e];unfold Fe;rw[lE e]
section
variable{K:ib}{Oo:ig->Prop}{c:Cf}{t:T}{σ:L2.St}{H:Hp}
theorem FInv.out(f:FInv K Oo c t σ H){i:Nat}{ds:List D}(e:t.env[i]?=some (some (.own ds))){a:ig}(ha:σ[i]?=some (some (.ref a))) :
 FInv K Oo ⟨c.ι,λb=>c.O b/\b≠a⟩ {t with env:=t.env.set i none} σ (Fe H a)/\Stp Oo c H ⟨c.ι,λb=>c.O b/\b≠a⟩ (Fe H a):=by
 clear 5(f.own i ds e)a' vs g1 g2 g3 g4 g5;rw[ha] at g1;injection g1 with g1;injection g1 with g1;injection g1 with g1;subst g1
 have ni:a∉c.ι:=f.s.dis a g2;have ext:Ext c H ⟨c.ι,λb=>c.O b/\b≠a⟩ (Fe H a):=by
  refine⟨λb o hb hn=>?_,λb o hb z=>?_,λk b h=>h⟩
  .unfold Fe;rw[lE λz=>hn (by rw[z];exact .inr g2)];exact hb
  .rcases z with z|z
   .exact .inl z
   .exact .inr z.1
 have stp:Stp Oo c H ⟨c.ι,λb=>c.O b/\b≠a⟩ (Fe H a):=⟨ext,λb hb=>by unfold Fe;rw[lE λz=>g3 (by rw[<-z];exact hb)]⟩;have old:∀{j:Nat}{x:Sl},(t.env.set i none)[j]?=some (some x)->j≠i/\t.env[j]?=some (some x):=λ{j x} q=>by
  by_cases h:j=i
  .subst h;rw[uf9] at q
   split at q
   .split at q<;>simp at q
   .contradiction
  .exact⟨h,by rw[ud2 (Ne.symm h)] at q;exact q⟩
 refine⟨⟨⟨f.s.len,f.s.nd,λk b o e1 e2=>?_,λb hb=>?_,λb hb=>f.s.dis b hb.1⟩,by simpa using f.len,λb hb=>⟨f.sub b hb,λz=>g3 (by rw[<-z];exact hb)⟩,λj d q=>?_,λj es q=>?_,λj k es fs b q1 q2 q3 q4=>?_⟩,stp⟩
 .refine(f.s.obs k b o e1 e2).mono ext ?_;unfold Fe;rw[lE λz=>ni (by rw[<-z];exact ud3 e1)]
 .clear 5(f.s.trk b hb.1)o ho;exact⟨o,by unfold Fe;rw[lE hb.2];exact ho⟩
 .clear 5(f.val j d (old q).2)v h1 h2;exact⟨v,h1,h2.mono ext⟩
 .clear 5(old q)nj q';clear 5(f.own j es q')b us k1 k2 k3 k4 k5;have nb:b≠a:=λz=>nj (f.inj j i es ds a q' e (by rw[k1,z]) ha);exact⟨b,us,k1,⟨k2,nb⟩,k3,by unfold Fe;rw[lE nb];exact k4,k5.mono ext⟩
 .exact f.inj j k es fs b (old q1).2 (old q2).2 q3 q4
end
noncomputable def Hi(i:Nat):M Out:=λt=>match t.env[i]? with
 |some (some (.own xs))=>some (.ret (.lst xs),{t with env:=t.env.set i none})
 |_=>none
def HK(f:M (List D)):M Out:=bnd f λds=>ret (.ret (.lst ds))
section
variable{g:Fn}{fa:ig}{fd:iu}
section
variable{X:Cx}{pos:Pos}{e:Expr}{es:List Expr}
theorem OB{f:M (List D)}(h:PE X e (RF X.K f)):PS X (.Return (some e) pos) (RSg X.K (μF X.K) (HK f)):=
 Br (IM h) λE σ H z9=>by
  clear 5 z9 Oo c t fi o t' eq k;clear 5(Ai eq)ds t1 e1 eq
  cases eq
  exact⟨Oo,c,t,fi,ds,_,e1,λp us H1 c1 f1 s1 ru hp=>k σ H1 c1 f1 s1 p us hp ru⟩
set_option tactic.hygienic true
theorem Q8(i:Nat){x:Str}{px:Pos}(hN:X.N[i]?=some x:=by rfl)(hv:Vis X.env.scope x:=by walk_at"h")(hd:(x==("__debug__":Str))=false:=by decide)
 (hcd:(x==("__classdict__":Str))=false:=by decide):PS X (.Return (some (.Name x px)) pos) (RSg X.K (μF X.K) (Hi i)):=
 Br (IM (Hf hN hv hd hcd)) λE σ H z9=>by
  clear 5 z9 Oo c t fi o t' eq k;unfold Hi at eq
  split at eq
  .next xs ex=>
   cases eq
   clear 5(fi.own i xs ex)a vs h1 h2 h3 h4 h5;refine⟨.ref a,h1,?_⟩;clear 5(fi.out ex h1)f2 s2;have:=k σ (Fe H a) _ f2 s2 a vs (by unfold Fe;rw[lD rfl]) (h5.mono s2.ext);rw[T5 h4] at this;exact this
  .cases eq
inductive spFF(K:ib)(f:Fn)(vs:List V)(H:Hp)(Q:VK)(E:XK):Prop where
 |mk (c:Cf) (ds:List D) (S:List Ob) (si:SInv K c S H) (rp:Reps K c H vs ds) (rs:List D) (S':List Ob) (e:f ds S=some (.lst rs,S')) (k:∀p us H' c',SInv K c' S' H'->Stp c.O c H c' H'->(∀b,c'.O b↔c.O b)->Reps K c' H' us rs->H' p=none->Q (.ref p) (upd H' p (.lst us))):spFF K f vs H Q E
def Ez(g:Fn)(f:M (List D)):M (List D):=bnd f λds t=>match g ds t.S with
 |some (.lst rs,S')=>some (rs,{t with S:=S'})
 |_=>none
theorem Pq{ds:List D}{t:T}{rs:List D}{t':T}(h:(match g ds t.S with|some (.lst rs,S')=>some (rs,{t with S:=S'})|_=>none:Option (List D×T))=some (rs,t')):∃S',g ds t.S=some (.lst rs,S')/\t' = {t with S:=S'}:=by
 split at h
 .next rs' S' e=>cases h;exact⟨S',e,rfl⟩
 .cases h
set_option tactic.hygienic false
theorem Tn{k:Nat}{ps:List Str}{f:M (List D)}{x:Str}{p:Pos}(F:FnOk X.prog X.w X.K X.mg X.base CX0 k fa fd ps (spFF X.K g))(hr:Room k X.A)(hg:Gl X x)(hm:X.mg x=some (.ref fa))(hk:PySem.W.keepIn X.K (.ref fa)=true)(hb:Binds X.K fd ps [])
 (ha:PA X (e::es) (RA X.K f)) (hdb:(x==("__debug__":Str))=false:=by decide) (h1:Bn e=false:=by rfl) (h2:Bs es=true:=by rfl) :
 PE X (.Call (.Name x p) (e::es) [] pos) (RF X.K (Ez g f)):=
 AM (OP F hr hg hm hk hb .nil Ji ha hdb (Bp h1) (Bj h2).1) λσ H Q z9=>by
  clear 5 z9 Oo c t fi rs t' eq kk;clear 5(Ai eq)ds t1 e1 eq;clear 5(Pq eq)S' e2 rfl;refine⟨Oo,c,t,fi,ds,t1,e1,λvs H1 c1 f1 s1 rvs=>?_⟩;show spFF X.K g (vs++[]) H1 Q E0;rw[ui4];refine⟨c1,ds,t1.S,f1.s,rvs,rs,S',e2,λp us H' c' si st ho ru hp=>?_⟩;clear 5(f1.after si st ho)f2 s2;exact kk p us H' c' f2 (s1.trans s2) ru hp
end
set_option tactic.hygienic true in
theorem VT{P:im}{w:ir}{K:ib}{mg:Str->Option ie}{base:Heap}{x qual:Str}{st:Stmt}{N ps:List Str}{k n m:Nat}{g:M Out}(e1:ps.length=n)(e2:N.length=m)(F:Fun K x qual st fa fd)(S:FnScope N ps (AD st))
 (hb:∀(cdv:ie) (A:Around) (outer:List Env) (s:ij) (H:Hp) (E:XK),Room k (A.deeper (PyProof.Rows.envOfC qual (AD st) s.heap.objs.size fa cdv))->
   PSs (E7 CX0 P w K mg base N qual (AD st) fa cdv A outer s H E).nox (B6 st) (RSg K (μF K) g)):FnOk P w K mg base CX0 (k+1) fa fd ps (spFF K (fnOf n m g)):=by
 subst e1 e2;have hlen:∀{ds:List D}{S:List Ob}{z:D×List Ob},fnOf ps.length N.length g ds S=some z->ds.length=ps.length:=λ{ds S z} h=>by
  unfold fnOf at h
  split at h
  .next h1=>exact h1
  .cases h
 refine F.ok S (λvs H Q E h=>?_) (λcdv A outer s H vs Q E hr h=>?_)
 .obtain⟨c,ds,S,si,rs,r,S',e,_⟩:=h;rw[rs.length];exact hlen e
 clear 5 h c ds S0 si rs r S' e kk;refine⟨RSg K (μF K) g,hb cdv A outer s H E hr,?_⟩;have hl:=hlen e;unfold fnOf at e;rw[lD hl] at e
 cases eg:g ⟨env0 N.length ds,S0⟩ with
 |none=>rw[eg] at e;cases e
 |some p=>
   clear 5 p o t;rw[eg] at e;refine⟨c.O,c,_,Hx si rs,o,t,eg,λσ' H' c' f' s'=>?_⟩;clear 5 f'.leave si' ext';have st':Stp c.O c H ⟨c'.ι,c.O⟩ H':=⟨s'.ext.trans ext',s'.oo⟩
   cases o with
   |next=>cases e
   |ret d=>
     cases e
     exact λp us hp ru=>kk p us H' _ si' st' (λ_=>lz) (ru.mono ext') hp
   |brk=>cases e
   |cont=>cases e
theorem W5{P:im}{w:ir}{K:ib}{mg:Str->Option ie}{base:Heap}{ps:List Str}{k:Nat}{f:Fn}(e:f=g)(h:FnOk P w K mg base CX0 k fa fd ps (spFF K g)):FnOk P w K mg base CX0 k fa fd ps (spFF K f):=by rw[e];exact h
end
section
variable{X:Cx}
theorem WD{o:Expr}{to:TE}{apos cpos:Pos}(ho:PE X o to)(hbase:attributeBase o "bit_length" X.env (eval o X.env)=eval o X.env:=by rfl)(hline:(apos.endLine==cpos.line)=true:=by rfl) :
 PE X (.Call (.Attribute o "bit_length" apos) [] [] cpos) (λσ H Q=>to σ H λv H1=>∃i,v=.int i/\Q (.int (Builtin.Int.intBits i:Nat)) H1):=by
 intro ic s σ H Q I h;refine Call_method0 hbase hline (thn (ho ic s σ H _ I h) λu s1 z9=>?_);clear 5 z9 v H1 I1 rv i ex q;subst ex;clear 5 rv t rfl;exact⟨"int", "int.bit_length",PySem.F.plainAttrs_int,ua6,PySem.F.type_int_bit_length,lp _ _ _,(λ_ e=>nomatch e),
  method0_gives ua6 PySem.F.entry_int_bit_length (lp _ _ _) (PySem.F.args_int_bit_length_1 _) (PySem.AutoIntG2.int_bit_length_int_0 i t) ⟨.int (Builtin.Int.intBits i:Nat),H1,I1.tok _,⟨_,rfl⟩,q⟩⟩
end
def Kb:D->M D
 |.int i=>ret (.int (Builtin.Int.intBits i:Nat))
 |_=>fail
section
variable{X:Cx}{pos:Pos}{e:Expr}{es:List Expr}
set_option tactic.hygienic true in
theorem QU{o:Expr}{f:M D}{apos cpos:Pos}(ho:PE X o (RE X.K f))(hbase:attributeBase o "bit_length" X.env (eval o X.env)=eval o X.env:=by rfl)(hline:(apos.endLine==cpos.line)=true:=by rfl) :
 PE X (.Call (.Attribute o "bit_length" apos) [] [] cpos) (RE X.K (fUn f Kb)):=
 AM (WD ho hbase hline) λσ H Q z9=>by
  clear 5 z9 Oo c t fi r t' eq k;clear 5(Ai eq)d t1 e1 eq;refine⟨Oo,c,t,fi,d,t1,e1,λx H1 c1 f1 s1 rx=>?_⟩;unfold Kb at eq
  split at eq
  .next i=>
   cases eq
   cases rx
   exact⟨i,rfl,k _ H1 c1 f1 s1 (.int _)⟩
  .cases eq
end
section
variable{X:Cx}{b elt:Expr}{pos:Pos}
end
structure ItOk2(K:ib)(J:It)(c:Cf)(H:Hp)(ds:List D):Prop where
 go:∀c' H' (i:Nat),Ext c H c' H'->i<ds.length->J.go i H'
 yld:∀c' H' (i:Nat) x H'' d,Ext c H c' H'->ds[i]?=some d->J.yld i H' x H''->∃p vs es,x=.ref p/\H' p=none/\H''=upd H' p (.tup vs)/\d=.tup es/\Reps K c' H' vs es
 stop:∀c' H',Ext c H c' H'->J.stop ds.length H'
inductive RI2(K:ib)(f:M (List D))(σ:L2.St)(H:Hp)(R:It->Hp->Prop):Prop where
 |mk (Oo:ig->Prop) (c:Cf) (t:T) (fi:FInv K Oo c t σ H) (ds:List D) (t':T) (e:f t=some (ds,t')) (k:∀J H' c',FInv K Oo c' t' σ H'->Stp Oo c H c' H'->ItOk2 K J c' H' ds->R J H'):RI2 K f σ H R
section
variable{X:Cx}{pos:Pos}{e:Expr}
end
section
variable{X:Cx}
end
section
variable{X:Cx}{pos:Pos}{e:Expr}{es:List Expr}
end
section
variable{X:Cx}{e ek:Expr}{p2 pos:Pos}{te:TE}{tk:TO}
end
section
variable{X:Cx}
end
section
variable{X:Cx}
end
section
variable{X:Cx}{pos:Pos}
end
section
variable{X:Cx}
end
section
variable{X:Cx}
end
section
variable{X:Cx}
end
section
variable{X:Cx}
end
section
variable{X:Cx}{pos:Pos}{e:Expr}{es:List Expr}
end
section
variable{X:Cx}
end
def IZ:List (Int×M D)->M (List (Key×D))
 |[]=>ret []
 |(k,f)::r=>bnd f λd=>bnd (IZ r) λps=>ret ((.inl k,d)::ps)
def Fq(l:List (Int×M D)):M D:=λt=>bnd (IZ l) (FT t.S.length) {t with S:=t.S++[.dct []]}
noncomputable def PQ:List (Key×D)->Option (List Int)
 |[]=>some []
 |(.inl k,_)::r=>(PQ r).map (k :: ·)
 |_=>none
section
variable{K:ib}{c:Cf}{H:Hp}
theorem KVR.has{us:List (Key×V)}{kvs:List (Key×D)}(r:KVR K c H us kvs)(k:Key):(DU us k).isSome=(Be kvs k).isSome:=by
 unfold KVR at r
 induction r with
 |nil=>rfl
 |@cons p q ps qs h t ih=>
   by_cases hk:p.1=k
   .have hq:q.1=k:=h.1.symm.trans hk;rw[HQ hk];simp[Be,ui9,hq]
   .have hq:¬q.1=k:=λz=>hk (h.1.trans z);have:Be (q::qs) k=Be qs k:=by simp[Be,ui9,hq]
    rw[this,HN hk];exact ih
end
section
variable{X:Cx}{pos:Pos}{e b:Expr}
theorem QW:PE X (.Dict [] [] pos) (RE X.K (Fq [])):=
 AM Ua λσ H Q z9=>by
  clear 5 z9 Oo c t fi r t' eq k;intro p hp;obtain⟨c1,f1,s1,e1⟩:=fi.newObj (o:=.dct []) (u:=.dK []) hp λc' H' ex hu=>⟨[],hu,.nil⟩;have e2:Fq [] t=some (.obj t.S.length,{t with S:=t.S++[.dct []]}):=by
   simp[Fq,IZ,bnd,L2.ret,FT,Dh]
  rw[e2] at eq
  cases eq
  exact k _ _ c1 f1 s1 (.obj e1)
end
noncomputable def tb(led:Bool)(pl:List Nat):SetTable:={mask:=7,place:=pl.toArray,dummies:=#[],finger:=0,led:=led,moves:=0,plain:=true}
noncomputable def pls:Nat->List (List Nat)
 |0=>[[]]
 |k+1=>(pls k).flatMap λl=>(List.range 8).filterMap λj=>if l.all (· < j) then some (l++[j]) else none
section
variable{P:im}{w:ir}{A:Around}{E:ie->ij->Prop}{s:ij}
end
section
variable{P:im}{w:ir}{A:Around}{I:ig}{fp wr:List ig}{G:Array GenState->Array GenState->Prop}{n:Nat}{Pr:Nat->ie->Prop}{St:Nat->ij->Prop}
end
section
variable{P:im}{w:ir}{A:Around}{E:ie->ij->Prop}{s:ij}
end
section
variable{prog:im}{w:ir}{A:Around}
end
section
variable{X:Cx}
end
section
variable{X:Cx}{pos:Pos}{e:Expr}
end
section
variable{P:im}{w:ir}{A:Around}{E:ie->ij->Prop}{s:ij}
structure ZT(h:Heap)(z TI TO i1 i2 t1 t2:ig)(n:Nat):Prop where
 zz:IsZip h z TI TO .none
 ti:IsPair h TI (.ref i1) (.ref i2)
 ot:∃a b,IsPair h TO a b
 p1:h.IsTupleIter i1 t1 n
 p2:h.IsTupleIter i2 t2 n
end
section
variable{P:im}{w:ir}{A:Around}{E:ie->ij->Prop}{s:ij}
end
def Itz(K:ib)(a b:ig):It:=
 ⟨λi H=>∃xs ys x y,SqT K H a xs/\SqT K H b ys/\xs[i]?=some x/\ys[i]?=some y,λi H v H'=>∃p x y,v=.ref p/\H p=none/\(∀xs,SqT K H a xs->xs[i]?=some x)/\(∀ys,SqT K H b ys->ys[i]?=some y)/\H'=upd H p (.tup [x,y]),λi H=>∃xs ys,SqT K H a xs/\SqT K H b ys/\(xs.length<=i\/ys.length<=i)⟩
noncomputable def fS:List D->List D->List D
 |x::xs,y::ys=>.tup [x,y]::fS xs ys
 |_,_=>[]
section
variable{X:Cx}{e a b tg iter elt:Expr}{ifs:List Expr}{pos:Pos}{scope:Scope}{N':List Str}{n:Nat}{fr:List Nat}{f:M (List D)}{st:D->M Unit}{tst:M Bool}{el:M D}
end
def gC:List D->M D
 |[.obj k,.ty m]=>λt=>match t.S[k]? with
   |some (.lst _)=>(Gn "list" m).map λb=>(.bl b,t)
   |_=>none
 |ds=>Da ds
section
variable{X:Cx}{elt:Expr}{pos:Pos}{e:Expr}{es:List Expr}
theorem QX{o:Expr}{f:M D}{g:M (List D)}{apos cpos:Pos}(ho:PE X o (RE X.K f))(ha:PA X (e::es) (RA X.K g))
 (hbase:attributeBase o "extend" X.env (eval o X.env)=eval o X.env:=by rfl)
 (hfew:((backTo cpos (starEach (e::es) X.env)).all (λx=>!x.1)&&(backToKw cpos (keywordEach [] X.env)).all (λx=>x.1.isSome)&&decide ((e::es).length+([]:List Keyword).length+(if ([]:List Keyword).isEmpty then 0 else 1)<30))=true:=by rfl)
 (hline:(apos.endLine==cpos.line)=true:=by rfl) (hs:starEach (e::es) X.env=(false,eval e X.env)::starEach es X.env:=by rfl) (hplain:(backTo cpos (starEach es X.env)).any (·.1)=false:=by rfl) :
 PE X (.Call (.Attribute o "extend" apos) (e::es) [] cpos) (RE X.K (objM EV f g)):=
 AM (Jj ub5 jn jq OI ho ha hbase hfew hline hs hplain) λ_ _ _ q=>RE.objM O2 q
end
section
variable{X:Cx}{ic:List (ig×Obj)}{σ:St}{H:Hp}{s:ij}{a:ig}{kvs:List (Key×V)}{o:Obj}
end
section
variable{X:Cx}
end
section
variable{X:Cx}
end
open SeqAt
def Ib(K:ib)(H:Hp)(v w:V):Prop:=∃c dv dw,Rep K c H v dv/\Rep K c H w dw/\eqN EQD dv dw=some true
def XL(K:ib)(H:Hp)(v w:V):Prop:=Ib K H v w\/∃a b us ts,v=.ref a/\w=.ref b/\H a=some (.dK us)/\H b=some (.dK ts)/\us.length=ts.length/\(∀kv∈us,∃n:Int,kv.1=Sum.inl n)/\(∀kv∈ts,∃n:Int,kv.1=Sum.inl n)/\∀kv∈us,∃z,DU ts kv.1=some z/\Ib K H kv.2 z
def gE(K:ib)(b:Bool):R2:=λx y H Q=>∃p q vs ws,x=.ref p/\y=.ref q/\H p=some (.lst vs)/\H q=some (.lst ws)/\vs.length=ws.length/\(∀(j:Nat) v w,vs[j]?=some v->ws[j]?=some w->XL K H v w)/\Q (.bl b) H
def alike1(S:List Ob)(x y:D):Bool:=Cr (FE S x)&&Cr (FE S y)&&decide (eqN EQD (FE S x) (FE S y)=some true)
def fY(S:List Ob)(x y:D):Bool:=match x,y with
 |.obj m,.obj n=>match S[m]?,S[n]? with
   |some (.dct kvs),some (.dct lvs)=>kvs.length==lvs.length&&(PQ kvs).isSome&&(PQ lvs).isSome&&kvs.all (λkv=>match Be lvs kv.1 with|some e=>alike1 S kv.2 e|none=>false)
   |_,_=>alike1 S x y
 |_,_=>alike1 S x y
theorem alike1.to{K:ib}{c:Cf}{S:List Ob}{H:Hp}(s:SInv K c S H){v w:V}{x y:D}(rx:Rep K c H v x)(ry:Rep K c H w y)(h:alike1 S x y=true):Ib K H v w:=by
 unfold alike1 at h;rw[ug9,ug9] at h;exact⟨c0,_,_,HJ s rx h.1.1,HJ s ry h.1.2,ug3 h.2⟩
theorem KVR.allK{K:ib}{c:Cf}{H:Hp}{us:List (Key×V)}{kvs:List (Key×D)}(r:KVR K c H us kvs):∀kv∈us,∃q∈kvs,kv.1=q.1/\Rep K c H kv.2 q.2:=by
 unfold KVR at r
 induction r with
 |nil=>intro kv h;cases h
 |@cons p q ps qs h _ ih=>
   intro kv hk;rcases uk3.mp hk with rfl|hk
   .exact⟨q,ue2,h⟩
   .clear 5(ih kv hk)q' m z;exact⟨q',ud1 _ m,z⟩
section
variable{X:Cx}{pos:Pos}
end
structure ZL(h:Heap)(z TI TO i1 i2 t1 t2:ig)(n:Nat):Prop where
 zz:IsZip h z TI TO .none
 ti:IsPair h TI (.ref i1) (.ref i2)
 ot:∃a b,IsPair h TO a b
 p1:h.IsListIter i1 t1 n
 p2:h.IsListIter i2 t2 n
section
variable{X:Cx}{a b:Expr}{pos:Pos}
end
open PySem.W
section
variable{prog:im}{w:ir}{A:Around}{h:Heap}{g:Array GenState}{d:Drawn}{t:Nat}{os:OsState}{R:Result->ij->Prop}
variable{nm q:Str}{C N fI:ig}{bs bm bmB:List ie}{hdct:Bool}{sn:List Str}{sub:List ie}{ab:Bool}{col:Option Bool}{dd:Option ig}{k0 k1 k2 k3 k5:Option ie}{B newId initId:String}{mN:Str->Option ie}
abbrev excObj(C tp:ig):Obj:={cls:=.ref C,data:=.fields #[.ref tp,.none,.none,.none,.bool false,.none]}
abbrev E2(h:Heap)(C:ig)(us:List ie):Heap:=(h.push {cls:=.type "tuple",data:=.seq us.toArray}).push (excObj C h.objs.size)
theorem TU(F:ExcBaseFacts B newId initId bmB)(T:OwnTail h bmB bm){us:List ie}(hC:h.get? C=some (excClassObj nm q C N bs bm hdct sn sub ab col dd k0 k1 k2 k3 k5 newId))(hn:h.Ns N mN)(hni:mN "__init__" = some (.ref fI))
 (hb:Looks (model prog w) h (bindSpecial (.ref fI) (.ref (h.objs.size+1))) (.ref fI,[.ref (h.objs.size+1)])) (hus:us.length<=sizeLine)
 (hq:codeAny (model prog w) (A.under (.builtin "type.__call__" ⟨.ref C::us,[]⟩)) (.call (.ref fI) ⟨.ref (h.objs.size+1)::us,[]⟩) (InitBack (h.objs.size+1) R) ⟨E2 h C us,g,d,t,os⟩) :
 codeAny (model prog w) A (.call (.ref C) ⟨us,[]⟩) R ⟨h,g,d,t,os⟩:=by
 have c1:=tc_lookup;have c2:=tc_bind (.ref C);have ty:(⟨h,g,d,t,os⟩:ij).TypeIs (.ref C) "type":=⟨_,hC,rfl⟩;refine codeAny_of_tree ?_;show wpAny _ _ (callAny (.ref C) _) _ _ _
 repeat (any_goals (first
  |assumption
  |with_reducible refine kz hC ?_
  |wp_step))
 refine⟨rfl,codeAny_call_builtin_at (kr _ (by decide +kernel)) entry_typeCall (je hC ?_)⟩
 repeat (first
  |with_reducible refine kz hC ?_
  |with_reducible refine wpAny_madeBy_exc hC ?_
  |wp_step)
 refine jf (kr _ F.quiet) (wpAny_check_new_subT F T hC (codeAny_exc_new_subT F T hC ?_ hus))
 change wpAny _ _ _ _ _ (Shared.mk (E2 h C us) g d t os)
 have kp:∀b o,h.get? b=some o->(E2 h C us).get? b=some o:=λb o e=>ub9 _ (ub9 _ e);have he:(E2 h C us).get? (h.objs.size+1)=some {cls:=.ref C,data:=.fields #[.ref h.objs.size,.none,.none,.none,.bool false,.none]}:=by heap_get
 have n1:(E2 h C us).Ns N mN:=hn.keeps kp;have cC:(Value.ref C::bm).contains (.ref C)=true:=by simp
 unfold isInstance
 repeat (first
  |with_reducible refine kz he ?_
  |(with_reducible refine kn (kp _ _ hC) ?_;rw[cC])
  |wp_step)
 show wpAny _ _ (typeLookup (.ref C) _) _ _ _;refine wpAny_typeLookup_tail (kp _ _ hC) n1 (T.keeps kp) F.mroIs F.init.lookup ?_;rw[hni];refine ul4 (um9 ((hb.keeps kp).at ?_));refine um9 (ln (kZ hq λr s' z=>?_))
 cases r with
 |error e=>exact z
 |ok f=>
   cases f with
   |ret v=>
     clear 5 z rfl z;exact un0 (un0 z)
   |_=>exact z.elim
end
open PySem.Builtin PySem.Builtin.ObjectAttr
theorem Sg(self:ie):refuseLoop self "__setattr__" [.type "ValueError",.type "Exception",.type "BaseException",.type "object"]=pure ():=by
 kernel_rfl
abbrev Ko(C P:ig):List ie:=[.ref C,.ref P,.type "ValueError",.type "Exception",.type "BaseException",.type "object"]
theorem Qi(self:ie)(C P:ig):refuseLoop self "__setattr__" (Ko C P)=pure ():=by
 rw[Ko,refuseLoop_ref,refuseLoop_ref];exact Sg self
section
variable{prog:im}{w:ir}{A:Around}{s:ij}{K:ib}{x C P tp:ig}{R:Result->ij->Prop}{name:Str}{v:ie}{tk:Tok}{cd:ClassData}
theorem WB(X:K.In s.heap)(hx:s.heap.get? x=some (excObj C tp))(hc:clsIn K C=some cd)(hmr:cd.mro=Ko C P)(ha:findIn K (.ref C) name=some none)
 (h:wpAny (model prog w) A.in1 (storeInOwnDict (.ref x) (.ref C) (.str name tk) name v false) (λfin s'=>match fin with | .done f=>R (.ok f) s' | .again c'=>c'.quiet=true/\codeAny (model prog w) A c' R s') (λe s'=>R (.error e) s') s) :
 codeAny (model prog w) A (.call (.builtin "object.__setattr__") ⟨[.ref x,.str name tk,v],[]⟩) R s:=by
 have SF:=PySem.F.store_object;have I:InstAt s.heap x (excObj C tp) C none:=⟨hx,rfl,rfl,trivial⟩;have ob:Looks (model prog w) s.heap (isInstance (.ref x) (.type "object")) true:=I.type.andThen (looks_mroIn X (by unfold mroIn;rw[hc,Option.bind_some,hmr];rfl));refine kj SF.slot.plain SF.entry (@check_slot (model prog w) _ _ s "object.__setattr__" "object" "__setattr__" (.ref x) [.str name tk,v] [] _ SF.kind SF.split ob (SF.args (.ref x) (.str name tk) v) ?_);have mr:Looks (model prog w) s.heap (mroOf (.ref C)) (Ko C P):=by rw[<-hmr];exact(looks_clsIn X hc).andThen .now
 rw[osa_eq,refuse_eq];refine um9 (um9 (I.type.here (um9 (mr.here ?_))));rw[Qi];refine un0 (um9 (I.type.here (um9 ((looks_findIn X ha).here ?_))));exact um9 (un0 h)
theorem Xo{E:ie->ij->Prop}{Q:Unit->ij->Prop}(X:K.In s.heap)(hx:s.heap.get? x=some (excObj C tp))(hs:findIn K (.ref C) "__setattr__" = some (some (.builtin "object.__setattr__")))(hc:clsIn K C=some cd)(hmr:cd.mro=Ko C P)(hd:cd.hasDict=true)(ha:findIn K (.ref C) name=some none)
 (h:∀h',(∀b o,b≠x->s.heap.get? b=some o->h'.get? b=some o)->h'.get? x=some {excObj C tp with dict:=some s.heap.objs.size}->h'.Ns1 s.heap.objs.size (λy=>if y=name then some v else none)->Q () {s with heap:=h',toks:=s.toks+2}) :
 wpAny (model prog w) A (setAttr (.ref x) name v) Q E s:=by
 have I:InstAt s.heap x (excObj C tp) C none:=⟨hx,rfl,rfl,trivial⟩;refine set_plain X I hs (WB (s:={s with toks:=s.toks+1}) X hx hc hmr ha ?_);refine um9 (un0 (um9 (um9 (wpAny_loadPart (s:={s with toks:=s.toks+1}) hx (um9 (Looks.here (s:={s with toks:=s.toks+1}) (looks_clsIn X hc) ?_))))));rw[hd,lE (by decide)];show wpAny _ _ (alloc _ >>= λdx=>update x _ >>= λ_=>pure (some dx)) _ _ _;have hx1:(s.heap.push emptyDict).get? x=some (excObj C tp):=ub9 _ hx;have hne:s.heap.objs.size≠x:=ul8 (ul5 hx);refine um9 (wpAny_alloc (s:={s with toks:=s.toks+1}) (um9 (wpAny_update hx1 (un0 ?_))));have hx2:((s.heap.push emptyDict).update x λo=>{o with dict:=some s.heap.objs.size}).get? x=some {excObj C tp with dict:=some s.heap.objs.size}:=uc9 _ hx1 rfl;have hk:∀b o,b≠x->s.heap.get? b=some o->((s.heap.push emptyDict).update x λo=>{o with dict:=some s.heap.objs.size}).get? b=some o:=λb o hb e=>(uc0 _ _ (Ne.symm hb)).trans (ub9 _ e);have hdx:((s.heap.push emptyDict).update x λo=>{o with dict:=some s.heap.objs.size}).get? s.heap.objs.size=some emptyDict:=(uc0 _ _ (Ne.symm hne)).trans (ud6 _ rfl);have n1:((s.heap.push emptyDict).update x λo=>{o with dict:=some s.heap.objs.size}).Ns1 s.heap.objs.size λ_=>none:=⟨_,#[],_,hdx,rfl,(λe he=>by simp at he),(by simp[UniqKeys]),λ_=>rfl⟩;refine um9 (un0 (um9 ?_));refine wpAny_nsSet1 n1 λh' n2 sb=>?_;clear 5(n2.count (PySem.Within.cons name v (ns:=[]) (λy u=>absurd rfl u)))oD esD epD hoD hdD hcD;refine um9 (wpAny_lookBehind hoD (by rw[hdD];exact pastItsLine_dict (ul7 hcD (by show 1<=_;decide))) ?_);exact un0 (h h' (λb o hb e=>by
  by_cases hb2:b=s.heap.objs.size
  .subst hb2;exact absurd (ul5 e) (uk2 _)
  .exact(sb.2 b hb2).trans (hk b o hb e)) ((sb.2 x (Ne.symm hne)).trans hx2) n2)
end
section
variable{qx:Bool}
def XRec(qx:Bool)(h:Heap)(x C:ig)(dx:Option ig)(tb:ie):Prop:=∃(o:Obj) (vs:Array ie),h.get? x=some o/\o.cls=.ref C/\o.dict=dx/\o.data=.fields vs/\vs[1]?=some tb/\(qx=true->vs[2]?=some .none/\4<vs.size)
theorem Yf{qx:Bool}{vs:Array ie}{v:ie}(h:qx=true->vs[2]?=some .none/\4<vs.size):qx=true->(vs.setIfInBounds 1 v)[2]?=some .none/\4<(vs.setIfInBounds 1 v).size:=λz=>by
 rw[Array.getElem?_setIfInBounds_ne (by decide),Array.size_setIfInBounds];exact h z
theorem XRec.to{qx:Bool}{h:Heap}{x C:ig}{dx:Option ig}{tb:ie}(r:XRec true h x C dx tb):XRec qx h x C dx tb:=by
 clear 5 r o vs h1 h2 h3 h4 h5 h6;exact⟨o,vs,h1,h2,h3,h4,h5,λ_=>h6 rfl⟩
def XTb(h:Heap)(T:ig):Prop:=∃(o:Obj) (ts:Array ie),h.get? T=some o/\o.data=.fields ts/\ts[3]?=some .none
structure XKeep(fs ch:List ig)(h h':Heap):Prop where
 keep:∀b o,b∉ch->b∉fs->h.get? b=some o->h'.get? b=some o
 slot:∀b o,b∉ch->h.get? b=some o->∃sl,h'.get? b=some {o with slots:=sl}
section
variable{M:Model}{A:Around}{E:ie->ij->Prop}{s:ij}{env:Env}{outer:List Env}{base:Heap}{L x C:ig}{dx:Option ig}{tb:ie}{Q:Unit->ij->Prop}
theorem Nu{o:Obj}{vs:Array ie}(hd:o.data=.fields vs)(f:Array ie->Array ie):(o.mapFields f).data=.fields (f vs)/\(o.mapFields f).cls=o.cls/\(o.mapFields f).dict=o.dict:=by
 clear 5 o c d dt sl
 cases hd
 exact⟨rfl,rfl,rfl⟩
end
end
section
variable{qx:Bool}
abbrev VE:List ie:=[.type "ValueError",.type "Exception",.type "BaseException",.type "object"]
structure XCl(K:ib)(C:ig)(bm:List ie):Prop where
 ex:∃cd dd k0 k1 k2 k3 k5,K.lookup C=some {cls:=.type "type",dict:=dd,data:=.cls cd,slots:=#[k0,k1,k2,k3,some (.builtin "ValueError.__new__"),k5]}/\cd.mro=.ref C::bm/\cd.hasDel=false/\cd.hasDict=true/\nsOkIn K cd.ns=true
 tl:tailIn K VE bm=true
noncomputable def MC(K:ib)(C:ig)(bm:List ie):Bool:=tailIn K VE bm&&match K.lookup C with
 | some ⟨.type "type",_,.cls cd,sl⟩=>(match sl.toList with
   |[_,_,_,_,some (.builtin n),_]=>n == "ValueError.__new__" && cd.mro==.ref C::bm && !cd.hasDel&&cd.hasDict&&nsOkIn K cd.ns
   |_=>false)
 |_=>false
variable{K:ib}{C:ig}{bm:List ie}
set_option tactic.hygienic true in
theorem XCl.of_in(q:MC K C bm=true):XCl K C bm:=by
 unfold MC at q;rw[ug9] at q;refine⟨?_,q.1⟩;have q:=q.2
 split at q
 .rename_i dd cd sl ho
  split at q
  .rename_i k0 k1 k2 k3 n k5 hs;simp only[ug9,lm,Bool.not_eq_true'] at q;obtain⟨⟨⟨⟨rfl,h1⟩,h2⟩,h3⟩,h4⟩:=q;have hsl:sl=#[k0,k1,k2,k3,some (.builtin "ValueError.__new__"),k5]:=by
    cases sl
    exact lu Array.mk hs
   exact⟨cd,dd,k0,k1,k2,k3,k5,by rw[ho,hsl],h1,h2,h3,h4⟩
  .cases q
 .cases q
theorem XCl.obj{K:ib}{C:ig}{bm:List ie}{h:Heap}(c:XCl K C bm)(X:K.In h):∃nm q N bs sn sub ab col dd k0 k1 k2 k3 k5,h.get? C=some (excClassObj nm q C N bs bm true sn sub ab col dd k0 k1 k2 k3 k5 "ValueError.__new__")/\h.Ns N (h.nsMap N):=by
 obtain⟨⟨nm,bs,mro,ns,qn,hd,sn,sub,ab,col,del⟩,dd,k0,k1,k2,k3,k5,h1,h2,h3,h4,h5⟩:=c.ex;dsimp only at h2 h3 h4 h5;subst h2 h3 h4;exact⟨nm,qn,ns,bs,sn,sub,ab,col,dd,k0,k1,k2,k3,k5,X _ _ h1,.of_isNs (isNs_of_in X h5)⟩
variable{h:Heap}
theorem XCl.tail(c:XCl K C bm)(X:K.In h):OwnTail h VE bm:=tail_of_in X c.tl
theorem XCl.has(c:XCl K C bm)(X:K.In h):(Value.ref C::bm).contains (.type "BaseException")=true:=by
 rw[List.contains_cons,(c.tail X).hasType (b:=true) (by decide +kernel),Bool.or_true]
section
variable{M:Model}{A:Around}{E:ie->ij->Prop}{env:Env}{K:ib}{C:ig}{bm:List ie}{s:ij}
theorem Ur{t:Sem ie}{Q:Flow->ij->Prop}(c:XCl K C bm)(hh:A.handled=none)
 (h:wpAny M A t (λv s1=>∃x dx,v=.ref x/\K.In s1.heap/\XRec qx s1.heap x C dx .none/\E v s1) E s):wpAny M A (raiseStmt env (some t) none) Q E s:=by
 unfold raiseStmt;refine um9 (un1 h (λv s1 q=>?_) λ_ _ z=>z);obtain⟨x,dx,rfl,X,⟨o,vs,hx,hc,hd,hdt,h1,_⟩,hE⟩:=q;obtain⟨nm,q,N,bs,sn,sub,ab,col,dd,k0,k1,k2,k3,k5,hC,_⟩:=c.obj X;have hb:=c.has X;clear 5 s1 hp g d tk os
 repeat (first
  |(with_reducible refine kz hx ?_;rw[hc])
  |with_reducible refine kz hC ?_
  |(with_reducible refine kn hC ?_;rw[hb])
  |with_reducible refine um8 hx hdt h1 ?_
  |wp_step)
 exact wpAny_raiseNew_none hh hE
end
def CX1(qx:Bool)(P:im)(w:ir):CXT:=λouter H s E e s'=>∃(x C:ig) (dx:Option ig) (T:ig) (H':Hp),e=.ref x/\s'.os=s.os/\AllBare s'.gens/\Un (frs outer) [] H H' s.heap s'.heap/\HOk P w H' s'.heap/\
 H' x=some (.ext (L2.XIs qx x C dx))/\s.heap.objs.size<=x/\s.heap.objs.size<=T/\T≠x/\H' T=none/\XRec qx s'.heap x C dx (.ref T)/\XTb s'.heap T/\E (.ref x) dx H'
variable{dx:Option ig}
theorem XRec.is{x:ig}{tb:ie}(r:XRec qx h x C dx tb):L2.XIs qx x C dx h:=by
 obtain⟨o,vs,h1,h2,h3,h4,_,h5⟩:=r;exact⟨o,vs,h1,h2,h3,h4,h5⟩
theorem XIs.stay{x:ig}{h1 h2:Heap}(r:L2.XIs qx x C dx h1)(k:∀o,h1.get? x=some o->h2.get? x=some o):L2.XIs qx x C dx h2:=by
 clear 5 r o vs e q;exact⟨o,vs,k o e,q⟩
theorem M9{P:im}{w:ir}{H:Hp}{x:ig}(r:L2.XIs qx x C dx h):ObjOk P w H h x (.ext (L2.XIs qx x C dx)):=
 ⟨r,let ⟨o,_,e,_⟩:=r;⟨o,e⟩,λ_ _ q k=>XIs.stay q k⟩
section
variable{X:Cx}{ic:List (ig×Obj)}{σ:St}{H H':Hp}{s s':ij}{h':Heap}{x C T:ig}{dx:Option ig}{ch:List ig}
theorem UL(k:XKeep (frs X.stack) ch s.heap h')(hT:∀b∈ch,b=x\/b=T):Un (frs X.stack) (x::T::[]) H H s.heap h':=by
 have nch:∀b:ig,b∉(x::T::[])->b∉ch:=λb hb z=>hb (by rcases hT b z with rfl|rfl<;>simp);refine⟨λb o e n hb hx=>k.keep b o (nch b hx) hb e,λb o e n hb hx=>k.slot b o (nch b hx) e,λb o e n _=>n,λb o e hx=>?_,λ_ _ e=>e,λ_ _ _ e=>e,λb ps e=>⟨#[],by rw[e];simp⟩⟩;clear 5(k.slot b o (nch b hx) e)sl q;exact⟨_,q⟩
theorem Inv.left(I:Inv X ic σ H s)(hx:H x=some (.ext (L2.XIs qx x C dx)))(hT:H T=none)(nx:X.s₀.heap.objs.size<=x)(nT:X.s₀.heap.objs.size<=T)(k:XKeep (frs X.stack) ch s.heap h')(hc:∀b∈ch,b=x\/b=T)(r:L2.XIs qx x C dx h')
 (oT:∀y c,X.env.cells.lookup y=some c->c≠T) (lT:T≠X.env.locals) (pT:∀p∈X.pn++ic,p.1≠T):Inv X ic σ H {s with heap:=h'}:=by
 have nfr:∀b u,H b=some u->b∉frs X.stack:=λb u e z=>by rw[I.stkFree b z] at e;cases e
 refine I.call (g':=s.gens) (t':=s.toks) (d':=s.drawn) (ch:=[x,T]) (UL k hc) (λb u e=>?_) I.bare λb hb=>?_
 .by_cases hb:b=x
  .subst hb;rw[hx] at e;cases e;exact M9 r
  .refine(I.hok b u e).stay (λc v hcc q=>k.keep c v ?_ ?_ q) (λ_ q=>q) λ_ _ q=>q
   .intro z;rcases hcc with rfl|hcc
    .rcases hc c z with q|q
     .exact hb q
     .rw[q,hT] at e;cases e
    .rcases hc c z with q|q
     .rw[q,hx] at hcc;cases hcc
     .rw[q,hT] at hcc;cases hcc
   .rcases hcc with rfl|hcc
    .exact nfr _ _ e
    .exact nfr _ _ hcc
 .have q:b=x\/b=T:=by simpa using hb
  rcases q with rfl|rfl
  .exact⟨.inr nx,(λz=>by rw[z,I.free] at hx;cases hx),(λy c e z=>by subst z;rw[I.freeC y c e] at hx;cases hx),λp hp z=>by rw[<-z,(I.pin p hp).2.1] at hx;cases hx⟩
  .exact⟨.inr nT,lT,oT,pT⟩
theorem Inv.raised(I:Inv X ic σ H s){E:XK}{e:ie}(q:CX1 qx X.prog X.w X.stack H s E e s'):∃(x C:ig) (dx:Option ig) (T:ig) (H':Hp),e=.ref x/\Inv X ic σ H' s'/\H' x=some (.ext (L2.XIs qx x C dx))/\s.heap.objs.size<=x/\s.heap.objs.size<=T/\T≠x/\H' T=none/\XRec qx s'.heap x C dx (.ref T)/\XTb s'.heap T/\E (.ref x) dx H':=by
 clear 5 q x C dx T H' he os bare un hok hx nx nT ne hT r tb q;clear 5 s' hh g d t os';obtain rfl:os'=s.os:=os;exact⟨x,C,dx,T,H',he,I.call (h':=hh) (g':=g) (d':=d) (t':=t) (ch:=[]) un hok bare (λb z=>absurd z (by simp)),hx,nx,nT,ne,hT,r,tb,q⟩
theorem Inv.newT(I:Inv X ic σ H s)(h:s.heap.objs.size<=T):T≠X.env.locals/\(∀y c,X.env.cells.lookup y=some c->c≠T)/\∀p∈X.pn++ic,p.1≠T:=by
 have far:∀b o,s.heap.get? b=some o->b≠T:=λb o e z=>absurd (ue1 (ul5 e) h) (by rw[z];exact uk2 _);refine⟨λz=>absurd I.lt (by rw[<-z];exact Nat.not_lt.mpr h),λy c e=>?_,λp hp=>far _ _ (I.pin p hp).1⟩;obtain⟨v,o,ho,_⟩:=I.cell y c e;exact far c o ho
end
section
variable{P:im}{w:ir}{K:ib}{mg:Str->Option ie}{base:Heap}{N:List Str}{qual:Str}{scope:Scope}{f:ig}{cd:ie}{A:Around}{outer:List Env}{s₀:ij}{H₀:Hp}{E:XK}
end
end
noncomputable def exO(x C tp:ig):HO:=.ext λh=>h.get? x=some (excObj C tp)
noncomputable def Pu(x C tp dx:ig):HO:=.ext λh=>h.get? x=some {excObj C tp with dict:=some dx}
theorem Yj{P:im}{w:ir}{H:Hp}{h:Heap}{x C tp:ig}(e:h.get? x=some (excObj C tp)):ObjOk P w H h x (exO x C tp):=⟨e,⟨_,e⟩,λ_ _ p k=>k _ p⟩
theorem VD{P:im}{w:ir}{H:Hp}{h:Heap}{x C tp dx:ig}(e:h.get? x=some {excObj C tp with dict:=some dx}):ObjOk P w H h x (Pu x C tp dx):=⟨e,⟨_,e⟩,λ_ _ p k=>k _ p⟩
structure XAt(K:ib)(C P:ig)(f:Str):Prop where
 cl:XCl K C (.ref P::VE)
 set:findIn K (.ref C) "__setattr__" = some (some (.builtin "object.__setattr__"))
 no:findIn K (.ref C) f=some none
theorem XCl.cls{K:ib}{C:ig}{bm:List ie}(c:XCl K C bm):∃cd,clsIn K C=some cd/\cd.mro=.ref C::bm/\cd.hasDict=true:=by
 obtain⟨cd,dd,k0,k1,k2,k3,k5,h1,h2,_,h4,_⟩:=c.ex;exact⟨cd,by unfold clsIn;rw[h1],h2,h4⟩
def sXF(K:ib)(P:ig)(ta tv:TE)(f:Str):TS:=λD σ H=>tv σ H λy H1=>ta σ H1 λx H2=>∃a C tp,x=.ref a/\H2 a=some (exO a C tp)/\XAt K C P f/\
 ∀dx,H2 dx=none->dx≠a->D.nx σ (upd (upd H2 dx (.xd [(f,y)])) a (Pu a C tp dx))
theorem bK{X:Cx}{P:ig}{o value:Expr}{ta tv:TE}{f:Str}{pos' pos:Pos}(ha:PE X o ta)(hv:PE X value tv)(hs:swapsWith value (some (.Attribute o f pos')) pos.line X.env=pure false):PS X (.Assign [.Attribute o f pos'] value pos) (sXF X.K P ta tv f):=by
 intro ic s σ H D I h;refine iy (thn (hv ic s σ H _ I h) λu s1 ⟨y,H1,I1,ry,q⟩=>thn (ha ic s1 σ H1 _ I1 q) λov s2 z9=>?_) hs;clear 5 z9 x H2 I2 rx a C tp ex ea c q2;subst ex;obtain rfl:ov=Value.ref a:=rx;clear 5 c.cl.cls cd c1 c2 c3;have hx:s2.heap.get? a=some (excObj C tp):=(I2.hok a _ ea).1;refine Xo I2.kIn hx c.set c1 c2 c3 c.no λh' k e n=>?_;have fr:=I2.hok.fresh (um5 s2.heap.objs.size);have ne:s2.heap.objs.size≠a:=(λz=>by rw[z,ea] at fr;cases fr)
 have nn:∀b u,H2 b=some u->b≠s2.heap.objs.size:=λb u z=>AX z fr;have na:∀b u,s2.heap.get? b=some u->H2 b=none->b≠a:=λb u _ z w'=>by rw[w',ea] at z;cases z
 refine⟨σ,_,I2.un (h':=h') (t':=s2.toks+2) ⟨λb u e1 e2 _ _=>k b u (na b u e1 e2) e1,λb u e1 e2 _ _=>⟨u.slots,k b u (na b u e1 e2) e1⟩,λb u e1 e2 _=>?_,λb u e1 _=>?_,λb xs e1=>?_,λb o' u e1=>?_,λb ps e1=>⟨#[],?_⟩⟩ λb u e1=>?_,q2 s2.heap.objs.size fr ne⟩
 .rw[Ap (na b u e1 e2),Ap (ul6 (ul5 e1))];exact e2
 .by_cases hb:b=a
  .subst hb;exact⟨_,e⟩
  .exact⟨_,k b u hb e1⟩
 .rw[Ap (λz=>by rw[z,ea] at e1;cases e1),Ap (nn _ _ e1)];exact e1
 .rw[Ap (λz=>by rw[z,ea] at e1;cases e1),Ap (nn _ _ e1)];exact e1
 .rw[Ap (λz=>by rw[z,ea] at e1;cases e1),Ap (nn _ _ e1),e1];simp
 .by_cases hb:b=a
  .subst hb;rw[AG] at e1;cases e1;exact VD e
  .rw[Ap hb] at e1
   by_cases hb2:b=s2.heap.objs.size
   .subst hb2;rw[AG] at e1;cases e1
    refine⟨_,n,λg=>?_⟩
    by_cases hg:g=f
    .subst hg;simp only[List.lookup,uh9,ly];exact ry
    .have hgb:(g==f)=false:=kl.mpr hg;simp only[List.lookup,hgb,lE hg];trivial
   .rw[Ap hb2] at e1;refine(I2.hok b u e1).stay (λz v hz q=>k z v ?_ q) (λz q=>?_) λz xs q=>?_
    .rcases hz with rfl|hz
     .exact hb
     .intro w';rw[w',ea] at hz;cases hz
    .rw[Ap (λz=>by rw[z,ea] at q;cases q),Ap (nn _ _ q)];exact q
    .rw[Ap (λz=>by rw[z,ea] at q;cases q),Ap (nn _ _ q)];exact q
section
variable{qx:Bool}
set_option tactic.hygienic true in
theorem P0{K:ib}{h:Heap}{N:ig}{m:Str->Option ie}{n:Str}{v:ie}(X:K.In h)(G:h.Ns N m)(e:nsIn K N n=some (some v)):m n=some v:=by
 obtain⟨o,es,ep,ho,hd,_,hf⟩:=G;unfold nsIn at e
 split at e
 .next c d es' n' sl q=>
  have z:=X _ _ q;rw[ho] at z
  cases z
  cases hd
  split at e
  .next en he=>
   rw[<-hf];unfold nsFind findBy;rw[<-ue4,he];simpa using e
  .split at e<;>cases e
 .cases e
structure XMk(K:ib)(C P f:ig):Prop where
 cl:XCl K C (.ref P::VE)
 init:∃cd,clsIn K C=some cd/\nsIn K cd.ns "__init__" = some (some (.ref f))
 fn:isFn K (.ref f)=true
 kp:keepIn K (.ref C)=true
def spI(K:ib)(P:ig)(a:Str):Sp:=λvs H Q _=>∃x C tp v,vs=[.ref x,v]/\H x=some (exO x C tp)/\XAt K C P a/\∀dx,H dx=none->dx≠x->Q .non (upd (upd H dx (.xd [(a,v)])) x (Pu x C tp dx))
section
variable{X:Cx}{k:Nat}{f C P:ig}{fd:iu}{ic:List (ig×Obj)}{σ:St}{H:Hp}{s:ij}{Q:ie->ij->Prop}{us:List ie}{vs:List V}{a:Str}{ps:List Str}{v:V}{u:ie}
set_option tactic.hygienic true in
theorem Sj(M:XMk X.K C P f)(ha:XAt X.K C P a)(F:FnOk X.prog X.w X.K X.mg X.base CX0 k f fd ps (spI X.K P a))(hr:Room (k+1) X.A)(hb:Binds X.K fd ps [])(I:Inv X ic σ H s)(r:RelV v u)
 (h:∀s' x dx,Inv X ic σ (upd (upd H dx (.xd [(a,v)])) x (.ext (L2.XIs qx x C (some dx)))) s'->H x=none->H dx=none->dx≠x->s.heap.objs.size<=x->XRec true s'.heap x C (some dx) .none->Q (.ref x) s'):wpAny (model X.prog X.w) X.A (call (.ref C) [u]) Q X.xe s:=by
 clear 5(M.cl.obj I.kIn)nm q N bs sn sub ab col dd k0 k1 k2 k3 k5 hC hN;have hni:s.heap.nsMap N "__init__" = some (.ref f):=by
  clear 5 M.init cd c1 c2;refine P0 I.kIn hN ?_;unfold clsIn at c1
  split at c1
  .next l=>
   cases c1
   have z:=I.kIn _ _ l;rw[hC] at z
   cases z
   exact c2
  .cases c1
 have I1:Inv X ic σ (upd H (s.heap.objs.size+1) (exO (s.heap.objs.size+1) C s.heap.objs.size)) {s with heap:=E2 s.heap C [u]}:=by
  refine I.laid (t':=s.toks) (λb o e=>ub9 _ (ub9 _ e)) (um7 _) (Yj ?_);show((s.heap.push _).push _).get? _=_
  heap_get
 have hx0:=I.hok.fresh (um7 s.heap.objs.size);have r2:Vals [V.ref (s.heap.objs.size+1),v] [Value.ref (s.heap.objs.size+1),u]:=.cons rfl (.cons r .nil);have hsp:spI X.K P a [V.ref (s.heap.objs.size+1),v] (upd H (s.heap.objs.size+1) (exO (s.heap.objs.size+1) C s.heap.objs.size))
  (λw' H'=>w'=.non/\∃dx,H dx=none/\dx≠s.heap.objs.size+1/\H'=upd (upd H dx (.xd [(a,v)])) (s.heap.objs.size+1) (Pu (s.heap.objs.size+1) C s.heap.objs.size dx)) E0:=by
  refine⟨_,C,s.heap.objs.size,v,rfl,AG,ha,λdx h1 h2=>⟨rfl,dx,by rw[Ap h2] at h1;exact h1,h2,?_⟩⟩
  funext b
  by_cases e1:b=s.heap.objs.size+1
  .subst e1;rw[AG,AG]
  .by_cases e2:b=dx
   .subst e2;rw[Ap e1,Ap e1,AG,AG]
   .rw[Ap e1,Ap e1,Ap e2,Ap e2,Ap e1]
 have hl:([Value.ref (s.heap.objs.size+1),u]++[]).length=ps.length:=by
  have e:=F.len _ _ _ _ hsp;simpa using e
 clear 5 s hh g d t os;refine ln (TU jb (M.cl.tail I.kIn) hC hN hni ((bind_fn I.kIn _ (lm.mp M.fn))) (by show 1<=sizeLine;decide) ?_);refine kZ (F.run _ X.stack _ _ ⟨[Value.ref (hh.objs.size+1),u],[]⟩ [Value.ref (hh.objs.size+1),u] _ _ E0 (hr.make C [u] []) (I1.env0.make C [u] []) (by have:=hb _ [Value.ref (hh.objs.size+1),u] I1.kIn hl;simpa using this) r2 hsp) λr s' hq'=>?_
 cases r with
 |error e=>exact hq'.elim
 |ok fl=>
   cases fl with
   |ret w'=>
     clear 5(I1.after hq')v' H' I3 rv rfl dx d1 d2 rfl;refine⟨rv,?_⟩;have hx:=(I3.hok (hh.objs.size+1) _ AG).1;have hx:s'.heap.get? (hh.objs.size+1)=some {excObj C hh.objs.size with dict:=some dx}:=hx;have xr:XRec true s'.heap (hh.objs.size+1) C (some dx) .none:=⟨_,_,hx,rfl,rfl,rfl,rfl,λ_=>⟨rfl,by show 4<6;decide⟩⟩;have I4:=I3.write (x:=hh.objs.size+1) (e:=hh.objs.size+1) (o:=.ext (L2.XIs qx (hh.objs.size+1) C (some dx))) (h':=s'.heap) (t':=s'.toks) (by rw[AG];trivial) (.inl rfl) (λ_ _ _ z=>z) ⟨_,hx⟩ (M9 xr.to.is);rw[Xv] at I4;exact h s' (hh.objs.size+1) dx I4 hx0 d1 d2 (um7 _) xr
   |next=>exact False.elim hq'
   |brk=>exact False.elim hq'
   |cont=>exact False.elim hq'
end
end
section
variable{qx:Bool}
section
variable{M:Model}{A:Around}{E:ie->ij->Prop}{K:ib}{s:ij}{x C C':ig}{bm bm':List ie}{dx:Option ig}{tb:ie}
theorem Nv{Q:Bool->ij->Prop}(c:XCl K C bm)(c':XCl K C' bm')(X:K.In s.heap)(hx:XRec qx s.heap x C dx tb)(h:Q ((Value.ref C::bm).contains (.ref C')) s):wpAny M A (excMatches (.ref x) (.ref C')) Q E s:=by
 obtain⟨nm,q,N,bs,sn,sub,ab,col,dd,k0,k1,k2,k3,k5,hC,_⟩:=c.obj X;obtain⟨nm',q',N',bs',sn',sub',ab',col',dd',k0',k1',k2',k3',k5',hC',_⟩:=c'.obj X;have hb:=c'.has X;clear 5 hx o vs ho hc hd hdt h1;clear 5 s hp g d tk os;have ty:(⟨hp,g,d,tk,os⟩:ij).TypeIs (.ref C') "type":=⟨_,hC',rfl⟩;have nt:=tc_notTuple
 cases hbb:(Value.ref C::bm).contains (.ref C')<;>(
  rw[hbb] at h;unfold excMatches
  repeat (first
   |(with_reducible refine kz ho ?_;rw[hc])
   |with_reducible refine kz hC' ?_
   |(with_reducible refine kn hC' ?_;rw[hb])
   |(with_reducible refine kn hC ?_;rw[hbb])
   |wp_step)
  exact h)
end
end
section
variable{qx:Bool}
def ST(h:Heap)(T:ig)(fl:ie):Prop:=∃(o:Obj) (ts:Array ie),h.get? T=some o/\o.data=.fields ts/\ts[3]?=some fl
section
variable{M:Model}{A:Around}{E:ie->ij->Prop}{s:ij}{env:Env}{outer:List Env}{base:Heap}{L x C:ig}{dx:Option ig}{tb:ie}{Q:Unit->ij->Prop}
theorem LV{hadNext:Bool}{hd:ie}(hfr:A.frames=some (env::outer))(hl:s.heap.FunFrames base (env::outer))(hf:env.frame=some L)(hx:XRec qx s.heap x C dx tb)
 (h:∀h' T,s.heap.objs.size<=T->T≠x->XRec qx h' x C dx (.ref T)->ST h' T (rawInt L)->XKeep (frs (env::outer)) [x] s.heap h'->Q () {s with heap:=h'}) :
 wpAny M A (do let fo <-frameOf env;let at' <-entryPlaceOf L hadNext;let en <-EntryCells.newEntry hd fo .none (rawInt L) .none at';setField (.ref x) 1 en) Q E s:=by
 clear 5 hx ox vs gx cx dxe dtx tbx xc;have v1:1<vs.size:=(ua8.mp tbx).1;have nfr:x∉frs (env::outer):=λz=>by
  obtain⟨_,o2,g2,n2⟩:=hl.mem z;rw[gx] at g2;cases g2
  exact n2 vs dtx
 refine um9 (wpAny_frameOf_fun hfr hl hf λh1 so=>?_);refine um9 (wpAny_entryPlaceOf λat' ip=>?_);unfold EntryCells.newEntry newFields;refine um9 (ky ?_ (ip.sizeOk5 _ _ _ _ _));generalize hne:(Obj.mk (Value.type "traceback") none (Data.fields ([hd,Value.ref L,Value.none,rawInt L,Value.none]++if at'.isEmpty=true then List.replicate 6 Value.none else at').toArray) #[])=nob;have dn:nob.data=.fields ([hd,Value.ref L,Value.none,rawInt L,Value.none]++if at'.isEmpty=true then List.replicate 6 Value.none else at').toArray:=by rw[<-hne]
 have gx1:h1.get? x=some ox:=(so.2.1 x nfr).trans gx;have gx2:(h1.push nob).get? x=some ox:=ub9 _ gx1;have nex:h1.objs.size≠x:=ul8 (ul5 gx1);refine kT gx2 dtx v1 ?_;clear 5(Nu dtx (·.setIfInBounds 1 (Value.ref h1.objs.size)))m1 m2 m3;have gx3:=uc9 (Obj.mapFields (·.setIfInBounds 1 (Value.ref h1.objs.size))) gx2 (kh m1);have gT2:(h1.push nob).get? h1.objs.size=some nob:=ud6 h1 (kh dn);have gT3:=(uc0 (h1.push nob) (Obj.mapFields (·.setIfInBounds 1 (Value.ref h1.objs.size))) (Ne.symm nex)).trans gT2;have vx:(vs.setIfInBounds 1 (Value.ref h1.objs.size))[1]?=some (.ref h1.objs.size):=by simp[v1]
 have old:∀b o,b≠x->h1.get? b=some o->((h1.push nob).update x (Obj.mapFields (·.setIfInBounds 1 (Value.ref h1.objs.size)))).get? b=some o:=λb o hb e=>by
  rw[uc0 _ _ (Ne.symm hb)];exact ub9 _ e
 refine h _ h1.objs.size (ul9 so.1.symm) nex ⟨_,_,gx3,m2.trans cx,m3.trans dxe,m1,vx,Yf xc⟩ ⟨_,_,gT3,dn,?_⟩ ⟨λb o hb hbf e=>old b o (λz=>hb (by simp[z])) ((so.2.1 b hbf).trans e),λb o hb e=>?_⟩
 .rw[List.getElem?_toArray];rfl
 .clear 5(so.2.2 b o e)sl e1;exact⟨sl,old b _ (λz=>hb (by simp[z])) e1⟩
end
structure XOn(qx:Bool)(X:Cx)(ic:List (ig×Obj))(H:Hp)(s:ij)(x C:ig)(dx:Option ig)(T:Option ig)(fl:ie):Prop where
 hx:H x=some (.ext (L2.XIs qx x C dx))
 nx:X.s₀.heap.objs.size<=x
 rc:XRec qx s.heap x C dx (match T with|some a=>.ref a|none=>.none)
 tb:∀a,T=some a->a≠x/\H a=none/\X.s₀.heap.objs.size<=a/\(a≠X.env.locals/\(∀y c,X.env.cells.lookup y=some c->c≠a)/\∀p∈X.pn++ic,p.1≠a)/\ST s.heap a fl
 fo:fl=.none\/fl=rawInt X.env.locals
section
variable{M:Model}{A:Around}{Er:ie->ij->Prop}{X:Cx}{ic:List (ig×Obj)}{σ:St}{H:Hp}{s:ij}{x C:ig}{dx T:Option ig}{fl:ie}{Q:Unit->ij->Prop}
theorem Hj(fr:Option ig)(I:Inv X ic σ H s){a:ig}(o:XOn qx X ic H s x C dx (some a) fl)(hfr:fr=none\/fr=some X.env.locals)
 (k:∀h',Inv X ic σ H {s with heap:=h'}->XOn qx X ic H {s with heap:=h'} x C dx (some a) (fr.elim Value.none λf=>rawInt f)->Q () {s with heap:=h'}):wpAny M A (setFlight (.ref x) fr) Q Er s:=by
 clear 5(id o.rc)ox vs gx cx dxe dtx tbx xc;clear 5(o.tb a rfl)ne hT nT oT ot ts gT dT t3;unfold setFlight;refine um9 (um8 gx dtx tbx ?_);rw[lD (show(Value.ref a != Value.none)=true from rfl)];refine kT gT dT (ua8.mp t3).1 ?_;clear 5(Nu dT (·.setIfInBounds 3 (fr.elim Value.none λf=>rawInt f)))m1 m2 m3;have gT2:=uc9 (Obj.mapFields (·.setIfInBounds 3 (fr.elim Value.none λf=>rawInt f))) gT (kh m1);have oth:∀b,b≠a->(s.heap.update a (Obj.mapFields (·.setIfInBounds 3 (fr.elim Value.none λf=>rawInt f)))).get? b=s.heap.get? b:=λb z=>uc0 _ _ (Ne.symm z);have rc':XRec qx (s.heap.update a (Obj.mapFields (·.setIfInBounds 3 (fr.elim Value.none λf=>rawInt f)))) x C dx (.ref a):=⟨ox,vs,(oth x (Ne.symm ne)).trans gx,cx,dxe,dtx,tbx,xc⟩;refine k _ (I.left o.hx hT o.nx nT (ch:=[a]) ⟨λb u hb _ e=>(oth b (by simpa using hb)).trans e,λb u hb e=>⟨u.slots,(oth b (by simpa using hb)).trans e⟩⟩ (λb hb=>.inr (by simpa using hb)) rc'.is oT.2.1 oT.1 oT.2.2) ⟨o.hx,o.nx,rc',λa' e=>?_,?_⟩
 .cases e
  exact⟨ne,hT,nT,oT,_,_,gT2,m1,by rw[Array.getElem?_setIfInBounds_self,lD (ua8.mp t3).1]⟩
 .rcases hfr with rfl|rfl
  .exact .inl rfl
  .exact .inr rfl
theorem JS(hA:A.frames=some X.stack)(I:Inv X ic σ H s)(hs:X.stack=X.env::X.outer)(hf:X.env.frame=some X.env.locals)(o:XOn qx X ic H s x C dx T fl)
 (k:∀h' a,Inv X ic σ H {s with heap:=h'}->XOn qx X ic H {s with heap:=h'} x C dx (some a) (rawInt X.env.locals)->Q () {s with heap:=h'}):wpAny M A (noteFrame (.ref x) X.env) Q Er s:=by
 clear 5(id o.rc)ox vs gx cx dxe dtx tbx xc;have fin:∀(s1:ij) (hh:∃h1,s1 = {s with heap:=h1}) (ch:List ig) (h':Heap) (a:ig),Inv X ic σ H s1->s1.heap.objs.size<=a->a≠x->XRec qx h' x C dx (.ref a)->ST h' a (rawInt X.env.locals)->XKeep (frs (X.env::X.outer)) [x] s1.heap h'->Q () {s1 with heap:=h'}:=by
  rintro s1 ⟨h1,rfl⟩ ch h' a I1 l1 l2 l3 l4 l5;clear 5(I1.newT l1)o1 o2 o3;have J:=I1.left o.hx (I1.hok.fresh l1) o.nx (ul7 I1.sz l1) (ch:=[x]) (hs ▸ l5) (λb hb=>.inl (by simpa using hb)) l3.is o2 o1 o3;exact k h' a J ⟨o.hx,o.nx,l3,λa' e=>by cases e;exact⟨l2,I1.hok.fresh l1,ul7 I1.sz l1,⟨o1,o2,o3⟩,l4⟩,.inr rfl⟩
 unfold noteFrame;simp only[hf];refine um9 (um8 gx dtx tbx ?_)
 cases T with
 |none=>
   rw[lE (by decide)];exact LV (hA.trans (lu some hs)) (hs ▸ I.stack) hf o.rc λh' a l1 l2 l3 l4 l5=>fin s ⟨s.heap,rfl⟩ [] h' a I l1 l2 l3 l4 l5
 |some T₀=>
   clear 5(o.tb T₀ rfl)ne hT nT oT ot ts gT dT t3;rw[lD (show(Value.ref T₀ != Value.none)=true from rfl)];refine um9 (um8 gT dT t3 ?_);rcases o.fo with rfl|rfl
   .rw[lE (show ¬((Value.none==rawInt X.env.locals)=true) from by simp[rawInt])];refine um9 (kT gT dT (ua8.mp t3).1 ?_);have oth:∀b,b≠T₀->(s.heap.update T₀ (Obj.mapFields (·.setIfInBounds 3 Value.none))).get? b=s.heap.get? b:=λb z=>uc0 _ _ (Ne.symm z);have rc':XRec qx (s.heap.update T₀ (Obj.mapFields (·.setIfInBounds 3 Value.none))) x C dx (.ref T₀):=⟨ox,vs,(oth x (Ne.symm ne)).trans gx,cx,dxe,dtx,tbx,xc⟩;have J:=I.left o.hx hT o.nx nT (ch:=[T₀]) ⟨λb u hb _ e=>(oth b (by simpa using hb)).trans e,λb u hb e=>⟨u.slots,(oth b (by simpa using hb)).trans e⟩⟩ (λb hb=>.inr (by simpa using hb)) rc'.is oT.2.1 oT.1 oT.2.2;exact LV (s:={s with heap:=s.heap.update T₀ (Obj.mapFields (·.setIfInBounds 3 Value.none))}) (hA.trans (lu some hs)) (hs ▸ J.stack) hf rc' λh' a l1 l2 l3 l4 l5=>fin _ ⟨_,rfl⟩ [] h' a J l1 l2 l3 l4 l5
   .rw[lD (show(rawInt X.env.locals==rawInt X.env.locals)=true from by first|(simp;done)|exact uh9 _)];exact un0 (k s.heap T₀ I ⟨o.hx,o.nx,o.rc,o.tb,.inr rfl⟩)
end
def XE(qx:Bool)(X:Cx)(E:St->XK):ie->ij->Prop:=λe s=>∃ic σ H x C dx T fl,e=.ref x/\Inv X ic σ H s/\XOn qx X ic H s x C dx T fl/\E σ (.ref x) dx H
def DM(CX:CXT)(X:Cx)(E:St->XK):Prop:=∀(ic:List (ig×Obj)) (σ:St) (H:Hp) (s:ij) (e:ie) (s':ij),Inv X ic σ H s->CX X.stack H s (E σ) e s'->X.xe e s'
section
variable{M:Model}{X:Cx}{E:St->XK}
theorem XE.own(hs:X.stack=X.env::X.outer)(hf:X.env.frame=some X.env.locals):PassesOwn M X.A X.env (XE qx X E):=by
 rintro e s ⟨ic,σ,H,x,C,dx,T,fl,rfl,I,o,q⟩;refine JS I.ok.frames I hs hf o λh' a I' o'=>?_;clear 5(id o'.rc)ox vs gx cx dxe dtx tbx xc;unfold cameBackBy;refine um9 (um8 gx dtx tbx ?_);rw[lE (show ¬((Value.ref a==Value.none)=true) from by intro z;cases z)]
 rw[hf];exact Hj _ I' o' (.inr rfl) λh'' I'' o''=>⟨ic,σ,H,x,C,dx,some a,_,rfl,I'',o'',q⟩
theorem XE.pass:DM (CX1 qx X.prog X.w) (X.wish (XE qx X E)) E:=by
 intro ic σ H s e s' I q;clear 5(I.unwish.raised q)x C dx T H' rfl J hx nx nT ne hT r tb q;exact⟨ic,σ,H',x,C,dx,some T,.none,rfl,J,⟨hx,ul7 I.sz nx,r,λa e=>by cases e;exact⟨ne,hT,ul7 I.sz nT,I.unwish.newT nT,tb⟩,.inl rfl⟩,q⟩
end
section
variable{P:im}{w:ir}{K:ib}{mg:Str->Option ie}{base:Heap}
abbrev cxX(qx:Bool)(P:im)(w:ir)(K:ib)(mg:Str->Option ie)(base:Heap)(N:List Str)(qual:Str)(scope:Scope)(f:ig)(cd:ie)(A:Around)(outer:List Env)(s:ij)(H:Hp)(E:XK):Cx:=
 (E7 (CX1 qx P w) P w K mg base N qual scope f cd A outer s H E).wish (XE qx (E7 (CX1 qx P w) P w K mg base N qual scope f cd A outer s H E) λ_=>E)
theorem XE.leaves{N:List Str}{qual:Str}{scope:Scope}{f:ig}{cd:ie}{A:Around}{outer:List Env}{s₀:ij}{H₀:Hp}{E:XK}{e:ie}{s:ij}
 (h:XE qx (E7 (CX1 qx P w) P w K mg base N qual scope f cd A outer s₀ H₀ E) (λ_=>E) e s):(E7 (CX1 qx P w) P w K mg base N qual scope f cd A outer s₀ H₀ E).xe e s:=by
 clear 5 h ic σ H x C dx T fl rfl I o q;refine um9 (JS I.ok.frames I rfl rfl o λh' a I' o'=>?_);refine Hj none I' o' (.inl rfl) λh'' I'' o''=>?_;clear 5(o''.tb a rfl)ne hT nT oT tb;exact⟨x,C,dx,a,H,rfl,I''.os,I''.bare,I''.base,I''.hok,o''.hx,o''.nx,nT,ne,hT,o''.rc,tb,q⟩
theorem Fun.okX{x qual:Str}{st:Stmt}{f:ig}{fd:iu}{N ps:List Str}{k:Nat}{sp:Sp}(F:Fun K x qual st f fd)(S:FnScope N ps (AD st))(len:∀vs H Q E,sp vs H Q E->vs.length=ps.length)
 (hbody:∀(cdv:ie) (A:Around) (outer:List Env) (s:ij) (H:Hp) (vs:List V) (Q:VK) (E:XK),Room k (A.deeper (envOfC qual (AD st) s.heap.objs.size f cdv))->sp vs H Q E->
   ∃t,PSs (cxX qx P w K mg base N qual (AD st) f cdv A outer s H E) (B6 st) t/\t {nx:=λ_ H'=>Q .non H',rt:=Q} (EC N vs) H):FnOk P w K mg base (CX1 qx P w) (k+1) f fd ps sp:=by
 clear 5 F.ex oc od kV doc pm an cdv ct osl rfl lk hcd;refine U5 lk hcd S len λA outer s H vs Q E hr hsp=>?_;clear 5(hbody cdv A outer s H vs Q E hr hsp)t h q;exact⟨t,λic s1 σ H1 D I hw=>un1 (h ic s1 σ H1 D (I.wish _) hw) (λ_ _ q=>q.unwish) λ_ _ z=>z.leaves,q⟩
theorem FnOk.calm{k:Nat}{f:ig}{fd:iu}{ps:List Str}{sp sp':Sp}(F:FnOk P w K mg base (CX1 qx P w) k f fd ps sp)(h:∀vs H Q E,sp' vs H Q E->sp vs H Q E0):FnOk P w K mg base CX0 k f fd ps sp':=by
 refine⟨λvs H Q E q=>F.len vs H Q E0 (h _ _ _ _ q),λA outer s H args us vs Q E hr he hb hv hs=>kZ (F.run A outer s H args us vs Q E0 hr he hb hv (h _ _ _ _ hs)) λr s' q=>?_⟩
 cases r with
 |error e=>obtain⟨_,_,_,_,_,_,_,_,_,_,_,_,_,_,_,_,_,z⟩:=q;exact z.elim
 |ok fl=>cases fl<;>exact q
end
section
variable{X:Cx}{CX:CXT}{k:Nat}{f:ig}{fd:iu}{ps:List Str}{sp:Sp}{E:St->XK}{x:Str}{p pos:Pos}{e:Expr}{es:List Expr}{t:TA}
def Sy(sp:Sp)(E:St->XK)(t:TA):TE:=λσ H Q=>t σ H λvs H1=>sp vs H1 Q (E σ)
theorem T8(F:FnOk X.prog X.w X.K X.mg X.base CX k f fd ps sp)(hr:Room k X.A)(hg:Gl X x)(hm:X.mg x=some (.ref f))(hk:PySem.W.keepIn X.K (.ref f)=true)(hb:Binds X.K fd ps [])(hx:DM CX X E)
 (ha:PA X (e::es) t) (hdb:(x==("__debug__":Str))=false:=by decide) (he:starEach (e::es) X.env=(false,eval e X.env)::starEach es X.env:=by rfl) (hpl:(backTo pos (starEach es X.env)).any (·.1)=false:=by rfl) :
 PE X (.Call (.Name x p) (e::es) [] pos) (Sy sp E t):=by
 intro ic s σ H Q I h;refine kq (En I hg hm ?_ hdb);refine ue5 (h₀:=X.base) I.ok.mod.kin hk (thn (ha pos ic s σ H _ I h) λus s1 z9=>?_) he hpl;clear 5 z9 vs H1 I1 r q;refine⟨I1.kIn,?_⟩;have hl:(us++[]).length=ps.length:=by rw[ui4,<-r.length];exact F.len _ _ _ _ q
 refine ln (kZ (F.run X.A X.stack s1 H1 ⟨us,[]⟩ us vs Q (E σ) hr I1.env0 (by have:=hb s1 us I1.kIn hl;rwa [ui4] at this) r q) λr s' hq=>?_)
 cases r with
 |error e=>exact hx ic σ H1 s1 e s' I1 hq
 |ok fl=>
   cases fl with
   |ret u=>exact I1.after hq
   |next=>exact False.elim hq
   |brk=>exact False.elim hq
   |cont=>exact False.elim hq
end
end
section
variable{qx:Bool}
def PM(qx:Bool)(X:Cx)(e:Expr)(C:ig)(t:St->Hp->(ig->Option ig->Hp->Prop)->Prop):Prop:=
 ∀(ic:List (ig×Obj)) (s:ij) (σ:St) (H:Hp) (Q:ig->Option ig->Hp->Prop),Inv X ic σ H s->t σ H Q->
  wpAny (model X.prog X.w) X.A (eval e X.env) (λv s1=>∃x dx H1,v=.ref x/\Inv X ic σ H1 s1/\H1 x=some (.ext (L2.XIs qx x C dx))/\X.s₀.heap.objs.size<=x/\XRec true s1.heap x C dx .none/\Q x dx H1) X.xe s
def Ig(qx:Bool)(X:Cx)(E:St->XK):Prop:=∀(ic:List (ig×Obj)) (σ:St) (H:Hp) (s:ij) (x C:ig) (dx:Option ig),Inv X ic σ H s->XOn qx X ic H s x C dx none .none->E σ (.ref x) dx H->X.xe (.ref x) s
theorem XE.raises{X:Cx}{E:St->XK}:Ig qx (X.wish (XE qx X E)) E:=λic σ H s x C dx I o q=>⟨ic,σ,H,x,C,dx,none,.none,rfl,I.unwish,⟨o.hx,o.nx,o.rc,o.tb,o.fo⟩,q⟩
theorem NG{X:Cx}{e:Expr}{C:ig}{bm:List ie}{t:St->Hp->(ig->Option ig->Hp->Prop)->Prop}{E:St->XK}{pos:Pos}(hc:X.calm=true)(c:XCl X.K C bm)(hx:Ig qx X E)(h:PM qx X e C t)
 (ho:evalOpt (some e) X.env=some (eval e X.env):=by rfl):PS X (.Raise (some e) none pos) (λ_ σ H=>t σ H λx dx H1=>E σ (.ref x) dx H1):=by
 intro ic s σ H D I q;rw[arm_exec_Raise,ho];refine um9 (kU ?_);refine Ur (qx:=true) c (I.ok.hd hc) ?_;refine um9 (un1 (h ic s σ H _ I q) (λv s1 z9=>?_) λ_ _ z=>z);clear 5 z9 x dx H1 e1 I1 hx1 nx r q1;subst e1;refine um9 (kU (un0 ⟨x,dx,rfl,I1.kIn,r,hx ic σ H1 s1 x C dx I1 ⟨hx1,nx,r.to,(λa e=>by cases e),.inl rfl⟩ q1⟩))
set_option tactic.hygienic true in
theorem PZ{K:ib}{h:Heap}{N:ig}{m:Str->Option ie}{n:Str}(X:K.In h)(G:h.Ns N m)(e:nsIn K N n=some none):m n=none:=by
 obtain⟨o,es,ep,ho,hd,_,hf⟩:=G;unfold nsIn at e
 split at e
 .next c d es' n' sl q=>
  have z:=X _ _ q;rw[ho] at z
  cases z
  cases hd
  split at e
  .cases e
  .next he=>rw[<-hf];unfold nsFind findBy;rw[<-ue4,he];rfl
 .cases e
section
variable{prog:im}{w:ir}{A:Around}{E:ie->ij->Prop}{h:Heap}{g:Array GenState}{d:Drawn}{t:Nat}{os:OsState}{Q:ie->ij->Prop}
variable{nm q:Str}{C N:ig}{bs bm bmB:List ie}{hdct:Bool}{sn:List Str}{sub:List ie}{ab:Bool}{col:Option Bool}{dd:Option ig}{k0 k1 k2 k3 k5:Option ie}{B newId initId:String}{mN:Str->Option ie}
theorem Rt(F:ExcBaseFacts B newId initId bmB)(T:OwnTail h bmB bm){us:List ie}(hC:h.get? C=some (excClassObj nm q C N bs bm hdct sn sub ab col dd k0 k1 k2 k3 k5 newId))(hn:h.Ns N mN)(hni:mN "__init__" = none)(hus:us.length<=sizeLine)
 (hq:∀h' tp,(∀b o,h.get? b=some o->h'.get? b=some o)->h'.get? (h.objs.size+1)=some (excObj C tp)->Q (.ref (h.objs.size+1)) ⟨h',g,d,t,os⟩) :
 wpAny (model prog w) A (call (.ref C) us) Q E ⟨h,g,d,t,os⟩:=by
 have c1:=tc_lookup;have c2:=tc_bind (.ref C);have ty:(⟨h,g,d,t,os⟩:ij).TypeIs (.ref C) "type":=⟨_,hC,rfl⟩;refine ln (codeAny_of_tree ?_);show wpAny _ _ (callAny (.ref C) _) _ _ _
 repeat (any_goals (first
  |assumption
  |with_reducible refine kz hC ?_
  |wp_step))
 refine⟨rfl,codeAny_call_builtin_at (kr _ (by decide +kernel)) entry_typeCall (je hC ?_)⟩
 repeat (first
  |with_reducible refine kz hC ?_
  |with_reducible refine wpAny_madeBy_exc hC ?_
  |wp_step)
 refine jf (kr _ F.quiet) (wpAny_check_new_subT F T hC (codeAny_exc_new_subT F T hC ?_ hus))
 change wpAny _ _ _ _ _ (Shared.mk (E2 h C us) g d t os)
 have kp:∀b o,h.get? b=some o->(E2 h C us).get? b=some o:=λb o e=>ub9 _ (ub9 _ e);have he:(E2 h C us).get? (h.objs.size+1)=some {cls:=.ref C,data:=.fields #[.ref h.objs.size,.none,.none,.none,.bool false,.none]}:=by heap_get
 have n1:(E2 h C us).Ns N mN:=hn.keeps kp;have cC:(Value.ref C::bm).contains (.ref C)=true:=by simp
 unfold isInstance
 repeat (first
  |with_reducible refine kz he ?_
  |(with_reducible refine kn (kp _ _ hC) ?_;rw[cC])
  |wp_step)
 show wpAny _ _ (typeLookup (.ref C) _) _ _ _;refine wpAny_typeLookup_tail (kp _ _ hC) n1 (T.keeps kp) F.mroIs F.init.lookup ?_;rw[hni];refine ul4 (um9 (wpAny_of_eq (F.init.bind _) (um9 (ln (kj F.init.plain F.initEntry (wpAny_check_init_subT F (T.keeps kp) (kp _ _ hC) he rfl ?_))))))
 wp_walk
 refine hq _ ((E2 h C us).objs.size) (λb o hb=>?_) ?_
 .rw[uc0 _ _ (ul8 (Nat.lt_succ_of_lt (ul5 hb)))];exact ub9 _ (kp b o hb)
 .rw[uc9 _ (ub9 _ he) rfl];rfl
end
section
variable{X:Cx}{k:Nat}{f C P:ig}{fd:iu}{a:Str}{ps:List Str}{n:Str}{p pos:Pos}{e:Expr}{es:List Expr}
theorem ZD{t:TA}(M:XMk X.K C P f)(ha:XAt X.K C P a)(F:FnOk X.prog X.w X.K X.mg X.base CX0 k f fd ps (spI X.K P a))(hr:Room (k+1) X.A)(hb:Binds X.K fd ps [])(hg:Gl X n)(hm:X.mg n=some (.ref C))(hA:PA X [e] t)
 (hdb:(n==("__debug__":Str))=false:=by decide) (h1:starEach [e] X.env=[(false,eval e X.env)]:=by rfl) :
 PM qx X (.Call (.Name n p) [e] [] pos) C (λσ H Q=>t σ H λvs H1=>∃v,vs=[v]/\∀x dx,H1 x=none->H1 dx=none->dx≠x->Q x (some dx) (upd (upd H1 dx (.xd [(a,v)])) x (.ext (L2.XIs qx x C (some dx))))):=by
 intro ic s σ H Q I h;refine kq (En I hg hm ?_ hdb);refine ue5 (h₀:=X.base) I.ok.mod.kin M.kp (thn (hA pos ic s σ H _ I h) λus s1 z9=>?_) h1 rfl;clear 5 z9 vs H1 I1 r v ev q;refine⟨I1.kIn,?_⟩;subst ev
 cases r with
 |cons r0 rs=>
   cases rs
   exact Sj M ha F hr hb I1 r0 λs' x dx I' hx hdx ne nx rc=>⟨x,some dx,_,rfl,I',AG,ul7 I1.sz nx,rc,q x dx hx hdx ne⟩
set_option tactic.hygienic true in
theorem WN{t:TA}{bm:List ie}{cd:ClassData}(c:XCl X.K C bm)(hk:keepIn X.K (.ref C)=true)(hcd:clsIn X.K C=some cd)(hni:nsIn X.K cd.ns "__init__" = some none)(hg:Gl X n)(hm:X.mg n=some (.ref C))(ha:PA X (e::es) t)
 (hdb:(n==("__debug__":Str))=false:=by decide) (h1:starEach (e::es) X.env=(false,eval e X.env)::starEach es X.env:=by rfl) (hpl:(backTo pos (starEach es X.env)).any (·.1)=false:=by rfl) :
 PM qx X (.Call (.Name n p) (e::es) [] pos) C (λσ H Q=>t σ H λvs H1=>vs.length<=1000/\∀x,H1 x=none->Q x none (upd H1 x (.ext (L2.XIs qx x C none)))):=by
 intro ic s σ H Q I h;refine kq (En I hg hm ?_ hdb);refine ue5 (h₀:=X.base) I.ok.mod.kin hk (thn (ha pos ic s σ H _ I h) λus s1 z9=>?_) h1 hpl;clear 5 z9 vs H1 I1 r hl q;refine⟨I1.kIn,?_⟩;clear 5(c.obj I1.kIn)nm q' N bs sn sub ab col dd k0 k1 k2 k3 k5 hC hN;have hni':s1.heap.nsMap N "__init__" = none:=by
  unfold clsIn at hcd
  split at hcd
  .next l=>
   cases hcd
   have z:=I1.kIn _ _ l;rw[hC] at z
   cases z
   exact PZ I1.kIn hN hni
  .cases hcd
 clear 5 s1 hh g d tk os;refine Rt jb (c.tail I1.kIn) hC hN hni' (by show us.length<=sizeLine;rw[<-r.length];exact ul7 hl (by decide)) λh' tp kp ht=>?_;have xr:XRec true h' (hh.objs.size+1) C none .none:=⟨_,_,ht,rfl,rfl,rfl,rfl,λ_=>⟨rfl,by show 4<6;decide⟩⟩;exact⟨_,none,_,rfl,I1.laid (h':=h') (t':=tk) kp (um7 _) (M9 xr.to.is),AG,ul7 I1.sz (um7 _),xr,q _ (I1.hok.fresh (um7 _))⟩
end
end
section
variable{qx:Bool}
abbrev Cx.mark(X:Cx)(x:ig):Cx:={X with A:=X.A.mark (some (.ref x)),calm:=false,xe:=λ_ _=>False}
section
variable{X:Cx}{ic:List (ig×Obj)}{σ:St}{H:Hp}{s:ij}{D:Ends}
theorem Inv.mark(I:Inv X ic σ H s)(x:ig):Inv (X.mark x) ic σ H s:=
 ⟨⟨I.ok.mod,I.ok.kind,I.ok.glob,I.ok.blt,I.ok.above,I.ok.inj,I.ok.has,I.ok.cab,(λz=>by cases z),I.ok.frames,I.ok.stk,I.ok.exf,I.ok.bs,I.ok.bsz,I.ok.noex,I.ok.exfs,I.ok.funs,I.ok.frf⟩,I.os,I.bare,I.base,I.loc,I.cell,I.free,I.freeC,I.pin,I.hok,I.len⟩
theorem Inv.unmark{x:ig}(J:X.Ok)(I:Inv (X.mark x) ic σ H s):Inv X ic σ H s:=⟨J,I.os,I.bare,I.base,I.loc,I.cell,I.free,I.freeC,I.pin,I.hok,I.len⟩
theorem Inv.repin{pn' pins':List (ig×Obj)}{xe:ie->ij->Prop}(I:Inv X ic σ H s)(h:∀p∈pn'++pins',p∈X.pn++ic):Inv {X with pn:=pn',xe:=xe} pins' σ H s:=
 ⟨⟨I.ok.mod,I.ok.kind,I.ok.glob,I.ok.blt,I.ok.above,I.ok.inj,I.ok.has,I.ok.cab,I.ok.hd,I.ok.frames,I.ok.stk,I.ok.exf,I.ok.bs,I.ok.bsz,I.ok.noex,I.ok.exfs,I.ok.funs,I.ok.frf⟩,I.os,I.bare,I.base,I.loc,I.cell,I.free,I.freeC,λp hp=>I.pin p (h p hp),I.hok,I.len⟩
theorem SP.unmark{x:ig}(J:X.Ok){f:Flow}(h:SP (X.mark x) ic D f s):SP X ic D f s:=by
 cases f with
 |next=>clear 5 h σ' H' I q;exact⟨σ',H',I.unmark J,q⟩
 |brk=>clear 5 h σ' H' I q;exact⟨σ',H',I.unmark J,q⟩
 |cont=>clear 5 h σ' H' I q;exact⟨σ',H',I.unmark J,q⟩
 |ret u=>clear 5 h v σ' H' I r q;exact⟨v,σ',H',I.unmark J,r,q⟩
theorem HM{M:Model}{A:Around}{E:ie->ij->Prop}{i:Nat}{n:Str}{pos:Pos}{Q:Unit->ij->Prop}(I:Inv X ic σ H s)(hN:X.N.Nodup)(hi:X.N[i]?=some n)(hk:X.env.scope.names.lookup n=some .local)
 (h:∀s',Inv X ic (σ.set i none) H s'->Q () s'):wpAny M A (do bindName X.env n .none;unbindBehindTheSuite X.env n pos) Q E s:=by
 refine um9 (wpAny_bindName (HL (v:=.non) I hN hi (.inl hk) rfl (λs1 I1=>?_) (.inr hk)));unfold unbindBehindTheSuite;have hiσ:i < σ.length:=by rw[I.len];exact(ub0.mp hi).1
 clear 5(id I1.loc)m hn hl;have hcls:(X.env.scope.kind==.class||(X.env.scope.kind==.module&&X.env.locals != X.env.globals))=false:=by rw[I.ok.kind];rfl
 obtain⟨u0,_,lk⟩:=hl i n .non hi (by rw[ub8 hiσ]) (.inl hk);have hv:m n=some u0:=by
  rcases lk with⟨_,e⟩|⟨k,_⟩
  .exact e
  .have k:X.env.scope.names.lookup n=some .cell\/X.env.scope.names.lookup n=some .free:=k;rw[hk] at k;rcases k with k|k<;>cases k
 refine wpAny_onRaise (wpAny_unbindName_local hk hn hv hcls λh' u hn' hs=>?_);have cne:=I1.cne;have tracked:HOk X.prog X.w H h':=λb ob e=>by
  refine(I1.hok b ob e).stay (λc w' hc q=>(hs.2 c ?_).trans q) (λ_ q=>q) λ_ _ q=>q;rintro rfl;rcases hc with rfl|hc
  .rw[I1.free] at e;cases e
  .rw[I1.free] at hc;cases hc
 have far:∀b o,X.s₀.heap.get? b=some o->b≠X.env.locals:=λb o e=>ul6 (ue1 (ul5 e) I1.ok.above);refine h _ ⟨I1.ok,I1.os,I1.bare,⟨λb o e n hb hx=>?_,λb o e n hb hx=>?_,I1.base.free,λb o e hx=>?_,I1.base.tups,I1.base.frzs,I1.base.tbls⟩,⟨_,hn',λj y v' e1 e2 e3=>?_⟩,λy c e=>?_,I1.free,I1.freeC,λp hp=>?_,tracked,by simpa using I.len⟩
 .exact(hs.2 b (far b o e)).trans (I1.base.keep b o e n hb hx)
 .clear 5(I1.base.slot b o e n hb hx)sl e1;exact⟨sl,(hs.2 b (far b o e)).trans e1⟩
 .clear 5(I1.base.there b o e hx)o' e1;exact⟨o',(hs.2 b (far b o e)).trans e1⟩
 .by_cases hj:j=i
  .subst hj;rw[ub8 hiσ] at e2
   cases e2
  .rw[ud2 (Ne.symm hj)] at e2;clear 5(hl j y v' e1 (by rw[ud2 (Ne.symm hj)];exact e2) e3)u' r' q;refine⟨u',r',?_⟩;rcases q with⟨k,e⟩|⟨k,c,e,z⟩
   .refine .inl ⟨k,?_⟩;have:y≠n:=λe=>hj (JR hN e1 (e ▸ hi));simp[this,e]
   .exact .inr ⟨k,c,e,z.sameBut hs (cne y c e)⟩
 .clear 5(I1.cell y c e)w' z;exact⟨w',z.sameBut hs (cne y c e)⟩
 .clear 5(I1.pin p hp)e n ne nf d;exact⟨(hs.2 p.1 ne).trans e,n,ne,nf,d⟩
end
def PH(qx:Bool)(X:Cx)(hs:List ExceptHandler)(th:ig->ig->Option ig->TS):Prop:=∀(ic:List (ig×Obj)) (s:ij) (σ:St) (H:Hp) (x C:ig) (dx:Option ig) (T:ig) (D:Ends),Inv X ic σ H s->XOn qx X ic H s x C dx (some T) .none->th x C dx D σ H->
 wpAny (model X.prog X.w) X.A (handleBy (.ref x) X.env hs) (SP X ic D) X.xe s
noncomputable def Ends.unset(D:Ends)(i:Nat):Ends:={nx:=λσ H=>D.nx (σ.set i none) H,rt:=D.rt,bk:=λσ H=>D.bk (σ.set i none) H,ct:=λσ H=>D.ct (σ.set i none) H}
section
variable{X:Cx}{n v:Str}{C':ig}{bm':List ie}{p pos:Pos}{b₀:Stmt}{suite:List Stmt}{rest:List ExceptHandler}{ts:ig->TS}{tr:ig->ig->Option ig->TS}{i:Nat}
def eB(K:ib)(C':ig)(i:Nat)(ts:ig->TS)(tr:ig->ig->Option ig->TS):ig->ig->Option ig->TS:=λx C dx D σ H=>∃bm,XCl K C bm/\
 if (Value.ref C::bm).contains (.ref C')=true then ts x (D.unset i) (σ.set i (some (.ref x))) H else tr x C dx D σ H
theorem bF(hg:Gl X n)(hm:X.mg n=some (.ref C'))(c':XCl X.K C' bm')(hN:X.N.Nodup)(hi:X.N[i]?=some v)(hl:X.env.scope.names.lookup v=some .local)(hb:∀x,PSs (X.mark x) (b₀::suite) (ts x))(hr:PH qx X rest tr)
 (hdb:(n==("__debug__":Str))=false:=by decide):PH qx X (.ExceptHandler (some (.Name n p)) (some v) (b₀::suite) pos::rest) (eB X.K C' i ts tr):=by
 intro ic s σ H x C dx T D I o ⟨bm,c,q⟩;have Im:=I.mark x;refine wpAny_handleBy_cons (codeAny_handlers_test (En Im hg hm ?_ hdb)) (by intro z;cases z)
 refine Nv c c' I.kIn o.rc ?_
 cases hc:(Value.ref C::bm).contains (.ref C') with
 |false=>
   rw[hc,lE (by decide)] at q;exact hr ic s σ H x C dx T D I o q
 |true=>
   rw[hc,lD rfl] at q;refine codeAny_handlers_suite_as ?_;refine Hj none I o (.inl rfl) λh1 I1 o1=>?_;refine HL (v:=.ref x) I1 hN hi (.inl hl) rfl (λs2 I2=>?_) (.inr hl);refine un1 (hb x ic s2 _ H _ (I2.mark x) q) (λf s3 z=>?_) λ_ _ z=>z.elim;show wpAny _ _ _ _ _ _;have J:=I.ok
   cases f with
   |next=>clear 5 z σ' H' I' q';exact HM (I'.unmark J) hN hi hl λs4 I4=>⟨_,H',I4,q'⟩
   |brk=>clear 5 z σ' H' I' q';exact HM (I'.unmark J) hN hi hl λs4 I4=>⟨_,H',I4,q'⟩
   |cont=>clear 5 z σ' H' I' q';exact HM (I'.unmark J) hN hi hl λs4 I4=>⟨_,H',I4,q'⟩
   |ret u=>clear 5 z w σ' H' I' r q';exact HM (I'.unmark J) hN hi hl λs4 I4=>⟨w,_,H',I4,r,q'⟩
def eC(K:ib)(C':ig)(ts:TS)(tr:ig->ig->Option ig->TS):ig->ig->Option ig->TS:=λx C dx D σ H=>∃bm,XCl K C bm/\
 if (Value.ref C::bm).contains (.ref C')=true then ts D σ H else tr x C dx D σ H
theorem bG{ts:TS}(hg:Gl X n)(hm:X.mg n=some (.ref C'))(c':XCl X.K C' bm')(hb:∀x,PSs (X.mark x) (b₀::suite) ts)(hr:PH qx X rest tr)
 (hdb:(n==("__debug__":Str))=false:=by decide):PH qx X (.ExceptHandler (some (.Name n p)) none (b₀::suite) pos::rest) (eC X.K C' ts tr):=by
 intro ic s σ H x C dx T D I o ⟨bm,c,q⟩;have Im:=I.mark x;refine wpAny_handleBy_cons (codeAny_handlers_test (En Im hg hm ?_ hdb)) (by intro z;cases z)
 refine Nv c c' I.kIn o.rc ?_
 cases hc:(Value.ref C::bm).contains (.ref C') with
 |false=>
   rw[hc,lE (by decide)] at q;exact hr ic s σ H x C dx T D I o q
 |true=>
   rw[hc,lD rfl] at q;refine codeAny_handlers_suite ?_;refine Hj none I o (.inl rfl) λh1 I1 o1=>?_;exact un1 (hb x ic _ _ H _ (I1.mark x) q) (λf s3 z=>z.unmark I.ok) λ_ _ z=>z.elim
theorem ZG{body:List Stmt}{h₀:ExceptHandler}{hs:List ExceptHandler}{tb:(St->XK)->TS}{th:ig->ig->Option ig->TS}(h1:X.stack=X.env::X.outer)(h2:X.env.frame=some X.env.locals)
 (hb:∀(pn:List (ig×Obj)) (E:St->XK),PSs {X with pn:=pn,xe:=XE qx {X with pn:=pn} E} body (tb E)) (hh:PH qx X (h₀::hs) th) :
 PS X (.Try body (h₀::hs) [] [] pos) (λD σ H=>tb (λσ' v dx H'=>∀x C,v=.ref x->H' x=some (.ext (L2.XIs qx x C dx))->(∃h,L2.XIs qx x C dx h)->th x C dx D σ' H') D σ H):=by
 intro ic s σ H D I q;refine wpAny_Try_except ?_;refine un1 (hb (X.pn++ic) _ [] s σ H D (I.repin λp hp=>by simpa using hp) q) (λf s1 z=>?_) λe s1 z=>?_
 .have back:∀{σ':St}{H':Hp},Inv {X with pn:=X.pn++ic,xe:=XE qx {X with pn:=X.pn++ic} (λσ' v dx H'=>∀x C,v=.ref x->H' x=some (.ext (L2.XIs qx x C dx))->(∃h,L2.XIs qx x C dx h)->th x C dx D σ' H')} [] σ' H' s1->Inv X ic σ' H' s1:=λJ=>J.repin (X:={X with pn:=X.pn++ic,xe:=_}) (pn':=X.pn) (pins':=ic) (xe:=X.xe) λp hp=>by simpa using hp
  cases f with
  |next=>clear 5 z σ' H' J q';exact kN ⟨σ',H',back J,q'⟩
  |brk=>clear 5 z σ' H' J q';exact⟨σ',H',back J,q'⟩
  |cont=>clear 5 z σ' H' J q';exact⟨σ',H',back J,q'⟩
  |ret u=>clear 5 z w σ' H' J r q';exact⟨w,σ',H',back J,r,q'⟩
 .clear 5 z pins' σ' H' x C dx T fl rfl J o q';have J1:Inv X ic σ' H' s1:=J.repin (X:={X with pn:=X.pn++ic}) (pn':=X.pn) (pins':=ic) (xe:=X.xe) λp hp=>by
   simp only[ui0] at hp⊢;exact .inl hp
  have o1:XOn qx X ic H' s1 x C dx T fl:=⟨o.hx,o.nx,o.rc,λa e=>by
   obtain⟨z1,z2,z3,⟨y1,y2,y3⟩,z5⟩:=o.tb a e;exact⟨z1,z2,z3,⟨y1,y2,λp hp=>y3 p (by simp only[ui0] at hp⊢;exact .inl hp)⟩,z5⟩,o.fo⟩
  refine JS J1.ok.frames J1 h1 h2 o1 λh' a I' o'=>Hj none I' o' (.inl rfl) λh'' I'' o''=>?_;exact hh ic _ σ' H' x C dx a D I'' o'' (q' x C rfl o.hx ⟨_,o.rc.is⟩)
end
end
section
variable{qx:Bool}
noncomputable def Bu:D->Bool
 |.exc _ _=>true
 |_=>false
def exE(E:XK)(v:V)(H:Hp):Prop:=∀x dx,v=.ref x->E (.ref x) dx H
section
variable(K:ib)
inductive RX(E:L2.St->XK)(f:M D)(σ:L2.St)(H:Hp)(Q:VK):Prop where
 |mk (Oo:ig->Prop) (c:Cf) (t:T) (fi:FInv K Oo c t σ H) (r:D) (t':T) (e:f t=some (r,t')) (k:∀v H' c',FInv K Oo c' t' σ H'->Stp Oo c H c' H'->Rep K c' H' v r->if Bu r=true then exE (E σ) v H' else Q v H'):RX E f σ H Q
def μX(E:XK):Cf->Hp->D->(V->Hp->Prop)->Prop:=λc H r rt=>∀v,Rep K c H v r->if Bu r=true then exE E v H else rt v H
inductive RSX(E:L2.St->XK)(f:M Out)(D:Ends)(σ:L2.St)(H:Hp):Prop where
 |mk (Oo:ig->Prop) (c:Cf) (t:T) (fi:FInv K Oo c t σ H) (o:Out) (t':T) (e:f t=some (o,t')) (k:∀σ' H' c',FInv K Oo c' t' σ' H'->Stp Oo c H c' H'->
 match (generalizing:=false) o with
 |.next=>D.nx σ' H'
 |.brk=>D.bk σ' H'
 |.cont=>D.ct σ' H'
 |.ret r=>∀v,Rep K c' H' v r->if Bu r=true then exE (E σ') v H' else D.rt v H'):RSX E f D σ H
inductive spX(f:Fn)(vs:List V)(H:Hp)(Q:VK)(E:XK):Prop where
 |mk (c:Cf) (ds:List D) (S:List Ob) (si:SInv K c S H) (rs:Reps K c H vs ds) (r:D) (S':List Ob) (e:f ds S=some (r,S')) (k:∀v H' c',SInv K c' S' H'->Stp c.O c H c' H'->(∀b,c'.O b↔c.O b)->Rep K c' H' v r->if Bu r=true then exE E v H' else Q v H'):spX f vs H Q E
end
def II(g:Fn):Fn:=λds S=>match g ds S with
 |some (r,S')=>if Bu r=true then none else some (r,S')
 |none=>none
variable{g:Fn}{r:D}
set_option tactic.hygienic true in
theorem RL{ds:List D}{S S':List Ob}(h:II g ds S=some (r,S')):g ds S=some (r,S')/\Bu r=false:=by
 unfold II at h
 split at h
 .next r' S1 e=>
  by_cases hx:Bu r'=true
  .rw[lD hx] at h;cases h
  .rw[lE hx] at h;cases h;exact⟨e,by simpa using hx⟩
 .cases h
variable{fa:ig}{fd:iu}
section
variable{P:im}{w:ir}{K:ib}{mg:Str->Option ie}{base:Heap}
theorem aX{k:Nat}{ps:List Str}(F:FnOk P w K mg base (CX1 qx P w) k fa fd ps (spX K g)):FnOk P w K mg base CX0 k fa fd ps (spF K (II g)):=
 F.calm λvs H Q E z9=>by
  clear 5 z9 c ds S si rs r S' e kk;clear 5(RL e)e1 e2;exact⟨c,ds,S,si,rs,r,S',e1,λv H' c' a1 a2 a3 a4=>by rw[lE (by rw[e2];decide)];exact kk v H' c' a1 a2 a3 a4⟩
set_option tactic.hygienic true in
theorem VU{x qual:Str}{st:Stmt}{N ps:List Str}{k n m:Nat}{g:M Out}(e1:ps.length=n)(e2:N.length=m)(F:Fun K x qual st fa fd)(S:FnScope N ps (AD st))
 (hb:∀(cdv:ie) (A:Around) (outer:List Env) (s:ij) (H:Hp) (E:XK),Room k (A.deeper (PyProof.Rows.envOfC qual (AD st) s.heap.objs.size fa cdv))->
   DM (CX1 qx P w) (cxX qx P w K mg base N qual (AD st) fa cdv A outer s H E) (λ_=>E)->Ig qx (cxX qx P w K mg base N qual (AD st) fa cdv A outer s H E) (λ_=>E)->
   PassesOwn (model P w) (cxX qx P w K mg base N qual (AD st) fa cdv A outer s H E).A (cxX qx P w K mg base N qual (AD st) fa cdv A outer s H E).env (cxX qx P w K mg base N qual (AD st) fa cdv A outer s H E).xe->
   PSs (cxX qx P w K mg base N qual (AD st) fa cdv A outer s H E) (B6 st) (RSg K (μX K E) g)):FnOk P w K mg base (CX1 qx P w) (k+1) fa fd ps (spX K (fnOf n m g)):=by
 subst e1 e2;have hlen:∀{ds:List D}{S:List Ob}{z:D×List Ob},fnOf ps.length N.length g ds S=some z->ds.length=ps.length:=λ{ds S z} h=>by
  unfold fnOf at h
  split at h
  .next h1=>exact h1
  .cases h
 refine F.okX S (λvs H Q E h=>?_) (λcdv A outer s H vs Q E hr h=>?_)
 .obtain⟨c,ds,S,si,rs,r,S',e,_⟩:=h;rw[rs.length];exact hlen e
 clear 5 h c ds S0 si rs r S' e kk;refine⟨RSg K (μX K E) g,hb cdv A outer s H E hr XE.pass XE.raises (XE.own rfl rfl),?_⟩;have hl:=hlen e;unfold fnOf at e;rw[lD hl] at e
 cases eg:g ⟨env0 N.length ds,S0⟩ with
 |none=>rw[eg] at e;cases e
 |some p=>
   clear 5 p o t;rw[eg] at e;refine⟨c.O,c,_,Hx si rs,o,t,eg,λσ' H' c' f' s'=>?_⟩;clear 5 f'.leave si' ext';have st':Stp c.O c H ⟨c'.ι,c.O⟩ H':=⟨s'.ext.trans ext',s'.oo⟩
   cases o with
   |next=>cases e;exact kk .non H' _ si' st' (λ_=>lz) .non
   |ret d=>cases e;exact λv rv=>kk v H' _ si' st' (λ_=>lz) (rv.mono ext')
   |brk=>cases e
   |cont=>cases e
theorem W6{ps:List Str}{k:Nat}{f:Fn}(e:f=g)(h:FnOk P w K mg base (CX1 qx P w) k fa fd ps (spX K g)):FnOk P w K mg base (CX1 qx P w) k fa fd ps (spX K f):=by rw[e];exact h
end
variable{f:M D}
section
variable{X:Cx}{e a b:Expr}{es:List Expr}{pos:Pos}{E:L2.St->XK}{st:Stmt}
theorem Jl{E:XK}{f:M Out}(h:PS X st (RSX X.K (λ_=>E) f)):PS X st (RSg X.K (μX X.K E) f):=Br h λD σ H z9=>by
 clear 5 z9 Oo c t fi o t' eq k;refine⟨Oo,c,t,fi,o,t',eq,λσ' H' c' f' s'=>?_⟩;have q:=k σ' H' c' f' s'
 cases o<;>exact q
theorem V3{k:Nat}{ps:List Str}{f:M (List D)}{x:Str}{p:Pos}(F:FnOk X.prog X.w X.K X.mg X.base (CX1 qx X.prog X.w) k fa fd ps (spX X.K g))(hr:Room k X.A)(hg:Gl X x)(hm:X.mg x=some (.ref fa))(hk:PySem.W.keepIn X.K (.ref fa)=true)(hb:Binds X.K fd ps [])
 (hx:DM (CX1 qx X.prog X.w) X E) (ha:PA X (e::es) (RA X.K f)) (hdb:(x==("__debug__":Str))=false:=by decide) (h1:Bn e=false:=by rfl) (h2:Bs es=true:=by rfl) :
 PE X (.Call (.Name x p) (e::es) [] pos) (RX X.K E (Ak g f)):=
 AM (T8 F hr hg hm hk hb hx ha hdb (Bp h1) (Bj h2).1) λσ H Q z9=>by
  clear 5 z9 Oo c t fi r t' eq kk;clear 5(Ai eq)ds t1 e1 eq;clear 5(GM eq)S' e2 rfl;refine⟨Oo,c,t,fi,ds,t1,e1,λvs H1 c1 f1 s1 rvs=>?_⟩;refine⟨c1,ds,t1.S,f1.s,rvs,r,S',e2,λv H' c' si st ho rv=>?_⟩;clear 5(f1.after si st ho)f2 s2;exact kk v H' c' f2 (s1.trans s2) rv
def nxD(f:M D):M D:=bnd f λd=>if Bu d=true then fail else ret d
theorem NB{t t':T}(h:nxD f t=some (r,t')):f t=some (r,t')/\Bu r=false:=by
 clear 5(Ai h)d t1 e1 h
 by_cases hx:Bu d=true
 .rw[lD hx] at h;cases h
 .rw[lE hx] at h;cases h;exact⟨e1,by simpa using hx⟩
theorem Re{A B:Prop}(h:Bu r=false)(q:if Bu r=true then A else B):B:=by rw[lE (by rw[h];decide)] at q;exact q
def K6(g:M D)(h:D->M D):M D:=bnd g λy=>if Bu y=true then ret y else nxD (h y)
theorem RX.bind{K:ib}{g:M D}{h:D->M D}{σ:L2.St}{H:Hp}{Q:VK}{Oo:ig->Prop}{c:Cf}{t t':T}(fi:FInv K Oo c t σ H)(eq:K6 g h t=some (r,t'))
 (k:∀v H' c',FInv K Oo c' t' σ H'->Stp Oo c H c' H'->Rep K c' H' v r->if Bu r=true then exE (E σ) v H' else Q v H'){R:V->Hp->Prop}
 (s:∀y dy t1 H1 c1,FInv K Oo c1 t1 σ H1->Stp Oo c H c1 H1->Rep K c1 H1 y dy->h dy t1=some (r,t')->(∀v H' c',FInv K Oo c' t' σ H'->Stp Oo c1 H1 c' H'->Rep K c' H' v r->Q v H')->R y H1):RX K E g σ H R:=by
 clear 5(Ai eq)dy t1 e1 eq;refine⟨Oo,c,t,fi,dy,t1,e1,λy H1 c1 f1 s1 ry=>?_⟩
 by_cases hx:Bu dy=true
 .rw[lD hx] at eq⊢
  cases eq
  have:=k y H1 c1 f1 s1 ry;rw[lD hx] at this;exact this
 .rw[lE hx] at eq⊢;clear 5(NB eq)e2 e3;exact s y dy t1 H1 c1 f1 s1 ry e2 λv H' c' f' s' rv=>Re e3 (k v H' c' f' (s1.trans s') rv)
def IY(f g:M D)(h:D->D->M D):M D:=bnd f λx=>K6 g λy=>h x y
theorem RX.two{K:ib}{g:M D}{h:D->D->M D}{R:R2}(s:BE K R h){σ:L2.St}{H:Hp}{Q:VK}(q:RX K E (IY f g h) σ H Q):tOp R (RE K f) (RX K E g) σ H Q:=by
 clear 5 q Oo c t fi r t' eq k;clear 5(Ai eq)dx t1 e1 eq;refine⟨Oo,c,t,fi,dx,t1,e1,λx H1 c1 f1 s1 rx=>?_⟩;exact RX.bind f1 eq (λv H' c' f' s' rv=>k v H' c' f' (s1.trans s') rv) λy dy t2 H2 c2 f2 s2 ry e2 kk=>s f2 (rx.mono s2.ext) ry e2 kk
theorem bo{op:Operator}{R:R2}{g:M D}{h:D->D->M D}(ho:OpR X (binaryOp op) R)(s:BE X.K R h)(ha:PE X a (RE X.K f))(hb:PE X b (RX X.K E g)):PE X (.BinOp a op b pos) (RX X.K E (IY f g h)):=
 AM (Qb ho ha hb) λ_ _ _ q=>RX.two s q
def gn(f g:M D)(h:D->D->M D):M D:=K6 f λx=>bnd g λy=>h x y
def fZ(g:Fn)(f:M D):M D:=K6 f λd t=>match g [d] t.S with
 |some (r,S')=>some (r,{t with S:=S'})
 |none=>none
theorem OD(h:PE X e (RX X.K E f)):PS X (.Return (some e) pos) (RSX X.K E (An f)):=
 Br (IM h) λD σ H z9=>by
  clear 5 z9 Oo c t fi o t' eq k;clear 5(Ai eq)d t1 e1 eq
  cases eq
  exact⟨Oo,c,t,fi,d,_,e1,λv H1 c1 f1 s1 rv=>k σ H1 c1 f1 s1 v rv⟩
def setX(i:Nat)(f:M D):M Out:=bnd f λd=>if Bu d=true then ret (.ret d) else bnd (AE i d) λ_=>ret .next
theorem OE{i:Nat}{x:Str}{pos':Pos}(hN:X.N.Nodup)(hi:X.N[i]?=some x)(hx:Loc X.env.scope x)(he:PE X e (RX X.K E f))(hs:swapsWith e (some (.Name x pos')) pos.line X.env=pure false:=by rfl)(hf:X.fn x=true\/X.env.scope.names.lookup x=some .local:=by walk_at"h") :
 PS X (.Assign [.Name x pos'] e pos) (RSX X.K E (setX i f)):=Br (NH hN hi hx he hs hf) λD σ H z9=>by
 clear 5 z9 Oo c t fi o t' eq k;clear 5(Ai eq)d t1 e1 eq;refine⟨Oo,c,t,fi,d,t1,e1,λv H1 c1 f1 s1 rv=>?_⟩
 by_cases hx:Bu d=true
 .rw[lD hx] at eq⊢
  cases eq
  have:=k σ H1 c1 f1 s1 v rv;rw[lD hx] at this;exact this
 .rw[lE hx] at eq⊢
  cases eq
  exact k _ H1 c1 (f1.set rv) s1
def gm(f:M D):M Out:=bnd f λd=>if Bu d=true then ret (.ret d) else ret .next
def gA(f:M D)(g:D->M Unit):M Out:=bnd f λd=>if Bu d=true then ret (.ret d) else bnd (g d) λ_=>ret .next
theorem Tw{f:M Out}(h:PS X st (RSX X.K E f)):PSs X [st] (RSX X.K E f):=Lv h
end
end
structure XGet(K:ib)(C:ig):Prop where
 ga:findIn K (.ref C) "__getattribute__" = some (some (.builtin "BaseException.__getattribute__"))
 gt:findIn K (.ref C) "__getattr__" = some none
 mb:mroIn K C (.type "BaseException")=some true
 mo:mroIn K C (.type "object")=some true
 hd:hasDictIn K C=true
section
variable{prog:im}{w:ir}{A:Around}{E:ie->ij->Prop}{s:ij}{K:ib}{x C:ig}{ox:Obj}{od:Option Obj}{name:Str}{tk:Tok}{Q:ie->ij->Prop}{R:Result->ij->Prop}
theorem QS{fill expr:Bool}(X:K.In s.heap)(I:InstAt s.heap x ox C od)(g:XGet K C)
 (h:codeAny (model prog w) A (.call (.builtin "BaseException.__getattribute__") ⟨[.ref x,.str name tk],[]⟩) (λr s'=>match r with | .ok (.ret v)=>wpAny (model prog w) A (handedOut v) Q E s'|_=>False) s) :
 wpAny (model prog w) A (getAttrBy (.ref x) (.str name tk) fill expr) Q E s:=by
 have L0:=I.type (M:=model prog w);have L1:=looks_findIn (M:=model prog w) X g.ga;have L2:=looks_findIn (M:=model prog w) X g.gt;have ne:(onTheHeap (Value.ref C)&&Value.builtin "BaseException.__getattribute__" == Value.builtin "object.__getattribute__")=false:=by
  rw[show(Value.builtin "BaseException.__getattribute__" == Value.builtin "object.__getattribute__")=false from by decide +kernel];rfl
 unfold getAttrBy;refine ul4 (um9 (L0.here (um9 (L1.here ?_))));show wpAny _ _ (if (onTheHeap (Value.ref C)&&Value.builtin "BaseException.__getattribute__" == Value.builtin "object.__getattribute__")=true then _ else _) _ _ _;rw[lE (by rw[ne];decide)];unfold getAttrByItsOwn hookBefore;rw[lD (show onTheHeap (Value.ref C)=true from rfl)];refine um9 (L2.here (um9 (wpAny_attempt (ul4 ?_))));unfold callGetattribute;rw[lE (show ¬((expr&&onTheHeap (Value.builtin "BaseException.__getattribute__"))=true) from by cases expr<;>decide)];unfold boundAndCalled;refine um9 (wpAny_of_eq (PySem.F.excAttr_ValueError.ga.bind _) (ln (kZ h λr s' z=>?_)))
 cases r with
 |error e=>exact z.elim
 |ok f=>cases f<;>first|exact z|exact z.elim
theorem Tx(X:K.In s.heap)(I:InstAt s.heap x ox C od)(g:XGet K C)
 (h:wpAny (model prog w) A.in1 («object.__getattribute__» ⟨[.ref x,.str name tk],[]⟩) (λfin s'=>match fin with | .done f=>R (.ok f) s' | .again c'=>c'.quiet=true/\codeAny (model prog w) A c' R s') (λe s'=>R (.error e) s') s) :
 codeAny (model prog w) A (.call (.builtin "BaseException.__getattribute__") ⟨[.ref x,.str name tk],[]⟩) R s:=by
 have ob:Looks (model prog w) s.heap (isInstance (.ref x) (.type "BaseException")) true:=I.type.andThen (looks_mroIn X g.mb);refine kj PySem.F.excAttr_ValueError.ga.plain PySem.F.entry_bexc_ga (@check_slot (model prog w) _ _ s "BaseException.__getattribute__" "BaseException" "__getattribute__" (.ref x) [.str name tk] [] _ (by decide +kernel) (by decide +kernel) ob (PySem.F.args_bexc_ga (.ref x) (.str name tk)) h)
theorem Ty{v:ie}(X:K.In s.heap)(I:InstAt s.heap x ox C od)(g:XGet K C)(hf:findObj K C od name=some (.value v))(h:R (.ok (.ret v)) s) :
 codeAny (model prog w) A (.call (.builtin "BaseException.__getattribute__") ⟨[.ref x,.str name tk],[]⟩) R s:=by
 refine Tx X I g ?_;have L0:=I.type (M:=model prog w);have L1:=looks_find (M:=model prog w) X I hf;refine um9 (un0 (um9 (un0 (um9 (L0.here (um9 (L1.here ?_)))))));exact un0 h
end
section
variable{qx:Bool}
abbrev BL:List Str:=["Short", "Broken", "NoTalk", "NoRow"]
structure XM(K:ib)(mg:Str->Option ie)(P:ig)(ca:Str->ig):Prop where
 pm:mg "ParleyError" = some (.ref P)
 pc:XCl K P VE
 ns:∀n∈BL,nsIn K mainGlobals n=some (some (.ref (ca n)))
 ms:∀n∈BL,mg n=some (.ref (ca n))
 cl:∀n∈BL,XCl K (ca n) (.ref P::VE)
 inj:∀n∈BL,∀m∈BL,ca n=ca m->n=m
 np:∀n∈BL,ca n≠P
 kp:∀n∈BL,keepIn K (.ref (ca n))=true
 gt:∀n∈BL,XGet K (ca n)
 gc:∀n∈BL,findIn K (.ref (ca n)) "__class__" = some (some (.builtin "object.__class__"))
 na:∀n∈BL,findIn K (.ref (ca n)) "at" = some none
 nd:∀n∈BL,findIn K (.ref (ca n)) "side" = some none
noncomputable def FF(n m:Str):Bool:=m == "ParleyError" || m == "ValueError" || n==m
theorem Iq{a b:ig}{r:List ie}:(Value.ref a::r).contains (.ref b)=(a==b||r.contains (.ref b)):=by
 rw[List.contains_cons]
 congr 1
 by_cases h:a=b
 .subst h;simp
 .rw[kl.mpr h,kl.mpr (λz:Value.ref b=Value.ref a=>h (Value.ref.inj z).symm)]
theorem XU{b:ig}:VE.contains (.ref b)=false:=rfl
section
variable{K:ib}{mg:Str->Option ie}{P:ig}{ca:Str->ig}
theorem XM.subE(x:XM K mg P ca){n m:Str}(hn:n∈BL)(hm:m∈BL):(Value.ref (ca n)::.ref P::VE).contains (.ref (ca m))=FF n m:=by
 rw[Iq,Iq,XU,kl.mpr (Ne.symm (x.np m hm)),uk5,uk5];have h1:(m==("ParleyError":Str))=false/\(m==("ValueError":Str))=false:=by
  simp only[BL,uk3,uh6,lw] at hm;rcases hm with rfl|rfl|rfl|rfl<;>exact⟨by decide,by decide⟩
 unfold FF;rw[h1.1,h1.2,uk8,uk8]
 by_cases h:n=m
 .subst h;rw[uh9,uh9]
 .rw[kl.mpr h,kl.mpr λz=>h (x.inj n hn m hm z)]
theorem XM.of(x:XM K mg P ca){n:Str}{C:ig}(hn:n∈BL)(h:nsIn K mainGlobals n=some (some (.ref C))):C=ca n:=by
 rw[x.ns n hn] at h;injection h with h;injection h with h;injection h with h
 exact h.symm
end
theorem XJ{q1 q2:Bool}{x C C':ig}{dx dx':Option ig}(h:XIs q1 x C dx=XIs q2 x C' dx')(e:∃h,XIs q1 x C dx h):C=C'/\dx=dx':=by
 clear 5 e hh o vs e1 e2 e3 e4;have q:XIs q2 x C' dx' hh:=by rw[<-h];exact⟨o,vs,e1,e2,e3,e4⟩
 clear 5 q o' vs' q1 q2 q3 q4;rw[e1] at q1;cases q1
 rw[e2] at q2;cases q2
 exact⟨rfl,e3.symm.trans q3⟩
section
variable{X:Cx}{e:Expr}{es:List Expr}{pos p pos2:Pos}{E:L2.St->XK}{P:ig}{ca:Str->ig}
def XN1(prog:im)(w:ir)(K:ib)(mg:Str->Option ie)(base:Heap)(C P:ig):Prop:=
 ∃(f:ig) (fd:iu) (ps:List Str),XMk K C P f/\XAt K C P "at"/\Binds K fd ps []/\FnOk prog w K mg base CX0 1 f fd ps (spI K P "at")
def IN(n:Str)(f:M (List D)):M Out:=bnd f λds=>match ds with
 |[d]=>ret (.ret (.exc n [d]))
 |_=>fail
theorem Q6{f:M (List D)}(x:XM X.K X.mg P ca)(xn:XN1 X.prog X.w X.K X.mg X.base (ca "NoTalk") P)(hr:L2.Room 2 X.A)(hc:X.calm=true)(hx:Ig qx X E)(hg:Gl X "NoTalk")(ha:PA X [e] (RA X.K f))
 (h1:Bn e=false:=by rfl):PS X (.Raise (some (.Call (.Name "NoTalk" p) [e] [] pos)) none pos2) (RSX X.K E (IN "NoTalk" f)):=by
 clear 5 xn fa fd ps M A B F;have hn:("NoTalk":Str)∈BL:=by decide
 refine Br (NG hc M.cl hx (ZD M A F hr B hg (x.ms _ hn) ha (by decide) (Bp h1))) λD σ H z9=>?_;clear 5 z9 Oo c t fi o t' eq k;clear 5(Ai eq)ds t1 e1 eq;refine⟨Oo,c,t,fi,ds,t1,e1,λvs H1 c1 f1 s1 rvs=>?_⟩
 match ds,rvs,eq with
 |[],_,eq=>cases eq
 |_::_::_,_,eq=>cases eq
 |[d],.cons (v:=v0) rv .nil,eq=>
   cases eq
   refine⟨_,rfl,λy dx hy hdx ne=>?_⟩;have f2:=f1.laid (o:=.xd [("at",v0)]) hdx;have hy2:upd H1 dx (.xd [("at",v0)]) y=none:=by rw[Ap (Ne.symm ne)];exact hy
   have f3:=f2.laid (o:=.ext (XIs qx y (ca "NoTalk") (some dx))) hy2;have s3:=s1.trans ((f1.stp_laid (o:=.xd [("at",v0)]) hdx).trans (f2.stp_laid (o:=.ext (XIs qx y (ca "NoTalk") (some dx))) hy2));refine k σ _ c1 f3 s3 (.ref y) (.exc (x.ns _ hn) AG (f2.s.free hy2) ?_ (.cons (rv.mono ((f1.stp_laid hdx).ext.trans (f2.stp_laid hy2).ext)) .nil)) y (some dx) rfl;exact⟨by rw[Ap ne,AG];rfl,f1.s.free hdx⟩
def XN0(K:ib)(C:ig):Prop:=∃cd,clsIn K C=some cd/\nsIn K cd.ns "__init__" = some none
def Fs(n:Str)(f:M (List D)):M Out:=bnd f λds=>if ds.length<=1000 then ret (.ret (.exc n [])) else fail
set_option tactic.hygienic true in
theorem LZ{n:Str}{f:M (List D)}(x:XM X.K X.mg P ca)(hn:n∈BL)(hf:JM n=[])(xn:XN0 X.K (ca n))(hc:X.calm=true)(hx:Ig qx X E)(hg:Gl X n)(ha:PA X (e::es) (RA X.K f))
 (hdb:(n==("__debug__":Str))=false:=by decide) (h1:Bn e=false:=by rfl) (h2:Bs es=true:=by rfl):PS X (.Raise (some (.Call (.Name n p) (e::es) [] pos)) none pos2) (RSX X.K E (Fs n f)):=by
 clear 5 xn cd hcd hni;refine Br (NG hc (x.cl n hn) hx (WN (x.cl n hn) (x.kp n hn) hcd hni hg (x.ms _ hn) ha hdb (Bp h1) (Bj h2).1)) λD σ H z9=>?_;clear 5 z9 Oo c t fi o t' eq k;clear 5(Ai eq)ds t1 e1 eq;refine⟨Oo,c,t,fi,ds,t1,e1,λvs H1 c1 f1 s1 rvs=>?_⟩
 split at eq
 .next hl=>
  cases eq
  refine⟨by rw[rvs.length];exact hl,λy hy=>?_⟩;have f3:=f1.laid (o:=.ext (XIs qx y (ca n) none)) hy;exact k σ _ c1 f3 (s1.trans (f1.stp_laid hy)) (.ref y) (.exc (x.ns _ hn) AG (f1.s.free hy) (vs:=[]) rfl .nil) y none rfl
 .cases eq
end
section
variable{X:Cx}{pos p:Pos}{P:ig}{ca:Str->ig}{μ:Cf->Hp->D->(V->Hp->Prop)->Prop}
inductive RH(K:ib)(ca:Str->ig)(μ:Cf->Hp->D->(V->Hp->Prop)->Prop)(h:D->M Out)(x C:ig)(dx:Option ig)(E:Ends)(σ:L2.St)(H:Hp):Prop where
 | mk (Oo:ig->Prop) (c:Cf) (t:T) (n:Str) (ds:List D) (fi:FInv K Oo c t σ H) (hn:n∈BL) (hC:C=ca n) (rp:Rep K c H (.ref x) (.exc n ds)) (o:Out) (t':T) (e:h (.exc n ds) t=some (o,t')) (k:∀σ' H' c',FInv K Oo c' t' σ' H'->Stp Oo c H c' H'->
   match (generalizing:=false) o with
   |.next=>E.nx σ' H'
   |.brk=>E.bk σ' H'
   |.cont=>E.ct σ' H'
   |.ret r=>μ c' H' r E.rt):RH K ca μ h x C dx E σ H
noncomputable def unE(i:Nat)(t:T):T:={t with env:=t.env.set i none}
set_option tactic.hygienic true in
theorem FInv.unset{K:ib}{Oo:ig->Prop}{c:Cf}{t:T}{σ:L2.St}{H:Hp}(f:FInv K Oo c t σ H)(i:Nat):FInv K Oo c (unE i t) (σ.set i none) H:=by
 have neq:∀{j:Nat}{x:Sl},(t.env.set i none)[j]?=some (some x)->j≠i/\t.env[j]?=some (some x):=λ{j x} q=>by
  by_cases h:j=i
  .subst h;rw[uf9] at q
   split at q
   .split at q
    .injection q with q;cases q
    .cases q
   .next h1=>exact absurd rfl h1
  .rw[ud2 (Ne.symm h)] at q;exact⟨h,q⟩
 refine⟨f.s,by simp[unE,f.len],f.sub,λj e q=>?_,λj ds q=>?_,λj k ds es a q1 q2 q3 q4=>?_⟩
 .clear 5(neq q)h q;clear 5(f.val j e q)u h1 h2;exact⟨u,by rw[ud2 (Ne.symm h)];exact h1,h2⟩
 .clear 5(neq q)h q;clear 5(f.own j ds q)a vs h1 h2;exact⟨a,vs,by rw[ud2 (Ne.symm h)];exact h1,h2⟩
 .clear 5(neq q1)h q1;clear 5(neq q2)h' q2;rw[ud2 (Ne.symm h)] at q3;rw[ud2 (Ne.symm h')] at q4;exact f.inj j k ds es a q1 q2 q3 q4
def hAs(n':Str)(i:Nat)(s:M Out)(r:D->M Out):D->M Out:=λe t=>match e with
 | .exc n ds=>if FF n n'=true then (match s { t with env:=t.env.set i (some (.val (.exc n ds))) } with
   |some (o,t2)=>some (o,unE i t2)
   |none=>none) else r (.exc n ds) t
 |_=>none
def hNo(n':Str)(s:M Out)(r:D->M Out):D->M Out:=λe t=>match e with
 |.exc n ds=>if FF n n'=true then s t else r (.exc n ds) t
 |_=>none
noncomputable def TD:D->M Out:=λ_ _=>none
theorem Yx:PH qx X [] (RH X.K ca μ TD):=by
 rintro _ _ _ _ _ _ _ _ _ _ _ ⟨_,_,_,_,_,_,_,_,_,_,_,e,_⟩
 cases e
theorem U3{n' v:Str}{C':ig}{bm':List ie}{i:Nat}{b₀:Stmt}{suite:List Stmt}{rest:List ExceptHandler}{s:M Out}{r:D->M Out}(x:XM X.K X.mg P ca)(hg:Gl X n')(hm:X.mg n'=some (.ref C'))(c':XCl X.K C' bm')(hs:∀n∈BL,(Value.ref (ca n)::.ref P::VE).contains (.ref C')=FF n n')
 (hN:X.N.Nodup) (hi:X.N[i]?=some v) (hl:X.env.scope.names.lookup v=some .local) (hb:∀x,PSs (X.mark x) (b₀::suite) (RSg X.K μ s)) (hr:PH qx X rest (RH X.K ca μ r)) (hdb:(n'==("__debug__":Str))=false:=by decide) :
 PH qx X (.ExceptHandler (some (.Name n' p)) (some v) (b₀::suite) pos::rest) (RH X.K ca μ (hAs n' i s r)):=by
 intro ic s0 σ H y C dx T D I o q;refine bF hg hm c' hN hi hl hb hr hdb ic s0 σ H y C dx T D I o ?_;clear 5 q Oo c t n ds fi hn rfl rv o1 t' eq k;refine⟨_,x.cl n hn,?_⟩;rw[hs n hn];unfold hAs at eq;dsimp only at eq
 by_cases hb':FF n n'=true
 .rw[lD hb'] at eq⊢
  cases e1:s {t with env:=t.env.set i (some (.val (.exc n ds)))} with
  |none=>rw[e1] at eq;cases eq
  |some z=>
    clear 5 z o2 t2;rw[e1] at eq
    cases eq
    refine⟨Oo,c,_,fi.set rv,o1,t2,e1,λσ' H' c2 f2 s2=>?_⟩;have:=k _ H' c2 (f2.unset i) s2
    cases o1<;>exact this
 .rw[lE hb'] at eq⊢;exact⟨Oo,c,t,n,ds,fi,hn,rfl,rv,o1,t',eq,k⟩
theorem U4{n':Str}{C':ig}{bm':List ie}{b₀:Stmt}{suite:List Stmt}{rest:List ExceptHandler}{s:M Out}{r:D->M Out}(x:XM X.K X.mg P ca)(hg:Gl X n')(hm:X.mg n'=some (.ref C'))(c':XCl X.K C' bm')(hs:∀n∈BL,(Value.ref (ca n)::.ref P::VE).contains (.ref C')=FF n n')
 (hb:∀x,PSs (X.mark x) (b₀::suite) (RSg X.K μ s)) (hr:PH qx X rest (RH X.K ca μ r)) (hdb:(n'==("__debug__":Str))=false:=by decide) :
 PH qx X (.ExceptHandler (some (.Name n' p)) none (b₀::suite) pos::rest) (RH X.K ca μ (hNo n' s r)):=by
 intro ic s0 σ H y C dx T D I o q;refine bG hg hm c' hb hr hdb ic s0 σ H y C dx T D I o ?_;clear 5 q Oo c t n ds fi hn rfl rv o1 t' eq k;refine⟨_,x.cl n hn,?_⟩;rw[hs n hn];unfold hNo at eq;dsimp only at eq
 by_cases hb':FF n n'=true
 .rw [lD hb'] at eq ⊢;exact ⟨Oo,c,t,fi,o1,t',eq,λσ' H' c2 f2 s2=>by
   have:=k _ H' c2 f2 s2
   cases o1<;>exact this⟩
 .rw[lE hb'] at eq⊢;exact⟨Oo,c,t,n,ds,fi,hn,rfl,rv,o1,t',eq,k⟩
noncomputable def FG(b:M Out)(h:D->M Out):M Out:=λt=>match b t with
 |some (.ret (.exc n ds),t1)=>if n∈BL then h (.exc n ds) t1 else none
 |z=>z
set_option tactic.hygienic true in
theorem YE{body:List Stmt}{h₀:ExceptHandler}{hs:List ExceptHandler}{b:M Out}{h:D->M Out}(x:XM X.K X.mg P ca)(hμ:∀c H r rt,Bu r=false->(∀v,Rep X.K c H v r->rt v H)=μ c H r rt)(h1:X.stack=X.env::X.outer)(h2:X.env.frame=some X.env.locals)
 (hb:∀(pn:List (ig×Obj)) (E:L2.St->XK),DM (CX1 qx X.prog X.w) {X with pn:=pn,xe:=XE qx {X with pn:=pn} E} E->PSs {X with pn:=pn,xe:=XE qx {X with pn:=pn} E} body (RSX X.K E b)) (hh:PH qx X (h₀::hs) (RH X.K ca μ h)):PS X (.Try body (h₀::hs) [] [] pos) (RSg X.K μ (FG b h)):=
 Br (ZG h1 h2 (λpn E=>hb pn E (XE.pass (X:={X with pn:=pn}))) hh) λD σ H z9=>by
  clear 5 z9 Oo c t fi o t' eq k;unfold FG at eq
  cases e1:b t with
  |none=>rw[e1] at eq;cases eq
  |some z=>
    clear 5 z o1 t1;rw[e1] at eq;refine⟨Oo,c,t,fi,o1,t1,e1,λσ1 H1 c1 f1 s1=>?_⟩
    cases o1 with
    |next=>cases eq;exact k σ1 H1 c1 f1 s1
    |brk=>cases eq;exact k σ1 H1 c1 f1 s1
    |cont=>cases eq;exact k σ1 H1 c1 f1 s1
    |ret r=>
      intro v rv
      cases hx:Bu r with
      |false=>
        rw[lE (by decide)];have eq':some (Out.ret r,t1)=some (o,t'):=by cases r<;>first|exact eq|cases hx
        cases eq'
        have q:=k σ1 H1 c1 f1 s1;have q:μ c1 H1 r D.rt:=q;rw[<-hμ _ _ _ _ hx] at q;exact q v rv
      |true=>
        rw[lD rfl];intro y dx hv y' C hy' hC hex
        cases rv with
        |@exc q0 x0 C0 dx0 n vs ds g hx0 hA fl rs=>
          cases hv
          cases hy'
          dsimp only at eq
          split at eq
          .next hn=>
           rw[hx0] at hC;injection hC with hC;injection hC with hC
           clear 5(XJ hC.symm hex)e2 e3;have:=x.of hn g;exact⟨Oo,c1,t1,n,ds,f1,hn,e2.trans this,.exc g hx0 hA fl rs,o,t',eq,λσ' H' c' f' s'=>k σ' H' c' f' (s1.trans s')⟩
          .cases eq
        |_=>cases hx
end
end
section
variable{qx:Bool}
def gD(n:Str):D->M D
 |.exc m _=>if m∈BL then ret (.bl (FF m n)) else fail
 |.non=>ret (.bl false)
 |.bl _=>ret (.bl false)
 |.int _=>ret (.bl false)
 |.str _=>ret (.bl false)
 |.lst _=>ret (.bl false)
 |.tup _=>ret (.bl false)
 |.dic=>ret (.bl false)
 |_=>fail
section
variable{X:Cx}{P:ig}{ca:Str->ig}{a:Expr}{f:M D}{p pos q:Pos}
def K5(nm:Str):D->M D
 | .exc n ds=>if n∈BL then (match ((JM n).zip ds).lookup nm with
   |some d=>ret d
   |none=>fail) else fail
 |_=>fail
theorem JB{K:ib}{c:Cf}{H:Hp}{nm:Str}{d:D}:∀{ns:List Str}{vs:List V}{ds:List D},Reps K c H vs ds->(ns.zip ds).lookup nm=some d->∃v,(ns.zip vs).lookup nm=some v/\Rep K c H v d
 |[],_,_,_,e=>by cases e
 |_::_,_,_,.nil,e=>by cases e
 |n::ns,_,_,.cons (v:=v0) (d:=d0) r rs,e=>by
   by_cases h:nm=n
   .subst h;simp only[ue9,List.lookup,uh9,ug0] at e⊢;subst e;exact⟨v0,rfl,r⟩
   .have hb:(nm==n)=false:=kl.mpr h;simp only[ue9,List.lookup,hb] at e⊢;exact JB rs e
set_option tactic.hygienic true in
theorem Ym{nm:Str}(x:XM X.K X.mg P ca)(hno:∀n∈BL,findIn X.K (.ref (ca n)) nm=some none)(ha:PE X a (RE X.K f))(hb:attributeBase a nm X.env (eval a X.env)=eval a X.env):PE X (.Attribute a nm pos) (RE X.K (bnd f (K5 nm))):=by
 intro ic s σ H Q I h;clear 5 h Oo c0 t fi r t' eq k;clear 5(Ai eq)d t1 e1 eq;refine Oj hb (thn (ha ic s σ H (λv H1=>∃c1,FInv X.K Oo c1 t1 σ H1/\Stp Oo c0 H c1 H1/\Rep X.K c1 H1 v d) I ⟨Oo,c0,t,fi,d,t1,e1,λv H1 c1 f1 s1 rv=>⟨c1,f1,s1,rv⟩⟩) λu s1 z9=>?_);clear 5 z9 v H1 I1 rx c1 f1 st1 rv
 cases rv with
 |@exc q0 x0 C0 dx0 m vs ds g hx0 hA fl rs=>
   cases (show u=Value.ref x0 from rx)
   unfold K5 at eq;dsimp only at eq
   split at eq
   .next hm=>
    have hc:=x.of hm g;subst hc
    cases el:((JM m).zip ds).lookup nm with
    |none=>rw[el] at eq;cases eq
    |some d'=>
      rw[el] at eq
      cases eq
      clear 5(JB rs el)v' l1 r1
      cases dx0 with
      |none=>
        have fl:vs=[]:=fl;subst fl;simp at l1
      |some dd=>
        have hdd:H1 dd=some (.xd ((JM m).zip vs)):=fl.1;obtain⟨o,vs0,q1,q2,q3,q4,_⟩:=(I1.hok x0 _ hx0).1;have nc:notCls o=true:=by unfold notCls;rw[q4]
        obtain⟨mA,nA,rA⟩:=(show ObjOk X.prog X.w H1 s1.heap dd (.xd ((JM m).zip vs)) from I1.hok dd _ hdd);clear 5(L9 nA)od ho hl;clear 5(RelO.some_of (v:=v') (o:=mA nm) (by rw[<-l1];exact rA nm))u' hu ru;have IA:InstAt s1.heap x0 o (ca m) (some od):=⟨q1,q2,nc,by rw[q3];exact ho⟩;unfold getAttr;refine um9 (wpAny_mkText ?_);refine QS (s:={s1 with toks:=s1.toks+1}) I1.kIn IA (x.gt m hm) (Ty I1.kIn IA (x.gt m hm) (findObj_own (x.gt m hm).hd (hno m hm) rfl (by rw[hl,hu])) ?_);exact handed_on (L3 ru) ⟨v',H1,I1.tok _,ru,k v' H1 c1 f1 st1 r1⟩
   .cases eq
 |_=>cases eq
end
end
section
variable{qx:Bool}
def Qx(K:ib)(P c:ig):Bool:=MC K c (.ref P::VE)&&keepIn K (.ref c)&&findIn K (.ref c) "__getattribute__" == some (some (.builtin "BaseException.__getattribute__"))&&findIn K (.ref c) "__getattr__" == some none&&mroIn K c (.type "BaseException")==some true
 && mroIn K c (.type "object")==some true&&hasDictIn K c&&findIn K (.ref c) "__class__" == some (some (.builtin "object.__class__"))&&findIn K (.ref c) "at" == some none&&findIn K (.ref c) "side" == some none
structure XOne(K:ib)(P c:ig):Prop where
 cl:XCl K c (.ref P::VE)
 kp:keepIn K (.ref c)=true
 gt:XGet K c
 gc:findIn K (.ref c) "__class__" = some (some (.builtin "object.__class__"))
 na:findIn K (.ref c) "at" = some none
 nd:findIn K (.ref c) "side" = some none
variable{K:ib}{P:ig}
theorem Jr{c:ig}(h:Qx K P c=true):XOne K P c:=by
 unfold Qx at h;simp only[ug9,lm] at h;obtain⟨⟨⟨⟨⟨⟨⟨⟨⟨h1,h2⟩,h3⟩,h4⟩,h5⟩,h6⟩,h7⟩,h8⟩,h9⟩,h10⟩:=h;exact⟨.of_in h1,h2,⟨h3,h4,h5,h6,h7⟩,h8,h9,h10⟩
noncomputable def JJ(c1 c2 c3 c4:ig):Str->ig:=λn=>if n = "Short" then c1 else if n = "Broken" then c2 else if n = "NoTalk" then c3 else c4
theorem Df{Q:Str->Prop}(h1:Q "Short")(h2:Q "Broken")(h3:Q "NoTalk")(h4:Q "NoRow"):∀n∈BL,Q n:=by
 intro n hn;simp only[BL,uk3,uh6,lw] at hn;rcases hn with rfl|rfl|rfl|rfl<;>assumption
def Qw(K:ib)(P:ig)(cs:List ig):Bool:=MC K P VE&&cs.all (Qx K P)
theorem de{h:Heap}{mg:Str->Option ie}{c1 c2 c3 c4:ig}(X:K.In h)(G:h.Ns mainGlobals mg)(p:nsIn K mainGlobals "ParleyError" = some (some (.ref P)))(a1:nsIn K mainGlobals "Short" = some (some (.ref c1)))(a2:nsIn K mainGlobals "Broken" = some (some (.ref c2)))(a3:nsIn K mainGlobals "NoTalk" = some (some (.ref c3)))(a4:nsIn K mainGlobals "NoRow" = some (some (.ref c4)))(q:Qw K P [c1,c2,c3,c4]=true)(nd:[P,c1,c2,c3,c4].Nodup):XM K mg P (JJ c1 c2 c3 c4):=by
 unfold Qw at q;simp only[uk6,List.all_nil,uk9,ug9] at q;clear 5 q q0 q1 q2 q3 q4;have o1:=Jr q1;have o2:=Jr q2;have o3:=Jr q3;have o4:=Jr q4;have inj:∀n∈BL,∀m∈BL,JJ c1 c2 c3 c4 n=JJ c1 c2 c3 c4 m->n=m:=by
  simp only[ui5,uk3,uh6,lw,lF,List.nodup_nil,and_true] at nd;obtain⟨⟨n1,n2,n3,n4⟩,⟨m12,m13,m14⟩,⟨m23,m24⟩,m34,_⟩:=nd;have h1:JJ c1 c2 c3 c4 "Short" = c1:=rfl;have h2:JJ c1 c2 c3 c4 "Broken" = c2:=rfl;have h3:JJ c1 c2 c3 c4 "NoTalk" = c3:=rfl;have h4:JJ c1 c2 c3 c4 "NoRow" = c4:=rfl;refine Df ?_ ?_ ?_ ?_<;>refine Df ?_ ?_ ?_ ?_<;>intro e<;>first|rfl|(exfalso;rw[h1] at e)|(exfalso;rw[h2] at e)|(exfalso;rw[h3] at e)|(exfalso;rw[h4] at e)
  all_goals (first|rw[h1] at e|rw[h2] at e|rw[h3] at e|rw[h4] at e)
  all_goals (first|contradiction|(have e:=e.symm;contradiction))
 refine⟨mg_of X G p,.of_in q0,Df a1 a2 a3 a4,Df (mg_of X G a1) (mg_of X G a2) (mg_of X G a3) (mg_of X G a4),Df o1.cl o2.cl o3.cl o4.cl,inj,?_,
  Df o1.kp o2.kp o3.kp o4.kp,Df o1.gt o2.gt o3.gt o4.gt,Df o1.gc o2.gc o3.gc o4.gc,Df o1.na o2.na o3.na o4.na,Df o1.nd o2.nd o3.nd o4.nd⟩
 simp only[ui5,uk3,uh6,lw,lF] at nd;obtain⟨⟨n1,n2,n3,n4⟩,_⟩:=nd;exact Df (Ne.symm n1) (Ne.symm n2) (Ne.symm n3) (Ne.symm n4)
noncomputable def Bg(s:Stmt)(k:Nat):Stmt:=match s with
 |.ClassDef _ _ _ body _ _ _ _ _ _ _=>body.getD k (.Pass ⟨0,0,0,0⟩)
 |_=>.Pass ⟨0,0,0,0⟩
noncomputable def Nk(K:ib)(C f:ig):Bool:=match clsIn K C with
 |some cd=>nsIn K cd.ns "__init__" == some (some (.ref f))
 |none=>false
def XF1(K:ib)(C P:ig)(qual:Str)(st:Stmt):Prop:=∃(f:ig) (fd:iu),XMk K C P f/\XAt K C P "at"/\Binds K fd ["self", "at"] []/\Fun K "__init__" qual st f fd
variable{C:ig}
set_option tactic.hygienic true in
theorem aT{f:ig}{qual:Str}{st:Stmt}{od an:Option ig}{sl:Array (Option ie)}{oc kV dc pm cd ct:ie}(o:XOne K P C)(i:Nk K C f=true)(hf:isFn K (.ref f)=true)(hs:findIn K (.ref C) "__setattr__" = some (some (.builtin "object.__setattr__")))
 (l:K.lookup f=some ⟨oc,od,.func (PySem.W.fnOf "__init__" qual (EN st) (B6 st) (AD st) .none kV dc pm an cd ct),sl⟩) (c:codeIn K cd qual=true) (k:keepIn K (.ref f)=true)
 (hb:∀(kV doc pm:ie) (an:Option ig) (cdv ct:ie) (us:List ie),us.length=2->bindArgs (PySem.W.fnOf "__init__" qual (EN st) (B6 st) (AD st) .none kV doc pm an cdv ct) ⟨us,[]⟩=pure ((["self", "at"]:List Str).zip us)):XF1 K C P qual st:=by
 refine⟨f,_,⟨o.cl,?_,hf,o.kp⟩,⟨o.cl,hs,o.na⟩,(Hc (st:=st) l c k).binds (ps:=["self", "at"]) hb,Hc (st:=st) l c k⟩;unfold Nk at i
 split at i
 .next cd' e=>exact⟨cd',e,lm.mp i⟩
 .cases i
theorem TJ{prog:im}{w:ir}{mg:Str->Option ie}{base:Heap}{qual:Str}{st:Stmt}{p1 p2 p3 p4:Pos}(hbd:B6 st=[.Assign [.Attribute (.Name "self" p1) "at" p2] (.Name "at" p3) p4])(S:FnScope ["self", "at"] ["self", "at"] (AD st))
 (s1:(AD st).names.lookup ("self":Str)=some NameKind.local) (s2:(AD st).names.lookup ("at":Str)=some NameKind.local) (x:XF1 K C P qual st):XN1 prog w K mg base C P:=by
 clear 5 x f fd M A B F;refine⟨f,fd,_,M,A,B,F.ok (k:=0) S (λvs H Q E h=>?_) λcdv A' outer s H vs Q E hr h=>?_⟩
 .obtain⟨y,C',tp,v,rfl,_⟩:=h;rfl
 .rw[hbd];refine⟨_,Lv (bK (P:=P) (Hf (i:=0) rfl (.inl s1) (by decide) (by decide)) (Hf (i:=1) rfl (.inl s2) (by decide) (by decide)) rfl),?_⟩;clear 5 h y C' tp v rfl hy ha k;exact⟨v,rfl,.ref y,rfl,y,C',tp,rfl,hy,ha,λdx h1 h2=>k dx h1 h2⟩
noncomputable def KD(K:ib)(C:ig):Bool:=match clsIn K C with
 |some cd=>nsIn K cd.ns "__init__" == some none
 |none=>false
set_option tactic.hygienic true in
theorem SO(h:KD K C=true):XN0 K C:=by
 unfold KD at h
 split at h
 .next cd e=>exact⟨cd,e,lm.mp h⟩
 .cases h
end
inductive Kd where
 |pl|fr|ex|er
abbrev okK(k:Kd)(P:im)(w:ir)(K:ib)(mg:Str->Option ie)(base:Heap)(n:Nat)(fa:ig)(fd:iu)(ps:List Str)(f:Fn):Prop:=match k with
 |.pl=>FnOk P w K mg base CX0 n fa fd ps (spF K f)
 |.fr=>FnOk P w K mg base CX0 n fa fd ps (spFF K f)
 |.ex=>FnOk P w K mg base (CX1 true P w) n fa fd ps (spX K f)
 |.er=>FnOk P w K mg base (CX1 false P w) n fa fd ps (spX K f)
section
variable{X:Cx}{e a b:Expr}{pos:Pos}{f g:M D}
theorem OC{E:XK}(h:PE X e (RE X.K f)):PS X (.Return (some e) pos) (RSg X.K (μX X.K E) (An (nxD f))):=
 Br (IM h) λD σ H z9=>by
  clear 5 z9 Oo c t fi o t' eq k;clear 5(Ai eq)d t1 e1 eq
  cases eq
  clear 5(NB e1)e2 e3;exact⟨Oo,c,t,fi,d,_,e2,λv H1 c1 f1 s1 rv=>Re e3 (k σ H1 c1 f1 s1 v rv)⟩
end
theorem Y2{K:ib}:∀(c:Cf) (H:Hp) (r:D) (rt:V->Hp->Prop),Bu r=false->(∀v,Rep K c H v r->rt v H)=μR K c H r rt:=λ_ _ _ _ _=>rfl
section
variable{qx:Bool}
section
variable{X:Cx}{P:ig}{ca:Str->ig}{a:Expr}{es:List Expr}{f:M D}{p pos q:Pos}{i:Nat}{ns:List Str}
end
end
section
variable{qx:Bool}
section
variable{prog:im}{w:ir}{A:Around}{s:ij}{K:ib}{x C P dx:ig}{ox:Obj}{od:Option Obj}{R:Result->ij->Prop}{name:Str}{v:ie}{tk:Tok}{cd:ClassData}
end
section
variable{X:Cx}{k:Nat}{f C P:ig}{fd:iu}{ic:List (ig×Obj)}{σ:St}{H:Hp}{s:ij}{Q:ie->ij->Prop}{us:List ie}{vs:List V}{a b:Str}{ps:List Str}{v v2:V}{u u2:ie}
end
section
variable{X:Cx}{k:Nat}{f C P:ig}{fd:iu}{a b:Str}{ps:List Str}{n:Str}{p pos:Pos}{e e':Expr}
end
end
section
variable{qx:Bool}
section
variable{X:Cx}{e e':Expr}{pos p pos2:Pos}{E:L2.St->XK}{P:ig}{ca:Str->ig}
def gf(n:Str)(f:M (List D)):M Out:=bnd f λds=>match ds with
 |[d,d']=>ret (.ret (.exc n [d,d']))
 |_=>fail
end
end
section
variable{X:Cx}{a b:Expr}{pos:Pos}
end
section
variable{prog:im}{w:ir}{A:Around}{E:ie->ij->Prop}{env:Env}{K:ib}{C:ig}{bm:List ie}{s:ij}
end
section
variable{X:Cx}{ic:List (ig×Obj)}{σ:St}{H:Hp}{s s':ij}{qx:Bool}{x C:ig}{dx T:Option ig}{fl:ie}
end
section
variable{X:Cx}{n v:Str}{C' C2:ig}{bm' bm2:List ie}{p pos p2:Pos}{e cN:Expr}{rest:List ExceptHandler}{t:St->Hp->(ig->Option ig->Hp->Prop)->Prop}{tr:ig->ig->Option ig->TS}{i:Nat}{E:St->XK}
end
structure FnOkH(P:im)(w:ir)(K:ib)(mg:Str->Option ie)(base:Heap)(CX:CXT)(k:Nat)(f:ig)(fd:iu)(ps:List Str)(sp:Sp):Prop where
 len:∀vs H Q E,sp vs H Q E->vs.length=ps.length
 run:∀(z:ig) (A:Around) (outer:List Env) (s:ij) (H:Hp) (args:Args) (us:List ie) (vs:List V) (Q:VK) (E:XK),Room k A->Env0 P w K mg base A outer s H->BindsTo s fd args (ps.zip us)->Vals vs us->sp vs H Q E->
  codeAny (model P w) (A.mark (some (.ref z))) (.call (.ref f) args) (CR CX outer P w H s Q E) s
section
variable{qx:Bool}{X:Cx}{k:Nat}{f C P:ig}{fd:iu}{ic:List (ig×Obj)}{σ:St}{H:Hp}{s:ij}{Q:ie->ij->Prop}{us:List ie}{vs:List V}{a b:Str}{ps:List Str}{v v2:V}{u u2:ie}{n:Str}{p pos:Pos}{e e':Expr}
end
section
variable{X:Cx}{pos p p2 p3 p4:Pos}{P:ig}{ca:Str->ig}{E:XK}{e e' cN:Expr}
end
section
variable{prog:im}{w:ir}{A:Around}{E:ie->ij->Prop}{s:ij}
variable{I:ig}{fp wr:List ig}{G:Array GenState->Array GenState->Prop}{n:Nat}{P:Nat->ie->Prop}{St:Nat->ij->Prop}
def fV(prog:im)(w:ir)(h:Heap)(no:List ig)(k:Key)(x v:ie):Prop:=∃(p:ig) (o:Obj) (kv:ie) (q:Nat),v=.ref p/\p∉no/\h.get? p=some o/\o.cls=.type "tuple"/\o.data=.seq #[kv,x] q/\(BY prog w).is k kv=true
end
section
variable{X:Cx}
end
section
variable{X:Cx}{pos:Pos}{e:Expr}
end
def ZP(neg:Bool):R2:=λx y H Q=>∃a kvs k,x=.str k/\y=.ref a/\H a=some (.dK kvs)/\Q (.bl (if neg then !(DU kvs (Sum.inr k:Key)).isSome else(DU kvs (Sum.inr k:Key)).isSome)) H
section
variable{X:Cx}
theorem Zi(hu:X.A.units+64<cLine):OpR X (compareOp .In) (ZP false):=by
 intro ic s σ H x y v u Q I rx ry h;clear 5 h a kvs k rfl rfl e q
 cases ry
 exact dE (by lia) I (DGet.k (k:=(Sum.inr k:Key)) e) rx λs' I'=>⟨.bl _,H,I',rfl,q⟩
theorem Ps:Dc X (.type "dict") (λxs H Q=>∃(p:ig) (kvs:List (Key×V)),xs=[.ref p]/\H p=some (.dK kvs)/\∀l,H l=none->Q (.ref l) (upd H l (.dK kvs))):=by
 intro ic s σ H xs us0 Q I r h;clear 5 h p kvs rfl e q;clear 5(GQ r)u rfl rx
 cases rx
 clear 5(IX I.hok e)hz hp vs rel dd;refine kt_call_dict hp dd (by rw[<-rel.length];exact hz) λh' hD sb=>?_;have nm:(s.heap.objs.size==sysModules)=false:=by
  have:=I.big;rw[kl];exact ul8 this
 have hk:∀b o,s.heap.get? b=some o->h'.get? b=some o:=λb o eb=>by
  rw[sb.2 b (ul6 (ul5 eb))];exact ub9 _ eb
 exact⟨.ref s.heap.objs.size,_,I.laid (t':=s.toks) hk (um5 _) (M7 hz nm rel hD),rfl,q _ (I.hok.fresh (um5 _))⟩
end
def inS(neg:Bool):D->D->M D
 |.str k,.obj n=>λt=>match t.S[n]? with
   |some (.dct kvs)=>some (.bl (if neg then !(Be kvs (.inr k)).isSome else(Be kvs (.inr k)).isSome),t)
   |_=>none
 |_,_=>fail
def IW:List D->M D
 |[.obj n]=>λt=>match t.S[n]? with
   |some (.dct kvs)=>some (.obj t.S.length,{t with S:=t.S++[.dct kvs]})
   |_=>none
 |_=>fail
section
variable{K:ib}
set_option tactic.hygienic true in
theorem Xa{neg:Bool}:BE K (ZP neg) (inS neg):=λ{Oo c t σ H x y dx dy r t' Q} f rx ry eq k=>by
 unfold inS at eq
 split at eq
 .next z n=>
  cases rx
  cases ry with
  |@obj a kk hk=>
    split at eq
    .next kvs es=>
     cases eq
     clear 5(f.s.obs _ a _ hk es)us g1 g2;refine⟨a,us,z,rfl,rfl,g1,?_⟩;rw[g2.has];exact k _ H c f .refl (.bl _)
    .cases eq
 .cases eq
end
section
variable{X:Cx}{pos:Pos}{e:Expr}
set_option tactic.hygienic true in
theorem Tk{f:M (List D)}{p:Pos}(hg:Gl X "dict")(hm:X.mg "dict" = none)(ha:PA X [e] (RA X.K f))(h1:Bn e=false:=by rfl) :
 PE X (.Call (.Name "dict" p) [e] [] pos) (RE X.K (fB f IW)):=
 AM (IK Ps hg hm (by decide +kernel) ha (by decide) (by decide) (Bp h1) rfl) λσ H Q z9=>by
  clear 5 z9 Oo c t fi r t' eq k;clear 5(Ai eq)as t1 e1 eq;unfold IW at eq
  split at eq
  .next n=>
   split at eq
   .next kvs es=>
    cases eq
    refine⟨Oo,c,t,fi,_,_,e1,λvs H1 c1 f1 s1 rv=>?_⟩;clear 5(Fi rv)v rfl rw1
    cases rw1 with
    |@obj a kk hk=>
    clear 5(f1.s.obs _ a _ hk es)us g1 g2;refine⟨a,us,rfl,g1,λl hnl=>?_⟩;obtain⟨c2,f2,s2,eo⟩:=f1.newObj (o:=.dct kvs) (u:=.dK us) hnl λc' H' ex hu=>⟨_,hu,g2.mono ex⟩;exact k _ _ c2 f2 (s1.trans s2) (.obj eo)
   .cases eq
  .cases eq
end
def Vc(K:ib)(b:Bool):R2:=λx y H Q=>∃p q us ts,x=.ref p/\y=.ref q/\H p=some (.dK us)/\H q=some (.dK ts)/\us.length=ts.length/\(∀kv∈us,∃z,DU ts kv.1=some z/\Ib K H kv.2 z)/\Q (.bl b) H
section
variable{K:ib}
theorem VB{P:im}{w:ir}{H:Hp}{s:ij}{A:Around}(hok:HOk P w H s.heap){ts:List (Key×V)}{ws:List (Key×ie)}(rel2:KV ts ws)(hu:A.units+60<cLine):∀{us:List (Key×V)}{vs:List (Key×ie)},KV us vs->(∀kv∈us,∃z,DU ts kv.1=some z/\Ib K H kv.2 z)->PySem.W.KeqHits A s ws vs true:=λ{us vs} rel hh=>by
 unfold KV at rel
 induction rel with
 |nil=>exact .nil
 |@cons p q ps qs h1 _ ih=>
   clear 5(hh p ue2)z ez c dz dz' r1 r2 e;clear 5 q k v;clear 5(RelO.some_of (v:=z) (o:=valueAt ws p.1) (by rw[<-ez];exact rel2.val _))u' hu' ru';have:=PySem.W.KeqHits.hit (k:=k) (v:=v) (y:=u') (e:=true) (b:=true) (by rw[show k=p.1 from h1.1.symm];exact hu') (Lg hok EQD h1.2 ru' r1 r2 e (by unfold EQD;lia)).2 (ih λkv m=>hh kv (ud1 _ m));exact this
section
variable{X:Cx}
theorem Wx(hu:X.A.units+64<cLine):OpR X (compareOp .Eq) (Vc X.K true):=by
 intro ic s σ H x y v u Q I rx ry h;clear 5 h p q us ts rfl rfl h1 h2 hl hh k
 cases rx;cases ry
 obtain⟨_,lo1,vs,rel1,d1⟩:=IX I.hok h1;obtain⟨_,lo2,ws,rel2,d2⟩:=IX I.hok h2;have hlen:vs.length=ws.length:=by rw[<-rel1.length,<-rel2.length];exact hl
 refine PySem.W.keq_eq (knd:=BY X.prog X.w) lo1 lo2 d1 d2 (by lia) (λ_=>VB (A:=X.A.in1) I.hok rel2 (by rw[show X.A.in1.units=X.A.units+1 from rfl];lia) rel1 hh) ?_;rw[hlen,uh9];exact⟨.bl true,H,I,rfl,k⟩
end
def Lh(b:Bool)(x y:D):M D:=match x,y with
 |.obj m,.obj n=>λt=>match t.S[m]?,t.S[n]? with
   |some (.dct kvs),some (.dct lvs)=>if kvs.length=lvs.length/\kvs.all (λkv=>match Be lvs kv.1 with|some e=>alike1 t.S kv.2 e|none=>false)=true then some (.bl b,t) else none
   |_,_=>none
 |_,_=>fail
set_option tactic.hygienic true in
theorem Uw{b:Bool}:BE K (Vc K b) (Lh b):=λ{Oo c t σ H x y dx dy r t' Q} f rx ry eq k=>by
 unfold Lh at eq
 split at eq
 .next m n=>
  split at eq
  .next kvs lvs e1 e2=>
   split at eq
   .next hp=>
    cases eq
    cases rx with
    |@obj a _ ha=>
    cases ry with
    |@obj b' _ hb=>
    clear 5(f.s.obs _ a _ ha e1)us g1 g2;clear 5(f.s.obs _ b' _ hb e2)ts g3 g4;refine⟨a,b',us,ts,rfl,rfl,g1,g3,by rw[g2.length,g4.length];exact hp.1,λkv m=>?_,k _ H c f .refl (.bl b)⟩;clear 5(g2.allK kv m)q q1 q2 q3;have hq:=uh4.mp hp.2 q q1
    split at hq
    .next e ee=>
     clear 5(g4.get _ ee)z z1 z2;exact⟨z,by rw[q2];exact z1,alike1.to f.s q3 z2 hq⟩
    .cases hq
   .cases eq
  .cases eq
 .cases eq
def CM(K:ib):Prop:=∀n∈Lf,∀C,nsIn K mainGlobals n=some (some (.ref C))->Cls K C/\∀f∈atN,NoAttr K C f
noncomputable def Gz(f:Str)(v:D):List (Str×D)->List (Str×D)
 |[]=>[(f,v)]
 |(g,x)::r=>if g=f then(g,v)::r else(g,x)::Gz f v r
section
variable{K:ib}{c:Cf}{H:Hp}
theorem FldR.len:∀{us:List (Str×V)}{fs:List (Str×D)},FldR K c H us fs->us.length=fs.length
 |_,_,.nil=>rfl
 |_,_,.cons _ t=>by rw[ug5,ug5,FldR.len t]
theorem FldR.look{f:Str}{d:D}:∀{us:List (Str×V)}{fs:List (Str×D)},FldR K c H us fs->fs.lookup f=some d->∃v,us.lookup f=some v/\Rep K c H v d
 |_,_,.nil,e=>by cases e
 |(g,x)::us,(g',y)::fs,.cons ⟨h1,h2⟩ t,e=>by
   have h1:g=g':=h1;subst h1
   by_cases q:(f==g)=true
   .simp only[List.lookup,q] at e⊢
    cases e
    exact⟨_,rfl,h2⟩
   .have q:(f==g)=false:=by simpa using q
    simp only[List.lookup,q] at e⊢;exact FldR.look t e
theorem FldR.none{f:Str}:∀{us:List (Str×V)}{fs:List (Str×D)},FldR K c H us fs->(∀p∈fs,p.1≠f)->us.lookup f=none
 |_,_,.nil,_=>rfl
 |(g,x)::us,(g',y)::fs,.cons ⟨h1,h2⟩ t,e=>by
   have h1:g=g':=h1;subst h1;have q:(f==g)=false:=by
    have:=e (g,y) (.head _);simpa using λz:f=g=>this z.symm
   simp only[List.lookup,q];exact FldR.none t λp hp=>e p (.tail _ hp)
theorem FldR.put{f:Str}{v:V}{d:D}(r:Rep K c H v d):∀{us:List (Str×V)}{fs:List (Str×D)},FldR K c H us fs->FldR K c H (DA f v us) (Gz f d fs)
 |_,_,.nil=>.cons ⟨rfl,r⟩ .nil
 |(g,x)::us,(g',y)::fs,.cons ⟨h1,h2⟩ t=>by
   have h1:g=g':=h1;subst h1;show FldR K c H (if g=f then(g,v)::us else(g,x)::DA f v us) (if g=f then(g,d)::fs else(g,y)::Gz f d fs)
   by_cases q:g=f
   .rw[lD q,lD q];exact .cons ⟨rfl,r⟩ t
   .rw[lE q,lE q];exact .cons ⟨rfl,h2⟩ (FldR.put r t)
theorem FldR.mono{c':Cf}{H':Hp}(e:Ext c H c' H'){us:List (Str×V)}{fs:List (Str×D)}(h:FldR K c H us fs):FldR K c' H' us fs:=Paired.mapP h λ_ _ z=>⟨z.1,z.2.mono e⟩
theorem OT{f:Str}{v:D}(hf:f∈atN):∀{fs:List (Str×D)},(∀p∈fs,p.1∈atN)->∀p∈Gz f v fs,p.1∈atN
 |[],_=>λp hp=>by rw[show Gz f v []=[(f,v)] from rfl,ue8] at hp;subst hp;exact hf
 |(g,x)::r,h=>λp hp=>by
   rw[show Gz f v ((g,x)::r)=(if g=f then(g,v)::r else(g,x)::Gz f v r) from rfl] at hp
   split at hp
   .rcases uk3.mp hp with e|e
    .subst e;exact h (g,x) (.head _)
    .exact h p (.tail _ e)
   .rcases uk3.mp hp with e|e
    .subst e;exact h (g,x) (.head _)
    .exact OT hf (λp hp=>h p (.tail _ hp)) p e
end
noncomputable def Gk{α:Type}(d:D)(h:Nat->Str->List (Str×D)->M α):M α:=λt=>match d with
 |.obj k=>match t.S[k]? with
   |some (.ins n fs)=>h k n fs t
   |_=>none
 |_=>none
theorem Ix{α:Type}{d:D}{h:Nat->Str->List (Str×D)->M α}{t:T}{z:α×T}(e:Gk d h t=some z):∃k n fs,d=.obj k/\t.S[k]?=some (.ins n fs)/\h k n fs t=some z:=by
 cases d with
 |obj k=>
   rw[show Gk (.obj k) h t=(match t.S[k]? with|some (.ins n fs)=>h k n fs t|_=>none) from rfl] at e
   cases es:t.S[k]? with
   |none=>rw[es] at e;cases e
   |some o=>
     rw[es] at e
     cases o with
     |ins n fs=>exact⟨k,n,fs,rfl,es,e⟩
     |_=>cases e
 |_=>cases e
def Bq(f:Str)(a:M D):M D:=bnd a λd=>Gk d λ_ _ fs t=>(fs.lookup f).map λv=>(v,t)
def C3(f:Str)(gv ga:M D):M Out:=bnd gv λv=>bnd ga λd=>Gk d λk n fs t=>if fs.length<1000 then some (.next,{t with S:=t.S.set k (.ins n (Gz f v fs))}) else none
def Hv(n:Str)(g:Fn)(f:M (List D)):M D:=bnd f λds t=>match g (.obj t.S.length::ds) (t.S++[.ins n []]) with
 |some (.non,S')=>some (.obj t.S.length,{t with S:=S'})
 |_=>none
def AT(n:Str)(g:Fn)(o:M D)(f:M (List D)):M D:=bnd o λd=>Gk d λ_ n' _=>if n'=n then bnd f λds t=>match g (d::ds) t.S with
 |some (r,S')=>some (r,{t with S:=S'})
 |none=>none else fail
theorem Hh{c:Cf}{H:Hp}{v:V}{k:Nat}(h:Rep K c H v (.obj k)):∃a,v=.ref a/\c.ι[k]?=some a:=by
 cases h with
 |obj e=>exact⟨_,rfl,e⟩
end
section
variable{X:Cx}{CX:CXT}{k:Nat}{f C:ig}{fd:iu}{ps:List Str}{sp:Sp}{E:St->XK}{x m:Str}{p pos apos:Pos}{e o:Expr}{es:List Expr}{ta:TE}{t:TA}
theorem OW{ic:List (ig×Obj)}{σ:St}{H:Hp}{s:ij}{Q:VK}{us:List ie}{vs:List V}(F:FnOk X.prog X.w X.K X.mg X.base CX k f fd ps sp)(hr:Room k X.A)(hb:Binds X.K fd ps [])(hx:DM CX X E)
 (I:Inv X ic σ H s) (r:Vals vs us) (h:sp vs H Q (E σ)):wpAny (model X.prog X.w) X.A (call (.ref f) us) (EP X ic σ Q) X.xe s:=by
 have hl:(us++[]).length=ps.length:=by rw[ui4,<-r.length];exact F.len _ _ _ _ h
 refine ln (kZ (F.run X.A X.stack s H ⟨us,[]⟩ us vs Q (E σ) hr I.env0 (by have:=hb s us I.kIn hl;rwa [ui4] at this) r h) λr s' hq=>?_)
 cases r with
 |error e=>exact hx ic σ H s e s' I hq
 |ok fl=>
   cases fl with
   |ret u=>exact I.after hq
   |next=>exact False.elim hq
   |brk=>exact False.elim hq
   |cont=>exact False.elim hq
def ax(C:ig)(m:Str)(sp:Sp)(E:St->XK)(ta:TE)(t:TA):TE:=λσ H Q=>ta σ H λx H1=>∃a dx fs,x=.ref a/\H1 a=some (.ins C dx fs)/\fs.lookup m=none/\
 t σ H1 λvs H2=>sp (x::vs) H2 Q (E σ)
abbrev E5(X:Cx)(o:Expr)(m:Str)(es:List Expr)(apos pos:Pos)(pl:Sem Bool):Prop:=eval (.Call (.Attribute o m apos) es [] pos) X.env=(do
 let ov <-eval o X.env
 standAt apos.atName
 let (f,first) <-holding [ov] (getMethod ov m pl)
 callWith pos f first (backTo pos (starEach es X.env)) (backToKw pos (keywordEach [] X.env)))
theorem Ud{pl:Sem Bool}(he:PE X o ta)(c:Cls X.K C)(hm:Meth X.K C m f)(F:FnOk X.prog X.w X.K X.mg X.base CX k f fd ps sp)(hr:Room k X.A)(hb:Binds X.K fd ps [])(hx:DM CX X E)(ha:PA X (e::es) t)
 (hst:starEach (e::es) X.env=(false,eval e X.env)::starEach es X.env) (hpl:(backTo pos (starEach es X.env)).any (·.1)=false) (ht:E5 X o m (e::es) apos pos pl) :
 PE X (.Call (.Attribute o m apos) (e::es) [] pos) (ax C m sp E ta t):=by
 intro ic s σ H Q I h;refine uc7 (pl:=pl) (thn (he ic s σ H _ I h) λu s1 z9=>?_) ht;clear 5 z9 x H1 I1 rx a dx fs ex ea l q;subst ex;obtain rfl:u=Value.ref a:=rx;refine Hz I1 ea c hm l ?_;refine ue5 (first:=[.ref a]) (h₀:=X.base) I.ok.mod.kin hm.kp (thn (ha pos ic s1 σ H1 _ I1 q) λus s2 z9=>?_) hst hpl;clear 5 z9 vs H2 I2 r q2;refine⟨I2.kIn,?_⟩;exact OW (us:=.ref a::us) (vs:=.ref a::vs) F hr hb hx I2 (.cons rfl r) q2
structure ByCls(K:ib)(C:ig)(m:Str)(f:ig):Prop where
 ga:specialIn K (.ref C) "__getattribute__" = some (some (.builtin "type.__getattribute__"))
 rd:readsIn K C (.type "type")=true
 at_:(match findCls K (.ref C) (.type "type") m with|some (.val (.ref g))=>g==f|_=>false)=true
 kp:keepIn K (.ref f)=true
set_option tactic.hygienic true in
theorem ByCls.found{K:ib}{C f:ig}{m:Str}(b:ByCls K C m f):findCls K (.ref C) (.type "type") m=some (.val (.ref f)):=by
 have q:=b.at_
 split at q
 .next e=>rw[e];rw[lm.mp q]
 .cases q
theorem T6{pl:Sem Bool}(F:FnOk X.prog X.w X.K X.mg X.base CX k f fd ps sp)(hr:Room k X.A)(hg:Gl X x)(hm:X.mg x=some (.ref C))(bc:ByCls X.K C m f)(hb:Binds X.K fd ps [])(hx:DM CX X E)(ha:PA X (e::es) t)
 (hdb:(x==("__debug__":Str))=false) (hst:starEach (e::es) X.env=(false,eval e X.env)::starEach es X.env) (hpl:(backTo pos (starEach es X.env)).any (·.1)=false) (ht:E5 X (.Name x p) m (e::es) apos pos pl) :
 PE X (.Call (.Attribute (.Name x p) m apos) (e::es) [] pos) (Sy sp E t):=by
 intro ic s σ H Q I h;refine uc7 (pl:=pl) (En I hg hm ?_ hdb) ht;refine method_cls I.kIn bc.ga (cls_value I.kIn bc.rd bc.found rfl ?_);have I0:=I.tok (s.toks+1);refine ue5 (first:=[]) (h₀:=X.base) I.ok.mod.kin bc.kp (thn (ha pos ic _ σ H _ I0 h) λus s2 z9=>?_) hst hpl;clear 5 z9 vs H2 I2 r q2;refine⟨I2.kIn,?_⟩;exact OW (us:=us) (vs:=vs) F hr hb hx I2 r q2
end
section
variable{n:Str}{h:Fn}{pl:Sem Bool}
section
variable{X:Cx}{e o a value:Expr}{es:List Expr}{pos pos' apos p:Pos}{f:Str}{g gv ga:M D}{fl:M (List D)}{C:ig}
theorem Yn(cm:CM X.K)(hf:f∈atN)(he:PE X e (RE X.K g))(hb:attributeBase e f X.env (eval e X.env)=eval e X.env):PE X (.Attribute e f pos) (RE X.K (Bq f g)):=
 AM (Zt he hb) λσ H Q z9=>by
  clear 5 z9 Oo c t fi r t' eq kk;clear 5(Ai eq)d t1 e1 eq;clear 5(Ix eq)k n fs rfl es eq;clear 5(uc1.mp eq)y e2 e3
  cases e3
  refine⟨Oo,c,t,fi,.obj k,_,e1,λv H1 c1 f1 s1 rv=>?_⟩;clear 5(Hh rv)b rfl hk;obtain⟨⟨hn,hat⟩,C,dx,us,g1,g2,g3⟩:=f1.s.obs k b _ hk es;clear 5(g3.look e2)w l1 l2;exact⟨b,C,dx,us,w,rfl,g2,(cm n hn C g1).1,(cm n hn C g1).2 f hf,l1,kk w H1 c1 f1 s1 l2⟩
set_option tactic.hygienic true
theorem YC{μ:Cf->Hp->D->(V->Hp->Prop)->Prop}(cm:CM X.K)(hf:f∈atN)(ha:PE X o (RE X.K ga))(hv:PE X value (RE X.K gv))(hs:swapsWith value (some (.Attribute o f pos')) pos.line X.env=pure false:=by rfl) :
 PS X (.Assign [.Attribute o f pos'] value pos) (RSg X.K μ (C3 f gv ga)):=
 Br (ZF ha hv hs) λD σ H z9=>by
  clear 5 z9 Oo c t fi r t' eq kk;clear 5(Ai eq)d t1 e1 eq;clear 5(Ai eq)d2 t2 e2 eq;clear 5(Ix eq)k n fs rfl es eq
  split at eq
  .next hl=>
   cases eq
   refine⟨Oo,c,t,fi,d,t1,e1,λv H1 c1 f1 s1 rv=>⟨Oo,c1,t1,f1,.obj k,t2,e2,λx H2 c2 f2 s2 rx=>?_⟩⟩;clear 5(Hh rx)b rfl hk;obtain⟨⟨hn,hat⟩,C,dx,us,g1,g2,g3⟩:=f2.s.obs k b _ hk es;refine⟨b,C,dx,us,rfl,g2,(cm n hn C g1).1,(cm n hn C g1).2 f hf,by rw[g3.len];exact hl,?_⟩;obtain⟨f3,s3⟩:=f2.wrObj (o:=.ins n (Gz f d fs)) (u:=.ins C dx (DA f v us)) hk λc' H' ext hu=>⟨⟨hn,OT hf hat⟩,C,dx,_,g1,hu,(FldR.put (rv.mono s2.ext) g3).mono ext⟩;exact kk σ _ c2 f3 ((s1.trans s2).trans s3)
  .cases eq
theorem Ru{ds:List D}{t:T}{r:D}{t':T}(e:(match h (.obj t.S.length::ds) (t.S++[.ins n []]) with|some (.non,S')=>some (.obj t.S.length,{t with S:=S'})|_=>none:Option (D×T))=some (r,t')) :
 ∃S',h (.obj t.S.length::ds) (t.S++[.ins n []])=some (.non,S')/\r=.obj t.S.length/\t' = {t with S:=S'}:=by
 split at e
 .next S' q=>cases e;exact⟨S',q,rfl,rfl⟩
 .cases e
set_option tactic.hygienic false
theorem Ov{k:Nat}{fa:ig}{fd:iu}{ps:List Str}(hn:n∈Lf)(hC:nsIn X.K mainGlobals n=some (some (.ref C)))(M:Mk X.K C fa)(F:FnOk X.prog X.w X.K X.mg X.base CX0 k fa fd ps (spF X.K h))(hr:Room (k+1) X.A)(hg:Gl X n)(hm:X.mg n=some (.ref C))(hb:Binds X.K fd ps [])
 (ha:PA X (e::es) (RA X.K fl)) (hdb:(n==("__debug__":Str))=false:=by decide) (h1:Bn e=false:=by rfl) (h2:Bs es=true:=by rfl):PE X (.Call (.Name n p) (e::es) [] pos) (RE X.K (Hv n h fl)):=
 AM (WH M F hr hg hm hb .nil Ji ha hdb (Bp h1) (Bj h2).1) λσ H Q z9=>by
  clear 5 z9 Oo c t fi r t' eq kk;clear 5(Ai eq)ds t1 e1 eq;clear 5(Ru eq)S' e2 rfl rfl;refine⟨Oo,c,t,fi,ds,t1,e1,λvs H1 c1 f1 s1 rvs x dx hx hdx ne=>?_⟩;rw[ui4];have f2:=f1.laid (p:=dx) (o:=.own x) hdx;have s2:=f1.stp_laid (p:=dx) (o:=.own x) hdx;have hx2:upd H1 dx (.own x) x=none:=by rw[Ap (Ne.symm ne)];exact hx
  obtain⟨c3,f3,s3,e3⟩:=f2.newObj (o:=.ins n []) (u:=.ins C dx []) hx2 λc' H' ext hu=>⟨⟨hn,λp hp=>by cases hp⟩,C,dx,[],hC,hu,.nil⟩;refine⟨c3,.obj t1.S.length::ds,_,f3.s,.cons (.obj e3) ((rvs.mono s2.ext).mono s3.ext),.non,S',e2,λv H' c' si st ho rv=>?_⟩;clear 5(f3.after si st ho)f4 s4
  cases rv
  exact⟨rfl,kk _ H' c' f4 ((s1.trans s2).trans (s3.trans s4)) (.obj (st.ext.io _ _ e3))⟩
structure MAt(K:ib)(n m:Str)(C fa:ig):Prop where
 cl:n∈Lf
 at_:nsIn K mainGlobals n=some (some (.ref C))
 me:Meth K C m fa
 na:m∉atN
theorem IE{d:D}{t:T}{r:D}{t':T}(e:Gk d (λ_ n' _=>if n'=n then bnd fl λds t=>match h (d::ds) t.S with|some (r,S')=>some (r,{t with S:=S'})|none=>none else fail) t=some (r,t')) :
 ∃k fs ds t1 S',d=.obj k/\t.S[k]?=some (.ins n fs)/\fl t=some (ds,t1)/\h (d::ds) t1.S=some (r,S')/\t' = {t1 with S:=S'}:=by
 clear 5(Ix e)k n' fs rfl es q
 by_cases hn:n'=n
 .subst hn;rw[lD rfl] at q;clear 5(Ai q)ds t1 e1 q;clear 5(GM q)S' e2 rfl;exact⟨k,fs,ds,t1,S',rfl,es,e1,e2,rfl⟩
 .rw[lE hn] at q;cases q
section
variable{k:Nat}{fa:ig}{fd:iu}{ps:List Str}{h:Fn}{n m:Str}{qx:Bool}{E:L2.St->XK}
theorem FU(cm:CM X.K)(ma:MAt X.K n m C fa)(F:FnOk X.prog X.w X.K X.mg X.base CX0 k fa fd ps (spF X.K h))(hr:Room k X.A)(hb:Binds X.K fd ps [])(he:PE X o (RE X.K g))(ha:PA X (e::es) (RA X.K fl))
 (h1:Bn e=false:=by rfl) (h2:Bs es=true:=by rfl) (ht:E5 X o m (e::es) apos pos pl:=by rfl):PE X (.Call (.Attribute o m apos) (e::es) [] pos) (RE X.K (AT n h g fl)):=
 AM (WI (pl:=pl) he (cm n ma.cl C ma.at_).1 ma.me F hr hb .nil Ji ha (Bp h1) (Bj h2).1 ht) λσ H Q z9=>by
  clear 5 z9 Oo c t fi r t' eq kk;clear 5(Ai eq)d t1 e1 eq;clear 5(IE eq)j fs ds t2 S' rfl es e2 e3 rfl;refine⟨Oo,c,t,fi,.obj j,t1,e1,λv H1 c1 f1 s1 rv=>?_⟩;clear 5(Hh rv)b rfl hk;obtain⟨⟨_,hat⟩,C',dx,us,g1,g2,g3⟩:=f1.s.obs j b _ hk es;rw[ma.at_] at g1
  cases g1
  refine⟨b,dx,us,rfl,g2,g3.none λp hp z=>ma.na (z ▸ hat p hp),Oo,c1,t1,f1,ds,t2,e2,λvs H2 c2 f2 s2 rvs=>?_⟩;show spF X.K h (V.ref b::(vs++[])) H2 Q E0;rw[ui4];refine⟨c2,.obj j::ds,t2.S,f2.s,.cons (.obj (s2.ext.io _ _ hk)) rvs,r,S',e3,λv H' c' si st ho rv=>?_⟩;clear 5(f2.after si st ho)f3 s3;exact kk v H' c' f3 ((s1.trans s2).trans s3) rv
theorem D6(cm:CM X.K)(ma:MAt X.K n m C fa)(F:FnOk X.prog X.w X.K X.mg X.base CX0 k fa fd ps (spF X.K h))(hr:Room k X.A)(hb:Binds X.K fd ps [])(he:PE X o (RE X.K g))(ht:E5 X o m [] apos pos pl:=by rfl) :
 PE X (.Call (.Attribute o m apos) [] [] pos) (RE X.K (AT n h g (ret []))):=
 AM (Uc (pl:=pl) he (cm n ma.cl C ma.at_).1 ma.me F hr hb .nil Ji ht) λσ H Q z9=>by
  clear 5 z9 Oo c t fi r t' eq kk;clear 5(Ai eq)d t1 e1 eq;clear 5(IE eq)j fs ds t2 S' rfl es e2 e3 rfl
  cases e2
  refine⟨Oo,c,t,fi,.obj j,t1,e1,λv H1 c1 f1 s1 rv=>?_⟩;clear 5(Hh rv)b rfl hk;obtain⟨⟨_,hat⟩,C',dx,us,g1,g2,g3⟩:=f1.s.obs j b _ hk es;rw[ma.at_] at g1
  cases g1
  refine⟨b,dx,us,rfl,g2,g3.none λp hp z=>ma.na (z ▸ hat p hp),?_⟩;refine⟨c1,[.obj j],t1.S,f1.s,.cons (.obj hk) .nil,r,S',e3,λv H' c' si st ho rv=>?_⟩;clear 5(f1.after si st ho)f3 s3;exact kk v H' c' f3 (s1.trans s3) rv
theorem Hd(cm:CM X.K)(ma:MAt X.K n m C fa)(F:FnOk X.prog X.w X.K X.mg X.base (CX1 qx X.prog X.w) k fa fd ps (spX X.K h))(hr:Room k X.A)(hb:Binds X.K fd ps [])(hx:DM (CX1 qx X.prog X.w) X E)(he:PE X o (RE X.K g))(ha:PA X (e::es) (RA X.K fl))
 (h1:Bn e=false:=by rfl) (h2:Bs es=true:=by rfl) (ht:E5 X o m (e::es) apos pos pl:=by rfl):PE X (.Call (.Attribute o m apos) (e::es) [] pos) (RX X.K E (AT n h g fl)):=
 AM (Ud (pl:=pl) he (cm n ma.cl C ma.at_).1 ma.me F hr hb hx ha (Bp h1) (Bj h2).1 ht) λσ H Q z9=>by
  clear 5 z9 Oo c t fi r t' eq kk;clear 5(Ai eq)d t1 e1 eq;clear 5(IE eq)j fs ds t2 S' rfl es e2 e3 rfl;refine⟨Oo,c,t,fi,.obj j,t1,e1,λv H1 c1 f1 s1 rv=>?_⟩;clear 5(Hh rv)b rfl hk;obtain⟨⟨_,hat⟩,C',dx,us,g1,g2,g3⟩:=f1.s.obs j b _ hk es;rw[ma.at_] at g1
  cases g1
  refine⟨b,dx,us,rfl,g2,g3.none λp hp z=>ma.na (z ▸ hat p hp),Oo,c1,t1,f1,ds,t2,e2,λvs H2 c2 f2 s2 rvs=>?_⟩;refine⟨c2,.obj j::ds,t2.S,f2.s,.cons (.obj (s2.ext.io _ _ hk)) rvs,r,S',e3,λv H' c' si st ho rv=>?_⟩;clear 5(f2.after si st ho)f3 s3;exact kk v H' c' f3 ((s1.trans s2).trans s3) rv
theorem Th{x:Str}(F:FnOk X.prog X.w X.K X.mg X.base CX0 k fa fd ps (spF X.K h))(hr:Room k X.A)(hg:Gl X x)(hm:X.mg x=some (.ref C))(bc:ByCls X.K C m fa)(hb:Binds X.K fd ps [])(ha:PA X (e::es) (RA X.K fl))
 (hdb:(x==("__debug__":Str))=false:=by decide) (h1:Bn e=false:=by rfl) (h2:Bs es=true:=by rfl) (ht:E5 X (.Name x p) m (e::es) apos pos pl:=by rfl):PE X (.Call (.Attribute (.Name x p) m apos) (e::es) [] pos) (RE X.K (Ak h fl)):=
 AM (T6 (pl:=pl) (E:=λ_=>E0) F hr hg hm bc hb (λic σ H s e s'=>Ji ic σ H s e s') ha hdb (Bp h1) (Bj h2).1 ht) λσ H Q z9=>by
  clear 5 z9 Oo c t fi r t' eq kk;clear 5(Ai eq)ds t1 e1 eq;clear 5(GM eq)S' e2 rfl;refine⟨Oo,c,t,fi,ds,t1,e1,λvs H1 c1 f1 s1 rvs=>?_⟩;refine⟨c1,ds,t1.S,f1.s,rvs,r,S',e2,λv H' c' si st ho rv=>?_⟩;clear 5(f1.after si st ho)f2 s2;exact kk v H' c' f2 (s1.trans s2) rv
end
end
variable{K:ib}
theorem Zd{k:Kd}{P:im}{w:ir}{mg:Str->Option ie}{base:Heap}{n:Nat}{fa:ig}{fd:iu}{ps:List Str}{f:Fn}(h:okK k P w K mg base n fa fd ps f):okK k P w K mg base (n+1) fa fd ps f:=by
 cases k<;>exact FnOk.mono h (um7 _)
def M3(K:ib)(C:ig):Bool:=plainGet K C Str.empty&&hasDictIn K C&&plainOver K C&&findIn K (.ref C) "__setattr__" == some (some (.builtin "object.__setattr__"))&&atN.all λf=>findIn K (.ref C) f==some none
variable{C:ig}
theorem Vz(h:M3 K C=true):Cls K C/\∀f∈atN,NoAttr K C f:=by
 unfold M3 at h;simp only[ug9,lm,uh4] at h;obtain⟨⟨⟨⟨a,b⟩,c⟩,d⟩,e⟩:=h;exact⟨⟨a,b,c,d⟩,λf hf=>e f hf⟩
theorem aY(h:∀n∈Lf,nsIn K mainGlobals n=some none\/∃C,nsIn K mainGlobals n=some (some (.ref C))/\M3 K C=true):CM K:=λn hn C e=>by
 rcases h n hn with q|⟨C',q,b⟩
 .rw[e] at q;cases q
 .rw[e] at q;cases q;exact Vz b
noncomputable def Mx(K:ib)(C:ig):Bool:=makesIn K C&&keepIn K (.ref C)
theorem U7{f:ig}(h:Mx K C=true)(i:findIn K (.ref C) "__init__" = some (some (.ref f)))(hf:isFn K (.ref f)=true):Mk K C f:=by
 unfold Mx at h;simp only[ug9] at h;exact⟨h.1,i,hf,h.2⟩
noncomputable def byB(K:ib)(C:ig)(m:Str):Bool:=specialIn K (.ref C) "__getattribute__" == some (some (.builtin "type.__getattribute__"))&&readsIn K C (.type "type")&&match findCls K (.ref C) (.type "type") m,findIn K (.ref C) m with|some (.val (.ref g)),some (some (.ref f))=>g==f|_,_=>false
set_option tactic.hygienic true in
theorem aW{f:ig}{m:Str}(h:byB K C m=true)(i:findIn K (.ref C) m=some (some (.ref f)))(k:keepIn K (.ref f)=true):ByCls K C m f:=by
 unfold byB at h;simp only[ug9,lm] at h;obtain⟨⟨a,b⟩,c⟩:=h;refine⟨a,b,?_,k⟩;rw[i] at c
 split at c
 .next g f' e1 e2=>
  cases e2
  rw[e1];exact c
 .cases c
end
section
variable{K:ib}
def LD:D->Option Int->Option Int->M D
 |.obj k,lo,hi=>λt=>match t.S[k]? with
   |some (.lst ds)=>some (.lst (Ci ds lo hi),t)
   |_=>none
 |x,lo,hi=>GC x lo hi
set_option tactic.hygienic true in
theorem UA:Ph K (Uq K) LD:=λ{Oo c t σ H x dx r lo hi t' Q} f rx eq k=>by
 unfold LD at eq
 split at eq
 .next kk=>
  cases rx with
  |@obj a kk h1=>
    split at eq
    .next ds es=>
     cases eq
     clear 5(f.s.obs kk a _ h1 es)vs g1 g2;exact .inl (.inl ⟨a,vs,rfl,SqL.of g1,λq hq=>k _ _ c (f.laid hq) (f.stp_laid hq) (.lst AG (f.s.free hq) ((Fg g2 lo hi).mono (Ext.laid f.s hq)))⟩)
    .cases eq
 .exact O5 f rx eq k
end
abbrev Gd:=Option (Nat×List D)
def Gon(g:Gd)(S:List Ob):Prop:=∀k xs,g=some (k,xs)->S[k]?=some (.lst xs)
def chk(g:Gd):M Unit:=λt=>@ite _ (Gon g t.S) (Classical.propDecidable _) (some ((),t)) none
set_option tactic.hygienic true in
theorem Ht{g:Gd}{t t':T}{u:Unit}(h:chk g t=some (u,t')):Gon g t.S/\t'=t:=by
 unfold chk at h
 split at h
 .next q=>cases h;exact⟨q,rfl⟩
 .cases h
theorem Kl{g:Gd}{t:T}(h:Gon g t.S):chk g t=some ((),t):=by unfold chk;rw[lD h]
def compG(g:Gd)(st:D->M Unit)(tst:M Bool)(elt:M D):List D->M (List D)
 |[]=>bnd (chk g) λ_=>ret []
 |d::r=>bnd (chk g) λ_=>bnd (st d) λ_=>bnd tst λk=>if k=true then bnd elt λx=>bnd (compG g st tst elt r) λxs=>ret (x::xs) else compG g st tst elt r
def Gf(n:Nat)(fr:List Nat)(f:M (Gd×List D))(st:D->M Unit)(tst:M Bool)(elt:M D):M (List D):=bnd f λp t=>match compG p.1 st tst elt p.2 ⟨cenv n fr t.env,t.S⟩ with
 |some (xs,t')=>if xs.length<=LIM then some (xs,{t with S:=t'.S}) else none
 |none=>none
structure ItOk3(K:ib)(J:It)(g:Gd)(c:Cf)(H:Hp)(ds:List D):Prop where
 go:∀c' H' S' (i:Nat),Ext c H c' H'->SInv K c' S' H'->Gon g S'->i<ds.length->J.go i H'
 yld:∀c' H' S' (i:Nat) x H'' d,Ext c H c' H'->SInv K c' S' H'->Gon g S'->ds[i]?=some d->J.yld i H' x H''->∃p vs es,x=.ref p/\H' p=none/\H''=upd H' p (.tup vs)/\d=.tup es/\Reps K c' H' vs es
 stop:∀c' H' S',Ext c H c' H'->SInv K c' S' H'->Gon g S'->J.stop ds.length H'
inductive RI3(K:ib)(f:M (Gd×List D))(σ:L2.St)(H:Hp)(R:It->Hp->Prop):Prop where
 |mk (Oo:ig->Prop) (c:Cf) (t:T) (fi:FInv K Oo c t σ H) (p:Gd×List D) (t':T) (e:f t=some (p,t')) (k:∀J H' c',FInv K Oo c' t' σ H'->Stp Oo c H c' H'->ItOk3 K J p.1 c' H' p.2->R J H'):RI3 K f σ H R
section
variable{X:Cx}{e a b tg iter elt:Expr}{ifs:List Expr}{pos:Pos}{scope:Scope}{N':List Str}{n:Nat}{fr:List Nat}{st:D->M Unit}{tst:M Bool}{el:M D}
end
structure ItOkG(K:ib)(J:It)(g:Gd)(c:Cf)(H:Hp)(ds:List D):Prop where
 go:∀c' H' S' (i:Nat),Ext c H c' H'->SInv K c' S' H'->Gon g S'->i<ds.length->J.go i H'
 yld:∀c' H' S' (i:Nat) x H'' d,Ext c H c' H'->SInv K c' S' H'->Gon g S'->ds[i]?=some d->J.yld i H' x H''->H''=H'/\Rep K c' H' x d
 stop:∀c' H' S',Ext c H c' H'->SInv K c' S' H'->Gon g S'->J.stop ds.length H'
theorem ItOk.toG{K:ib}{J:It}{g:Gd}{c:Cf}{H:Hp}{ds:List D}(h:ItOk K J c H ds):ItOkG K J g c H ds:=
 ⟨λc' H' _ i e _ _=>h.go c' H' i e,λc' H' _ i x H'' d e _ _=>h.yld c' H' i x H'' d e,λc' H' _ e _ _=>h.stop c' H' e⟩
def RIG(K:ib)(f:M (Gd×List D)):TI:=λσ H R=>∃Oo c t,FInv K Oo c t σ H/\∃p t',f t=some (p,t')/\∀J H' c',FInv K Oo c' t' σ H'->Stp Oo c H c' H'->ItOkG K J p.1 c' H' p.2->R J H'
set_option tactic.hygienic true in
def forG(g:Gd)(st:D->M Unit)(b:M Out):List D->M Out
 |[]=>bnd (chk g) λ_=>ret .next
 |d::r=>bnd (chk g) λ_=>bnd (st d) λ_=>bnd b λo=>match o with
   |.next=>forG g st b r
   |.cont=>forG g st b r
   |.brk=>ret .next
   |.ret x=>ret (.ret x)
def Kw(f:M (Gd×List D))(st:D->M Unit)(b:M Out):M Out:=bnd f λp=>forG p.1 st b p.2
theorem RS.forG{μ:Cf->Hp->D->(V->Hp->Prop)->Prop}{K:ib}{f:M (Gd×List D)}{st:D->M Unit}{b:M Out}{E:Ends}{σ:L2.St}{H:Hp}(q:RSg K μ (Kw f st b) E σ H):UF (RIG K f) (RG K st) (RSg K μ b) E σ H:=by
 clear 5 q Oo c t fi o t' eq k;clear 5(Ai eq)pg t1 e1 eq;refine⟨Oo,c,t,fi,pg,t1,e1,λJ H1 c1 f1 s1 it=>?_⟩;clear 5 pg g ds;dsimp only at eq it;refine⟨λi m σ' H'=>m=ds.length-i/\i<=ds.length/\∃c' t2,FInv K Oo c' t2 σ' H'/\Stp Oo c1 H1 c' H'/\L2.forG g st b (ds.drop i) t2=some (o,t'),⟨_,rfl,um6 _,c1,t1,f1,.refl,by rw[uk0];exact eq⟩,?_⟩;rintro i m σ' H' ⟨rfl,hi,c',t2,f2,s2,e2⟩
 by_cases hlt:i<ds.length
 .rw[ub2 hlt] at e2;unfold L2.forG at e2;clear 5(Ai e2)u0 t0 e0 e2;clear 5(Ht e0)hon ht0;rw[ht0] at e2;clear e0 ht0;refine .inr ⟨it.go c' H' _ i s2.ext f2.s hon hlt,λσ3 H3=>∃c3 t3,FInv K Oo c3 t3 σ3 H3/\Stp Oo c1 H1 c3 H3/\L2.forG g st b (ds.drop (i+1)) t3=some (o,t'),λσ3 H3 h=>⟨ds.length-(i+1),by lia,rfl,hlt,h⟩,λx H'' hy=>?_⟩;clear 5(it.yld c' H' _ i x H'' _ s2.ext f2.s hon (ub3 hlt) hy)rfl rx;clear 5(Ai e2)u t3 e3 e2;clear 5(Ai e2)o4 t4 e4 e2;refine⟨Oo,c',t2,_,f2,rx,t3,e3,λσ3 H3 c3 f3 s3=>?_⟩;refine⟨Oo,c3,t3,f3,o4,t4,e4,λσ5 H5 c5 f5 s5=>?_⟩;have s':=(s2.trans s3).trans s5
  cases o4 with
  |next=>exact⟨c5,t4,f5,s',e2⟩
  |cont=>exact⟨c5,t4,f5,s',e2⟩
  |brk=>cases e2;exact k σ5 H5 c5 f5 (s1.trans s')
  |ret r=>cases e2;exact k σ5 H5 c5 f5 (s1.trans s')
 .have hi':i=ds.length:=by lia
  subst hi';rw[uh2] at e2;unfold L2.forG at e2;clear 5(Ai e2)u0 t0 e0 e2;clear 5(Ht e0)hon ht0;rw[ht0] at e2;clear e0 ht0
  cases e2
  exact .inl ⟨it.stop c' H' _ s2.ext f2.s hon,k σ' H' c' f2 (s1.trans s2)⟩
set_option tactic.hygienic true in
theorem RF.compG{K:ib}{n:Nat}{fr:List Nat}{f:M (Gd×List D)}{st:D->M Unit}{tst:M Bool}{elt:M D}{σ:L2.St}{H:Hp}{Q:VK}(q:RF K (Gf n fr f st tst elt) σ H Q):Mz (RIG K f) (RG K st) (RT K tst) (RE K elt) (Gc n fr) σ H Q:=by
 clear 5 q Oo c t fi xs t' eq k;clear 5(Ai eq)pg t1 e1 eq;refine⟨Oo,c,t,fi,pg,t1,e1,λJ H1 c1 f1 s1 it=>?_⟩;clear 5 pg g ds;dsimp only at eq it
 cases e3:L2.compG g st tst elt ds ⟨cenv n fr t1.env,t1.S⟩ with
 |none=>rw[e3] at eq;cases eq
 |some p=>
   clear 5 p ys t3;rw[e3] at eq;dsimp only at eq
   split at eq
   case isFalse=>cases eq
   next hl=>
   cases eq
   refine⟨λi m acc σ' H'=>m=ds.length-i/\i<=ds.length/\∃c' t2 zs rest,FInv K c1.O c' t2 σ' H'/\Stp c1.O c1 H1 c' H'/\Reps K c' H' acc zs/\L2.compG g st tst elt (ds.drop i) t2=some (rest,t3)/\xs=zs++rest,
    ⟨_,rfl,um6 _,c1,_,[],xs,Kt f1,.refl,.nil,by rw[uk0];exact e3,rfl⟩,?_⟩
   rintro i m acc σ' H' ⟨rfl,hi,c',t2,zs,rest,f2,s2,ra,e2,ez⟩;have hacc:acc.length<=sizeLine:=by
    have:zs.length<=xs.length:=by rw[ez,ue6];exact uh3 _ _
    rw[ra.length];exact ul7 this (ul7 hl DG)
   refine⟨hacc,?_⟩
   by_cases hlt:i<ds.length
   .rw[ub2 hlt] at e2;unfold L2.compG at e2;clear 5(Ai e2)u0 t0 e0 e2;clear 5(Ht e0)hon ht0;rw[ht0] at e2;clear e0 ht0;refine .inr ⟨it.go c' H' _ i s2.ext f2.s hon hlt,λx H'' hy=>?_⟩;clear 5(it.yld c' H' _ i x H'' _ s2.ext f2.s hon (ub3 hlt) hy)rfl rx;clear 5(Ai e2)u t4 e4 e2;clear 5(Ai e2)kb t5 e5 e2;refine⟨c1.O,c',t2,_,f2,rx,t4,e4,λσ3 H3 c3 f3 s3=>⟨c1.O,c3,t4,f3,kb,t5,e5,λH4 c4 f4 s4=>?_⟩⟩
    cases kb with
    |false=>
      rw[lE ue3] at e2⊢;exact⟨ds.length-(i+1),by lia,rfl,hlt,c4,t5,zs,rest,f4,(s2.trans s3).trans s4,ra.mono (s3.trans s4).ext,e2,ez⟩
    |true=>
      rw[lD rfl] at e2⊢;clear 5(Ai e2)x6 t6 e6 e2;clear 5(Ai e2)r7 t7 e7 e2
      cases e2
      refine⟨c1.O,c4,t5,f4,x6,t6,e6,λv H5 c5 f5 s5 rv=>?_⟩;exact⟨ds.length-(i+1),by lia,rfl,hlt,c5,t6,zs++[x6],r7,f5,((s2.trans s3).trans s4).trans s5,(ra.mono ((s3.trans s4).trans s5).ext).append (.cons rv .nil),e7,by rw[ez,uf7];rfl⟩
   .have hi':i=ds.length:=by lia
    subst hi';rw[uh2] at e2;unfold L2.compG at e2;clear 5(Ai e2)u0 t0 e0 e2;clear 5(Ht e0)hon ht0;rw[ht0] at e2;clear e0 ht0
    cases e2
    refine .inl ⟨it.stop c' H' _ s2.ext f2.s hon,λp hp _=>?_⟩;clear 5 f2.leave si ext;clear 5(f1.after si ⟨s2.ext.trans ext,s2.oo⟩ (λ_=>lz))f6 s6;rw[ui4] at ez;subst ez;exact k p acc H' _ f6 (s1.trans s6) (ra.mono ext) hp
def Iy:D->M (Gd×List D)
 |.obj k=>λt=>match t.S[k]? with
   |some (.lst ds)=>some ((some (k,ds),ds),t)
   |_=>none
 |d=>bnd (DI d) λds=>ret (none,ds)
def Li(f:M D):M (Gd×List D):=bnd f Iy
theorem ItOkG.lst{K:ib}{g:Gd}{c:Cf}{H:Hp}{p:ig}{ds:List D}(r:∀c' H' S',Ext c H c' H'->SInv K c' S' H'->Gon g S'->∃vs,SqL K H' p vs/\Reps K c' H' vs ds):ItOkG K (Itl K p) g c H ds:=by
 refine⟨λc' H' S' i ex si on hi=>?_,λc' H' S' i x H'' d ex si on hd hy=>?_,λc' H' S' ex si on=>?_⟩
 .clear 5(r c' H' S' ex si on)vs h1 h2;obtain⟨v,e,_⟩:=h2.at (ub3 hi);exact⟨vs,v,h1,e⟩
 .clear 5(r c' H' S' ex si on)vs h1 h2;clear 5 hy rfl hx;exact⟨rfl,h2.get (hx vs h1) hd⟩
 .clear 5(r c' H' S' ex si on)vs h1 h2;exact⟨vs,h1,by rw[h2.length];exact um5 _⟩
section
variable{X:Cx}{e a b tg iter elt:Expr}{ifs:List Expr}{pos:Pos}{scope:Scope}{N':List Str}{n:Nat}{fr:List Nat}{st:D->M Unit}{tst:M Bool}{el:M D}
theorem VZ{μ:Cf->Hp->D->(V->Hp->Prop)->Prop}{body:List Stmt}{f:M (Gd×List D)}{b:M Out}(hp:PassesOwn (model X.prog X.w) X.A X.env X.xe)(hc:X.calm=true)(hi:PI X tg iter (RIG X.K f))(hg:PG X tg (RG X.K st))(hb:PSs X body (RSg X.K μ b))
 (hs:∀x,foldedSetIterable iter X.env x=pure x:=by intro _;rfl):PS X (.For tg iter body [] pos) (RSg X.K μ (Kw f st b)):=
 Br (Sb hp hc hi hg hb hs) λ_ _ _ q=>RS.forG q
theorem Nb{f:M (Gd×List D)}(O:CmpOk X scope N' (Gc n fr))(hc:X.calm=true)(hi:PI X tg iter (RIG X.K f))
 (hg:∀cl C s2 H2 fp,PG (Cs X N' scope cl C s2 H2 fp) tg (RG X.K st)) (ht:∀cl C s2 H2 fp,PIf (Cs X N' scope cl C s2 H2 fp) ifs (RT X.K tst)) (he:∀cl C s2 H2 fp,PE (Cs X N' scope cl C s2 H2 fp) elt (RE X.K el))
 (hs:∀x,foldedSetIterable iter X.env x=pure x:=by intro _;rfl):PE X (.ListComp elt [⟨tg,iter,ifs,0⟩] scope pos) (RF X.K (Gf n fr f st tst el)):=
 AM (OQ O hc hi hg ht he hs) λ_ _ _ q=>RF.compG q
set_option tactic.hygienic true in
theorem VN{f:M D}(h:PE X e (RE X.K f)):PI X tg e (RIG X.K (Li f)):=
 JZ (R3 h) λσ H R z=>by
  clear 5 z Oo c t fi ds t' eq k;clear 5(Ai eq)d t1 e1 eq;refine⟨Oo,c,t,fi,d,t1,e1,λv H1 c1 f1 s1 rv=>?_⟩
  cases rv with
  |@obj a kk hk=>
    unfold Iy at eq;dsimp only at eq
    split at eq
    .next es hS=>
     cases eq
     clear 5(f1.s.obs kk a _ hk hS)ws g1 g3;refine .inl ⟨a,rfl,⟨ws,SqL.of g1⟩,k _ H1 c1 f1 s1 (ItOkG.lst λc' H' S' ex si on=>?_)⟩;clear 5(si.obs kk a _ (ex.io _ _ hk) (on kk es rfl))us q1 q2;exact⟨us,SqL.of q1,q2⟩
    .cases eq
  |@lst p vs ds' h1 h2 h3=>
    cases eq
    exact .inl ⟨p,rfl,⟨vs,SqL.of h1⟩,k _ H1 c1 f1 s1 (ItOk.toG (ItOk.lst λc' H' ex=>⟨vs,SqL.of (ex.keep _ _ h1 h2),h3.mono ex⟩))⟩
  |@scr p ns h1=>
    cases eq
    exact .inl ⟨p,rfl,⟨_,h1.sq⟩,k _ H1 c1 f1 s1 (ItOk.toG (ItOk.lst λc' H' ex=>⟨_,(h1.mono ex).sq,Reps.ints ns⟩))⟩
  |@tup p vs ds' h1 h2 h3=>
    cases eq
    exact .inr (.inl ⟨p,rfl,⟨vs,SqT.of h1⟩,k _ H1 c1 f1 s1 (ItOk.toG (ItOk.tup λc' H' ex=>⟨vs,SqT.of (ex.keep _ _ h1 h2),h3.mono ex⟩))⟩)
  |str x=>
    cases eq
    exact .inr (.inr ⟨x,rfl,k _ H1 c1 f1 s1 (ItOk.toG ItOk.str)⟩)
  |@gts p xs hk=>
    cases eq
    exact .inr (.inl ⟨p,rfl,⟨_,.inr hk⟩,k _ H1 c1 f1 s1 (ItOk.toG (ItOk.tup λc' H' ex=>⟨_,.inr hk,Reps.strs xs⟩))⟩)
  |_=>cases eq
end
def gB:List D->M D
 |[d,.tup [.ty m1,.ty m2]]=>λt=>match d with
   |.obj k=>match t.S[k]? with
     |some (.lst _)=>match Gn "list" m1,Gn "list" m2 with
       |some b1,some b2=>some (.bl (b1||b2),t)
       |_,_=>none
     |_=>none
   |d=>match tyD d with
     |some n=>match Gn n m1,Gn n m2 with
       |some b1,some b2=>some (.bl (b1||b2),t)
       |_,_=>none
     |none=>none
 |_=>fail
section
variable{X:Cx}{k:Nat}{f l I S:ig}{fd:iu}{ps:List Str}{sp:Sp}{ic:List (ig×Obj)}{σ:St}{H:Hp}{s:ij}{Q:VK}{oS oI oS' oI':Obj}{h':Heap}{t':Nat}
end
section
variable{K:ib}{g:Fn}
end
section
variable{X:Cx}{e:Expr}{pos:Pos}
def P7(f:M D):M D:=bnd f λo=>match o with
 |.obj k=>λt=>match t.S[k]? with
   |some (.lst _)=>some (.non,{t with S:=t.S.set k (.lst [])})
   |_=>none
 |_=>fail
set_option tactic.hygienic true
theorem QV{o:Expr}{f:M D}{apos cpos:Pos}(ho:PE X o (RE X.K f))
 (hbase:attributeBase o "clear" X.env (eval o X.env)=eval o X.env:=by rfl) (hline:(apos.endLine==cpos.line)=true:=by rfl) :
 PE X (.Call (.Attribute o "clear" apos) [] [] cpos) (RE X.K (P7 f)):=
 AM (Zs ub5 PySem.F.slot_list_clear PySem.F.type_list_clear TY ho hbase hline) λσ H Q z=>by
  clear 5 z Oo c t fi r t' eq k;clear 5(Ai eq)d t1 e1 eq;refine⟨Oo,c,t,fi,d,t1,e1,λv H1 c1 f1 s1 rv=>?_⟩
  cases rv with
  |@obj a kk hk=>
    dsimp only at eq
    split at eq
    .next xs hS=>
     cases eq
     clear 5(f1.s.obs kk a _ hk hS)vs g1 g2;refine⟨.inl ⟨rfl,vs,SqL.of g1⟩,a,vs,rfl,rfl,g1,?_⟩;obtain⟨f2,s2⟩:=f1.wrObj (o:=.lst []) (u:=.lst []) hk λc' H' ext hu=>⟨[],hu,.nil⟩;exact k _ _ c1 f2 (s1.trans s2) .non
    .cases eq
  |_=>cases eq
def slF:D->Option Int->Option Int->M (List D)
 |.lst ds,lo,hi=>ret (Ci ds lo hi)
 |.scr ns,lo,hi=>ret ((Ci ns lo hi).map .int)
 |.obj k,lo,hi=>λt=>match t.S[k]? with
   |some (.lst ds)=>some (Ci ds lo hi,t)
   |_=>none
 |_,_,_=>fail
def Pv(f:M D)(l u:M (Option Int)):M (List D):=bnd f λd=>bnd l λa=>bnd u λb=>slF d a b
theorem To{f:M D}{l u:M (Option Int)}{lo hi:Option Expr}{p2:Pos}(he:PE X e (RE X.K f))(hl:PO X lo (RO X.K l))(hu:PO X hi (RO X.K u)):PE X (.Subscript e (.Slice lo hi none p2) pos) (RF X.K (Pv f l u)):=
 AM (ND sl2 he hl hu) λσ H Q z9=>by
  clear 5 z9 Oo c t fi r t' eq k;clear 5(Ai eq)d t1 e1 eq;clear 5(Ai eq)ol t2 e2 eq;clear 5(Ai eq)oh t3 e3 eq;refine⟨Oo,c,t,fi,d,t1,e1,λv H1 c1 f1 s1 rv=>⟨Oo,c1,t1,f1,ol,t2,e2,λH2 c2 f2 s2=>⟨Oo,c2,t2,f2,oh,t3,e3,λH3 c3 f3 s3=>?_⟩⟩⟩;have rv3:=rv.mono (s2.trans s3).ext;have st:=(s1.trans s2).trans s3
  cases rv3 with
  |@lst p vs ds h1 h2 h3=>
    cases eq
    exact .inl ⟨p,vs,rfl,SqL.of h1,λq hq=>k q _ _ c3 f3 st (Fg h3 ol oh) hq⟩
  |@scr p ns h1=>
    cases eq
    refine .inl ⟨p,_,rfl,h1.sq,λq hq=>k q _ _ c3 f3 st ?_ hq⟩;rw[LU];exact Reps.ints _
  |@obj a kk h1=>
    unfold slF at eq;dsimp only at eq
    split at eq
    .next ds es=>
     cases eq
     clear 5(f3.s.obs kk a _ h1 es)vs g1 g2;exact .inl ⟨a,vs,rfl,SqL.of g1,λq hq=>k q _ _ c3 f3 st (Fg g2 ol oh) hq⟩
    .cases eq
  |_=>cases eq
end
section
variable{X:Cx}{e elt tg iter:Expr}{pos:Pos}{scope:Scope}{N':List Str}{ifs:List Expr}{n:Nat}{fr:List Nat}{f:M (List D)}{st:D->M Unit}{tst:M Bool}{el:M D}
end
section
variable{X:Cx}{e:Expr}
end
section
variable{X:Cx}{e el eu ek:Expr}{p2 pos:Pos}{te:TE}{tl tu tk:TO}
end
section
variable{X:Cx}{elt tg iter:Expr}{pos:Pos}{scope:Scope}{N':List Str}{ifs:List Expr}{n:Nat}{fr:List Nat}{st:D->M Unit}{tst:M Bool}{el:M D}
end
abbrev EnO(h:Heap)(e it:ig)(i:Int)(x:ie)(a:ig)(q:Bool):Prop:=h.get? e=some {cls:=.type "enumerate",dict:=none,data:=.fields #[rawInt a,.bool q,.ref it,rawInt i,.none,x],slots:=#[]}
section
variable{prog:im}{w:ir}{A:Around}{E:ie->ij->Prop}{s:ij}
end
inductive EnS(h:Heap)(e it:ig)(i:Nat):Prop where
 |new (old:ie) (z:i=0) (h1:IsEnum h e it i old)
 |out (old:ie) (a0:ig) (q:Bool) (h1:EnO h e it i old a0 q)
section
variable{A:Around}{s:ij}
end
end L2
namespace PySem
open Sem (wp)
section
variable{prog:im}{w:ir}{A:Around}{E:ie->ij->Prop}{s:ij}
theorem F.lri_no_len:typeLookup (.type "list_reverseiterator") "__len__" = pure none:=by rw[typeLookup_type,builtinLookup_eq_fast];kernel_rfl
theorem F.lri_hint:typeLookup (.type "list_reverseiterator") "__length_hint__" = pure (some (.builtin "list_reverseiterator.__length_hint__")):=by rw[typeLookup_type,builtinLookup_eq_fast];kernel_rfl
theorem F.lri_self:isSubtype (.type "list_reverseiterator") (.type "list_reverseiterator")=pure true:=by rw[isSubtype_type];kernel_rfl
theorem JY{R:Result->ij->Prop}(hh:A.handled=none){I l:ig}{items:Array ie}(S:ig)(res:ie)(c₀:Nat)(hI:s.heap.IsRevIter I l ((items.size:Int)-1))(hl:s.heap.IsList l items)(hne:l≠I)(hSI:S≠I)(hSl:S≠l)(hS:s.heap.get? S=some {cls:=.type "list",data:=.seq #[] c₀ })
 (hR:∀h' tk acc' c',(∀b o,b≠S->b≠I->s.heap.get? b=some o->h'.get? b=some o)->h'.get? S=some { cls:=.type "list",dict:=none,data:=.seq acc' c',slots:=#[] }->
   ItemsOf (λi v=>items[items.size-1-i]?=some v) acc' items.size->R (.ok (.ret res)) {s with heap:=h',toks:=tk}) (hn:items.size<=sizeLine:=by size_fits) :
 wpAny (model prog w) A.in1 (Builtin.List.listExtendWith (.ref S) (.ref I) res)
  (λfin s'=>match fin with | .done f=>R (.ok f) s' | .again c'=>c'.quiet=true/\codeAny (model prog w) A c' R s') (λe s'=>R (.error e) s') s:=by
 have hSf:S∉[I,l]:=λhm=>by simp only[uk3,uh6,lw] at hm;exact hm.elim hSI hSl
 unfold Builtin.List.listExtendWith;refine um9 (lb hI.typeIs ?_);have h1:Builtin.List.listSameRef (.ref S) (.ref I)=false:=by simp[Builtin.List.listSameRef,hSI]
 have h2:(Value.type "list_reverseiterator" == Value.type "list")=false:=by decide
 have h3:(Value.type "list_reverseiterator" == Value.type "tuple")=false:=by decide
 simp only[h1,h2,h3,uk5,ue7,lv];refine um9 (wpAny_pyIter_revIter hI ?_);refine um9 (ul4 ?_);unfold Builtin.List.listLengthHint;refine um9 (kP hI.typeIs F.lri_no_len ?_)
 wp_delta
 refine um9 (kP hI.typeIs F.lri_hint ?_)
 wp_delta
 refine um9 (wpAny_isInstance hI.typeIs (b:=true) F.lri_self ?_);simp only[kX,ue7,lv];rw[lD (by decide +kernel),lE (by decide)];refine un0 ?_;have fin:∀h2:Heap,(∃c1,h2.get? S=some {cls:=.type "list",data:=.seq #[] c1})->(∀b o,b≠S->s.heap.get? b=some o->h2.get? b=some o)->wpAny (model prog w) A.in1 (again (.builtin "list.extend.loop" ⟨[.ref S,.ref I,res],[]⟩)) (λfin s'=>match fin with | .done f=>R (.ok f) s' | .again c'=>c'.quiet=true/\codeAny (model prog w) A c' R s') (λe s'=>R (.error e) s') {s with heap:=h2}:=λh2 z9 oth=>by
  clear 5 z9 c1 hS2;refine un0 ⟨plainId_quiet F.plain_extend_loop _,codeAny_extend_loopS (s:={s with heap:=h2}) (Walks.listRev (A:=A.in1) hh I l hne items).toS hn _ hSf _ items.size 0 _ _ rfl (um6 _) ⟨um6 _,?_,hl.at λo e=>oth l o (Ne.symm hSl) e⟩ hS2 (ItemsOf.nil _) λs' acc' c' hm hS' hacc=>?_⟩
  .rw[show(items.size:Int)-1-((0:Nat):Int)=(items.size:Int)-1 by lia];exact hI.at λo e=>oth I o (Ne.symm hSI) e
  rw[Moved.eq_with hm];refine hR s'.heap s'.toks acc' c' (λb ob hb hb2 e=>hm.heap b ob (λhmem=>?_) (oth b ob hb e)) hS' hacc;simp only[uk3,uh6,lw] at hmem;exact hmem.elim hb hb2
 split
 .refine um9 (wpAny_rule ?_);refine um9 ?_;show wpAny _ A.in1 (updateSeq S (·.push .none) >>= λ_=>updateSeq S (·.pop)) _ _ _;refine um9 (kQ hS rfl ?_);have hS₂:=uc9 (Obj.mapSeq (·.push Value.none)) hS rfl;refine kQ (hz:=by seq_fits) hS₂ rfl ?_;have hS₃:=uc9 (Obj.mapSeq (·.pop)) hS₂ rfl;exact fin _ ⟨_,hS₃⟩ λb o hb e=>(uc0 _ _ (Ne.symm hb)).trans ((uc0 _ _ (Ne.symm hb)).trans e)
 .exact fin s.heap ⟨_,hS⟩ λb o _ e=>e
theorem Ia{R:Result->ij->Prop}(hh:A.handled=none){I l:ig}{items:Array ie}(S:ig)(hI:s.heap.IsRevIter I l ((items.size:Int)-1))(hl:s.heap.IsList l items)(hne:l≠I)(hSI:S≠I)(hSl:S≠l)(hS:s.heap.get? S=some {cls:=.type "list",data:=.seq #[]})
 (hR:∀h' tk acc' c',(∀b o,b≠S->b≠I->s.heap.get? b=some o->h'.get? b=some o)->h'.get? S=some { cls:=.type "list",dict:=none,data:=.seq acc' c',slots:=#[] }->
   ItemsOf (λi v=>items[items.size-1-i]?=some v) acc' items.size->R (.ok (.ret .none)) {s with heap:=h',toks:=tk}) (hn:items.size<=sizeLine:=by size_fits) :
 wpAny (model prog w) A.in1 (Builtin.«list.__init__» ⟨[.ref S,.ref I],[]⟩)
  (λfin s'=>match fin with | .done f=>R (.ok f) s' | .again c'=>c'.quiet=true/\codeAny (model prog w) A c' R s') (λe s'=>R (.error e) s') s:=by
 show wpAny _ _ (do let old <-Builtin.List.listItems (.ref S);Builtin.List.listUpdate (.ref S) (λ_=>#[]);letGo old.toList.reverse;Builtin.List.listExtendWith (.ref S) (.ref I) .none) _ _ s;refine um9 ?_;unfold Builtin.List.listItems;refine um9 (wpAny_seqItems hS rfl (un0 ?_));show wpAny _ _ (updateSeq S (λ_=>#[]) >>= λ_=>letGo (#[]:Array ie).toList.reverse >>= λ_=>Builtin.List.listExtendWith (.ref S) (.ref I) .none) _ _ s;refine um9 (kQ hS rfl ?_);have hS₂:=uc9 (Obj.mapSeq (λ_=>(#[]:Array ie))) hS rfl;have oth:∀b o,b≠S->s.heap.get? b=some o->(s.heap.update S (Obj.mapSeq (λ_=>(#[]:Array ie)))).get? b=some o:=
  λb o hb e=>(uc0 _ _ (Ne.symm hb)).trans e
 refine um9 (wpAny_letGo ?_);refine JY (hn:=hn) hh S .none _ (hI.at λo e=>oth I o (Ne.symm hSI) e) (hl.at λo e=>oth l o (Ne.symm hSl) e) hne hSI hSl hS₂ λh' tk acc' c' hk hS' hacc=>?_;exact hR h' tk acc' c' (λb o hb hb2 e=>hk b o hb hb2 (oth b o hb e)) hS' hacc
theorem Le{Q:ie->ij->Prop}(hh:A.handled=none){I l:ig}{items:Array ie}(hI:s.heap.IsRevIter I l ((items.size:Int)-1))(hl:s.heap.IsList l items)(hne:l≠I)
 (hQ:∀h' tk acc' c',(∀b o,b≠I->s.heap.get? b=some o->h'.get? b=some o)->
   h'.get? s.heap.objs.size=some {cls:=.type "list",dict:=none,data:=.seq acc' c',slots:=#[]}->ItemsOf (λi v=>items[items.size-1-i]?=some v) acc' items.size->Q (.ref s.heap.objs.size) {s with heap:=h',toks:=tk}) (hn:items.size<=sizeLine:=by size_fits) :
 wpAny (model prog w) A (call (.type "list") [.ref I]) Q E s:=by
 refine callType_codes (Q₁:=λobj s₁=>obj=.ref s.heap.objs.size/\s₁ = {s with heap:=s.heap.push {cls:=.type "list",data:=.seq #[]} }) F.called_list (F.typeCall_list_1 _) F.entry_list_init
  (code_list_new _ ⟨rfl,rfl⟩) λobj s₁ h₁=>?_
 clear 5 h₁ rfl rfl;have hS:(s.heap.push {cls:=.type "list",data:=.seq #[]}).get? s.heap.objs.size=some {cls:=.type "list",data:=.seq #[]}:=ud6 _ rfl;have lI:I<s.heap.objs.size:=by obtain⟨o,ho,_⟩:=hI;exact ul5 ho
 have ll:l<s.heap.objs.size:=by obtain⟨o,ho,_⟩:=hl;exact ul5 ho
 refine⟨⟨_,hS,rfl⟩,F.args_list_init_2 _ _,Ia (A:=A.in1) (hn:=hn) hh _ (hI.at λo e=>ub9 _ e) (hl.at λo e=>ub9 _ e) hne (ul8 lI) (ul8 ll) hS λh' tk acc' c' hk hS' hacc=>?_⟩;exact⟨rfl,hQ h' tk acc' c' (λb o hb e=>hk b o (ul6 (ul5 e)) hb (ub9 _ e)) hS' hacc⟩
end
end PySem
namespace L2
open PySem PySem.Spec PyProof.Rows
section
variable{X:Cx}{e:Expr}{ta:TA}{p p2 pos2 pos:Pos}
theorem UM{ys:List V}{its:List ie}{acc:Array ie}(r:Vals ys its)(h:ItemsOf (λi v=>its.toArray[its.toArray.size-1-i]?=some v) acc its.toArray.size):Vals ys.reverse acc.toList:=by
 have e:acc.toList=its.reverse:=by
  refine List.ext_getElem? λj=>?_
  by_cases hj:j<its.length
  .have hj2:j<acc.size:=by rw[h.1];simpa using hj
   have h2:=h.2 j acc[j] (jg hj2);rw[kf,jg hj2,List.getElem?_reverse hj];simpa using h2.symm
  .rw[ud0 (by rw[ud5,h.1];simpa using hj),ud0 (by rw[List.length_reverse];lia)]
 rw[e];exact r.rev
theorem Qa(hc:X.calm=true)(hgl:Gl X "list")(hml:X.mg "list" = none)(hgr:Gl X "reversed")(hmr:X.mg "reversed" = none)(ha:PA X [e] ta)(he:starEach [e] X.env=[(false,eval e X.env)]) :
 PE X (.Call (.Name "list" p) [.Call (.Name "reversed" p2) [e] [] pos2] [] pos) (λσ H Q=>ta σ H λxs H1=>∃a ys,xs=[.ref a]/\SqL X.K H1 a ys/\∀l,H1 l=none->Q (.ref l) (upd H1 l (.lst ys.reverse))):=by
 intro ic s σ H Q I h;refine kq (Go I hgl hml (show bootBuiltins "list" = some (.type "list") by decide +kernel) ?_);refine callWith_type1 ?_ rfl rfl;show wpAny _ _ (spliced ((false,eval (.Call (.Name "reversed" p2) [e] [] pos2) X.env)::backTo pos (starEach [] X.env))) _ _ s;refine Calls.spliced_cons ?_;refine kq (Go I hgr hmr (show bootBuiltins "reversed" = some (.type "reversed") by decide +kernel) ?_);refine callWith_type1 (thn (ha pos2 ic s σ H _ I h) λus s1 z9=>?_) he rfl;clear 5 z9 vs H1 I1 r1 q1;clear 5 q1 a ys ev hq q;subst ev;clear 5(GQ r1)u rfl ru
 cases ru
 clear 5(I1.list hq)its rv pl hz;have hil:=pl.isList;have la:a<s1.heap.objs.size:=by obtain⟨o,ho,_⟩:=hil;exact ul5 ho
 refine call_reversed_list hil ?_;refine Calls.spliced_nil ?_;have hsz:(s1.heap.push (revObj a ((its.toArray.size:Int)-1))).objs.size=s1.heap.objs.size+1:=uj8 ..;refine Le (I.ok.hd hc) (items:=its.toArray) ⟨_,ud6 _ rfl,rfl,rfl⟩ (hil.at λo e=>ub9 _ e) (ul6 la) (λh' tk acc' c' kk hS hacc=>?_) (by rw[uf3,<-rv.length];exact hz);rw[hsz] at hS⊢;refine⟨.ref (s1.heap.objs.size+1),_,I1.laid (t':=tk) (λb o e=>kk b o (ul6 (ul5 e)) (ub9 _ e)) (um7 _) (show ObjOk X.prog X.w _ h' _ (.lst ys.reverse) from⟨?_,acc'.toList,c',UM rv hacc,?_⟩),rfl,q _ (I1.hok.fresh (um7 _))⟩
 .rw[List.length_reverse];exact hz
 .simpa using hS
def Ve:V->List V->Hp->VK->Prop:=λx xs H Q=>∃z y,x=.str z/\xs=[.str y]/\Q (.int (Txt.find z y)) H
theorem Wn:MtR X "str.find" Ve:=by
 intro ic s σ H x xs v us Q I rx rs h;clear 5 h z y rfl rfl q;clear 5 rx t rfl;clear 5(GQ rs)u rfl t' rfl;exact SC.find ⟨.int _,H,I.tok _,⟨_,rfl⟩,q⟩
end
section
variable{X:Cx}{K:ib}{e:Expr}{p p2 pos2 pos:Pos}
def Lx:List D->M (List D)
 |[.lst ds]=>ret ds.reverse
 |_=>fail
set_option tactic.hygienic true in
theorem Uz:J2 K (λxs H Q=>∃a ys,xs=[.ref a]/\SqL K H a ys/\∀l,H l=none->Q (.ref l) (upd H l (.lst ys.reverse))) Lx:=λ{Oo c t σ H xs ds r t' Q} f rx eq k=>by
 unfold Lx at eq
 split at eq
 .next ds=>
  clear 5(Fi rx)v rfl rv
  cases eq
  cases rv with
  |@lst a vs ds h1 h2 h3=>exact⟨a,vs,rfl,SqL.of h1,λq hq=>k q _ H c f .refl h3.rev hq⟩
 .cases eq
theorem Px{f:M (List D)}(hc:X.calm=true)(hgl:Gl X "list")(hml:X.mg "list" = none)(hgr:Gl X "reversed")(hmr:X.mg "reversed" = none)(ha:PA X [e] (RA X.K f))(h1:Bn e=false:=by rfl) :
 PE X (.Call (.Name "list" p) [.Call (.Name "reversed" p2) [e] [] pos2] [] pos) (RF X.K (fBF f Lx)):=
 AM (Qa hc hgl hml hgr hmr ha (Bp h1)) λ_ _ _ q=>RF.callB Uz q
def findM(f:M D)(g:M (List D)):M D:=bnd f λo=>bnd g λas=>match o,as with
 |.str z,[.str y]=>ret (.int (Txt.find z y))
 |_,_=>fail
set_option tactic.hygienic true in
theorem RE.findM{f:M D}{g:M (List D)}{σ:L2.St}{H:Hp}{Q:VK}(q:RE K (L2.findM f g) σ H Q):tBM K "str" Ve (RE K f) (RA K g) σ H Q:=by
 clear 5 q Oo c t fi r t' eq k;clear 5(Ai eq)d t1 e1 eq;clear 5(Ai eq)as t2 e2 eq;refine⟨Oo,c,t,fi,d,t1,e1,λv H1 c1 f1 s1 rv=>?_⟩
 split at eq
 .next z y=>
  cases rv
  refine⟨rfl,Oo,c1,t1,f1,_,t2,e2,λus H2 c2 f2 s2 rus=>?_⟩;clear 5(Fi rus)w rfl rw'
  cases eq
  cases rw'
  exact⟨_,_,rfl,rfl,k _ _ c2 f2 (s1.trans s2) (.int _)⟩
 .cases eq
theorem VI{o e:Expr}{es:List Expr}{f:M D}{g:M (List D)}{apos cpos:Pos}(ho:PE X o (RE X.K f))(ha:PA X (e::es) (RA X.K g))
 (hbase:attributeBase o "find" X.env (eval o X.env)=eval o X.env:=by rfl)
 (hfew:((backTo cpos (starEach (e::es) X.env)).all (λx=>!x.1)&&(backToKw cpos (keywordEach [] X.env)).all (λx=>x.1.isSome)&&decide ((e::es).length+([]:List Keyword).length+(if ([]:List Keyword).isEmpty then 0 else 1)<30))=true:=by rfl)
 (hline:(apos.endLine==cpos.line)=true:=by rfl) (hs:starEach (e::es) X.env=(false,eval e X.env)::starEach es X.env:=by rfl) (hplain:(backTo cpos (starEach es X.env)).any (·.1)=false:=by rfl) :
 PE X (.Call (.Attribute o "find" apos) (e::es) [] cpos) (RE X.K (findM f g)):=
 AM (Jj PySem.F.plainAttrs_str PySem.F.slot_str_find PySem.F.type_str_find Wn ho ha hbase hfew hline hs hplain) λ_ _ _ q=>RE.findM q
end
section
variable{X:Cx}{a b:Expr}{pos:Pos}{f:M Bool}{u v:M D}
end
section
variable{X:Cx}{a b:Expr}{pos:Pos}
end
def NF(f:M D)(g:M (List D)):M D:=bnd f λo=>match o with
 |.obj k=>λt=>match t.S[k]? with
   | some (.lst _)=>bnd g (λds t1=>match ds with
     | [.int i]=>if i=0 then (match t1.S[k]? with
       |some (.lst (y::r))=>some (y,{t1 with S:=t1.S.set k (.lst r)})
       |_=>none) else none
     |_=>none) t
   |_=>none
 |_=>fail
section
variable{X:Cx}{e:Expr}
set_option tactic.hygienic true in
theorem VJ{o:Expr}{es:List Expr}{f:M D}{g:M (List D)}{apos cpos:Pos}(ho:PE X o (RE X.K f))(ha:PA X (e::es) (RA X.K g))
 (hbase:attributeBase o "pop" X.env (eval o X.env)=eval o X.env:=by rfl)
 (hfew:((backTo cpos (starEach (e::es) X.env)).all (λx=>!x.1)&&(backToKw cpos (keywordEach [] X.env)).all (λx=>x.1.isSome)&&decide ((e::es).length+([]:List Keyword).length+(if ([]:List Keyword).isEmpty then 0 else 1)<30))=true:=by rfl)
 (hline:(apos.endLine==cpos.line)=true:=by rfl) (hs:starEach (e::es) X.env=(false,eval e X.env)::starEach es X.env:=by rfl) (hplain:(backTo cpos (starEach es X.env)).any (·.1)=false:=by rfl) :
 PE X (.Call (.Attribute o "pop" apos) (e::es) [] cpos) (RE X.K (NF f g)):=
 AM (Jj ub5 PySem.F.slot_list_pop PySem.F.type_list_pop TZ ho ha hbase hfew hline hs hplain) λσ H Q q=>by
  clear 5 q Oo c t fi r t' eq k;clear 5(Ai eq)o t0 e0 eq;refine⟨Oo,c,t,fi,o,t0,e0,λx H0 c0 f0 s0 rx=>?_⟩
  cases rx with
  |@obj a kk hk=>
    dsimp only at eq
    split at eq
    .next xs0 ex0=>
     clear 5(Ai eq)ds t1 e1 eq;clear 5(f0.s.obs kk a _ hk ex0)vs0 g0 g0';refine⟨.inl ⟨rfl,vs0,SqL.of g0⟩,Oo,c0,t0,f0,ds,t1,e1,λus H1 c1 f1 s1 rus=>?_⟩
     split at eq
     .next i=>
      split at eq
      .next hi=>
       subst hi
       split at eq
       .next y r0 ex=>
        cases eq
        have hk1:=s1.ext.io _ _ hk;clear 5(f1.s.obs kk a _ hk1 ex)vs g1 g2
        cases rus with
        |cons ru rn=>
        cases rn
        cases ru
        cases g2 with
        |@cons v d vs1 ds1 q1 q2=>
        refine⟨a,_,0,0,v,rfl,rfl,g1,by decide,by decide,?_,rfl,?_⟩
        .show seqIndex? 0 (v::vs1).length=some 0;simp[seqIndex?]
        .obtain⟨f2,s2⟩:=f1.wrObj (o:=.lst r0) (u:=.lst vs1) hk1 λc' H' ext hu=>⟨vs1,hu,q2.mono ext⟩;exact k _ _ c1 f2 ((s0.trans s1).trans s2) (q1.mono s2.ext)
       .cases eq
      .cases eq
     .cases eq
    .cases eq
  |_=>cases eq
end
abbrev vw(d:L2.D):Option L2.Sl:=some (.val d)
abbrev ia(i:Int):L2.M L2.D:=L2.fC (.int i)
end L2
namespace LW
open PySem L2
def GZ:M Out:=
 (An (Dd (fB (Ab (Aa 0) (Ab (fC (.ty "int")) Ad)) Da) (Kq (fB (Ab (Aa 0) (Ab (fC (.ty "bool")) Ad)) Da))))
def Ec(MX:Fn):M Out:=
 (An (Dd (Ak MX (Ab (Aa 0) Ad)) (Fp (Aa 1) (Aa 0) (Aa 2) leA leA)))
def Nt(La MV MU MW B4:Fn):M Out:=
 (Af (setS 2 (Ac (Aa 0) (ia 0) ixD))
 (Af (ifS (Am (Ac (Aa 2) (fC (.str "nothing")) (eqS id)))
   (An (Ac (Aa 1) (fC .non) isC))
   Aq)
 (Af (ifS (Am (Ac (Aa 2) (fC (.str "number")) (eqS id)))
   (An (Ak B4 (Ab (Aa 1) (Ab (Ac (Aa 0) (ia 1) ixD) (Ab (Ac (Aa 0) (ia 2) ixD) Ad)))))
   Aq)
 (Af (ifS (Am (Ac (Aa 2) (fC (.str "text")) (eqS id)))
   (An (Ak MW (Ab (Aa 0) (Ab (Aa 1) Ad))))
   Aq)
 (Af (ifS (Am (Ac (Aa 2) (fC (.str "list")) (eqS id)))
   (An (Ak MU (Ab (Aa 0) (Ab (Aa 1) Ad))))
   Aq)
 (Af (ifS (Am (Ac (Aa 2) (fC (.str "pair")) (eqS id)))
   (An (Ak MV (Ab (Aa 0) (Ab (Aa 1) Ad))))
   Aq)
 (An (Ak La (Ab (Aa 0) (Ab (Aa 1) Ad))))))))))
def GY(Hr:Fn):M Out:=
 (Af (ifS (fOr (Ct (Am (fB (Ab (Aa 1) (Ab (fC (.ty "str")) Ad)) Da))) (Am (Ac (fB (Ab (Aa 1) Ad) AY) (Ac (Aa 0) (ia 1) ixD) gtA)))
   (An (fC (.bl false)))
   Aq)
 (Af (B7 (Dn (Aa 1)) (AE 2)
   (ifS (Ct (Am (Ak Hr (Ab (fB (Ab (Aa 2) Ad) JT) Ad))))
   (An (fC (.bl false)))
   Aq))
 (An (fC (.bl true)))))
def IB:M Out:=
 (An (Dd (Fp (ia 32) (Aa 0) (ia 126) leA leA) (Ac (Aa 0) (ia 37) (eqS λb=>!b))))
def GW(EM:Fn):M Out:=
 (Af (ifS (fOr (Ct (Am (fB (Ab (Aa 1) (Ab (fC (.ty "list")) Ad)) Da))) (Am (Ac (fB (Ab (Aa 1) Ad) AY) (Ac (Aa 0) (ia 2) ixD) gtA)))
   (An (fC (.bl false)))
   Aq)
 (Af (B7 (Dn (Aa 1)) (AE 2)
   (ifS (Ct (Am (Ak EM (Ab (Ac (Aa 0) (ia 1) ixD) (Ab (Aa 2) Ad)))))
   (An (fC (.bl false)))
   Aq))
 (An (fC (.bl true)))))
def GX(EM:Fn):M Out:=
 (Af (ifS (fOr (Ct (Am (fB (Ab (Aa 1) (Ab (fC (.ty "tuple")) Ad)) Da))) (Am (Ac (fB (Ab (Aa 1) Ad) AY) (ia 2) (eqS λb=>!b))))
   (An (fC (.bl false)))
   Aq)
 (An (Dd (Ak EM (Ab (Ac (Aa 0) (ia 1) ixD) (Ab (Ac (Aa 1) (ia 0) ixD) Ad))) (Ak EM (Ab (Ac (Aa 0) (ia 2) ixD) (Ab (Ac (Aa 1) (ia 1) ixD) Ad))))))
def FA(EM B4:Fn):M Out:=
 (Af (ifS (fOr (Ct (Am (fB (Ab (Aa 1) (Ab (fC (.ty "tuple")) Ad)) Da))) (Am (Ac (fB (Ab (Aa 1) Ad) AY) (ia 3) (eqS λb=>!b))))
   (An (fC (.bl false)))
   Aq)
 (Af (ifS (fOr (Ct (Am (fB (Ab (Ac (Aa 1) (ia 0) ixD) (Ab (fC (.ty "str")) Ad)) Da))) (Am (Ac (Ac (Aa 1) (ia 0) ixD) (fC (.str "of")) (eqS λb=>!b))))
   (An (fC (.bl false)))
   Aq)
 (Af (ifS (Ct (Am (Ak B4 (Ab (Ac (Aa 1) (ia 1) ixD) (Ab (ia 0) (Ab (Ac (fB (Ab (Ac (Aa 0) (ia 1) ixD) Ad) AY) (ia 1) CO) Ad))))))
   (An (fC (.bl false)))
   Aq)
 (An (Ak EM (Ab (Ac (Ac (Aa 0) (ia 1) ixD) (Ac (Aa 1) (ia 1) ixD) ixD) (Ab (Ac (Aa 1) (ia 2) ixD) Ad)))))))
def Gx:M Out:=
 (An (Ac (Ac (Ac (Ac (Aa 0) (Ac (Aa 1) (ia 0) ixD) ixD) (ia 1) ixD) (Ac (Aa 1) (ia 1) ixD) ixD) (ia 2) ixD))
def Ed(EM Lb:Fn):M Out:=
 (Af (ifS (fOr (Ct (Am (fB (Ab (Aa 1) (Ab (fC (.ty "tuple")) Ad)) Da))) (Am (Ac (fB (Ab (Aa 1) Ad) AY) (ia 3) (eqS λb=>!b))))
   (An (fC .non))
   Aq)
 (Af (ifS (fOr (Ct (Am (fB (Ab (Ac (Aa 1) (ia 0) ixD) (Ab (fC (.ty "str")) Ad)) Da))) (Am (Ac (Ac (Aa 1) (ia 0) ixD) (Ac (Aa 0) (ia 0) ixD) (eqS λb=>!b))))
   (An (fC .non))
   Aq)
 (Af (setS 2 (Ak Lb (Ab (Aa 0) (Ab (Ac (Aa 1) (ia 1) ixD) Ad))))
 (Af (ifS (fOr (Am (Ac (Aa 2) (fC .non) isC)) (Ct (Am (Ak EM (Ab (Ac (Ac (Ac (Aa 0) (ia 1) ixD) (Aa 2) ixD) (ia 1) ixD) (Ab (Ac (Aa 1) (ia 2) ixD) Ad))))))
   (An (fC .non))
   Aq)
 (An (Aa 2))))))
def FB(N5:Fn):M Out:=
 (Af (ifS (Ct (Am (fB (Ab (Aa 1) (Ab (fC (.ty "str")) Ad)) Da)))
   (An (fC .non))
   Aq)
 (Af (setS 2 (Ak N5 (Ab (Aa 0) Ad)))
 (Af (B7 (Do (Ab (fB (Ab (Aa 2) Ad) AY) Ad)) (AE 3)
   (ifS (Am (Ac (Ac (Ac (Aa 2) (Aa 3) ixD) (ia 0) ixD) (Aa 1) (eqS id)))
   (An (Aa 3))
   Aq))
 (An (fC .non)))))
def HF(Fl:Fn):M Out:=
 (An (fIf (Am (Ak Fl (Ab (Aa 0) Ad))) (AL Ad) (Ac (Aa 0) (ia 1) ixD)))
def Eb:M Out:=
 (An (Ac (Ac (Aa 0) (ia 0) ixD) (fC (.str "end")) (eqS id)))
def EZ(B5 E6 Ki:Fn):M Out:=
 (Af (setS 2 (Ac (Aa 0) (ia 0) ixD))
 (Af (ifS (Am (Ac (Aa 2) (fC (.str "nothing")) (eqS id)))
   (HK (AC Ad))
   Aq)
 (Af (ifS (Am (Ac (Aa 2) (fC (.str "number")) (eqS id)))
   (HK (Ez Ki (Ab (Ac (Aa 1) (Ac (Aa 0) (ia 1) ixD) CO) (Ab (Ak E6 (Ab (Ac (Ac (Aa 0) (ia 2) ixD) (Ac (Aa 0) (ia 1) ixD) CO) Ad)) Ad))))
   Aq)
 (Af (ifS (Am (Ac (Aa 2) (fC (.str "text")) (eqS id)))
   (HK (bnd (Au (AC (Ab (fB (Ab (Aa 1) Ad) AY) Ad))) λx=>bnd (Au (CL 1 [] (Dn (Aa 1)) (AE 0) G7 (fB (Ab (Aa 0) Ad) JT))) λy=>Io x y))
   Aq)
 (Af (ifS (Am (Ac (Aa 2) (fC (.str "list")) (eqS id)))
   (Af (Ef 3 (AC (Ab (fB (Ab (Aa 1) Ad) AY) Ad)))
 (Af (B7 (Dn (Aa 1)) (AE 4)
   (ownM 3 EV (Ab (Au (Ez B5 (Ab (Ac (Aa 0) (ia 1) ixD) (Ab (Aa 4) Ad)))) Ad)))
 (Hi 3)))
   Aq)
 (Af (ifS (Am (Ac (Aa 2) (fC (.str "pair")) (eqS id)))
   (HK (bnd (Au (Ez B5 (Ab (Ac (Aa 0) (ia 1) ixD) (Ab (Ac (Aa 1) (ia 0) ixD) Ad)))) λx=>bnd (Au (Ez B5 (Ab (Ac (Aa 0) (ia 2) ixD) (Ab (Ac (Aa 1) (ia 1) ixD) Ad)))) λy=>Io x y))
   Aq)
 (HK (bnd (Au (AC (Ab (Ac (Aa 1) (ia 1) ixD) Ad))) λx=>bnd (Au (Ez B5 (Ab (Ac (Ac (Aa 0) (ia 1) ixD) (Ac (Aa 1) (ia 1) ixD) ixD) (Ab (Ac (Aa 1) (ia 2) ixD) Ad)))) λy=>Io x y))))))))
def FC:M Out:=
 (An (Ac (Ac (fUn (Aa 0) Kb) (ia 7) AU) (ia 8) Bv))
def Fb(Hs:Fn):M Out:=
 (HK (CL 1 [0,1] (GN (Ab (ia 1) (Ab (Ac (Aa 1) (ia 1) AU) Ad))) (AE 0) G7 (Ac (Ak Hs (Ab (Aa 1) (Ab (Ac (Aa 2) (Aa 0) CO) Ad))) (ia 256) Bz)))
def ID:M Out:=
 (An (Ac (Aa 0) (Ac (ia 8) (Aa 1) CN) NT))
def DZ(Lc MZ MY M0 Ld:Fn):M Out:=
 (Af (setS 3 (Ac (Aa 0) (ia 0) ixD))
 (Af (ifS (Am (Ac (Aa 3) (fC (.str "nothing")) (eqS id)))
   (An (nxD (AL (Ab (fC .non) (Ab (Aa 2) Ad)))))
   Aq)
 (Af (ifS (Am (Ac (Aa 3) (fC (.str "number")) (eqS id)))
   (An (Ak Ld (Ab (Aa 0) (Ab (Aa 1) (Ab (Aa 2) Ad)))))
   Aq)
 (Af (ifS (Am (Ac (Aa 3) (fC (.str "text")) (eqS id)))
   (An (Ak M0 (Ab (Aa 0) (Ab (Aa 1) (Ab (Aa 2) Ad)))))
   Aq)
 (Af (ifS (Am (Ac (Aa 3) (fC (.str "list")) (eqS id)))
   (An (Ak MY (Ab (Aa 0) (Ab (Aa 1) (Ab (Aa 2) Ad)))))
   Aq)
 (Af (ifS (Am (Ac (Aa 3) (fC (.str "pair")) (eqS id)))
   (An (Ak MZ (Ab (Aa 0) (Ab (Aa 1) (Ab (Aa 2) Ad)))))
   Aq)
 (An (Ak Lc (Ab (Aa 0) (Ab (Aa 1) (Ab (Aa 2) Ad)))))))))))
def Gq:M Out:=
 (Af (ifS (Am (Ac (Aa 1) (fB (Ab (Aa 0) Ad) AY) geA))
   (Fs "Short" (Ab (fC (.str "the bytes end within a value")) Ad))
   Aq)
 (An (nxD (Ac (Aa 0) (Aa 1) ixD))))
def Es(Pp DH:Fn):M Out:=
 (Af (setX 3 (Ak DH (Ab (Ac (Aa 0) (ia 1) ixD) (Ab (Aa 1) (Ab (Aa 2) Ad)))))
 (Af (setS 4 (Ac (Aa 2) (ia 1) AU))
 (Af (setS 5 (fC (.str "")))
 (Af (B7 (Do (Ab (Aa 3) Ad)) (AE 6)
   (setX 5 (IY (Aa 5) (Ak Pp (Ab (Aa 1) (Ab (Ac (Aa 4) (Aa 6) AU) Ad))) AU)))
 (An (nxD (AL (Ab (Aa 5) (Ab (Ac (Aa 4) (Aa 3) AU) Ad)))))))))
def Eo(BZ DH:Fn):M Out:=
 (Af (setX 3 (Ak DH (Ab (Ac (Aa 0) (ia 2) ixD) (Ab (Aa 1) (Ab (Aa 2) Ad)))))
 (Af (setS 4 (Ac (Aa 2) (ia 1) AU))
 (Af (Ef 5 (AC Ad))
 (Af (B7 (Do (Ab (Aa 3) Ad)) (AE 6)
   (Af (setX 7 (Ak BZ (Ab (Ac (Aa 0) (ia 1) ixD) (Ab (Aa 1) (Ab (Aa 4) Ad)))))
 (Af (ownM 5 BH (Ab (Ac (Aa 7) (ia 0) ixD) Ad))
 (setS 4 (Ac (Aa 7) (ia 1) ixD)))))
 (An (nxD (AL (Ab (Aa 5) (Ab (Aa 4) Ad)))))))))
def Ep(BZ:Fn):M Out:=
 (Af (setX 3 (Ak BZ (Ab (Ac (Aa 0) (ia 1) ixD) (Ab (Aa 1) (Ab (Aa 2) Ad)))))
 (Af (setX 4 (Ak BZ (Ab (Ac (Aa 0) (ia 2) ixD) (Ab (Aa 1) (Ab (Ac (Aa 3) (ia 1) ixD) Ad)))))
 (An (nxD (AL (Ab (AL (Ab (Ac (Aa 3) (ia 0) ixD) (Ab (Ac (Aa 4) (ia 0) ixD) Ad))) (Ab (Ac (Aa 4) (ia 1) ixD) Ad)))))))
def Dy(BZ DH:Fn):M Out:=
 (Af (setX 3 (Ak DH (Ab (Ac (fB (Ab (Ac (Aa 0) (ia 1) ixD) Ad) AY) (ia 1) CO) (Ab (Aa 1) (Ab (Aa 2) Ad)))))
 (Af (setX 4 (Ak BZ (Ab (Ac (Ac (Aa 0) (ia 1) ixD) (Aa 3) ixD) (Ab (Aa 1) (Ab (Ac (Aa 2) (ia 1) AU) Ad)))))
 (An (nxD (AL (Ab (AL (Ab (fC (.str "of")) (Ab (Aa 3) (Ab (Ac (Aa 4) (ia 0) ixD) Ad)))) (Ab (Ac (Aa 4) (ia 1) ixD) Ad)))))))
def E1(B5:Fn):M Out:=
 (An (Ac (Au (AC (Ab (Aa 1) Ad))) (Au (Ez B5 (Ab (Ac (Ac (Ac (Aa 0) (ia 1) ixD) (Aa 1) ixD) (ia 1) ixD) (Ab (Aa 2) Ad)))) AU))
def Cq(Kh:Fn):M Out:=
 (Af (C3 "grammar" (Ak Kh (Ab (Aa 1) Ad)) (Aa 0))
 (Af (C3 "standing" (ia 0) (Aa 0))
 (Af (C3 "wires" (Fq []) (Aa 0))
 (Af (C3 "places" (Fq []) (Aa 0))
 (B7 (Dn (Aa 2)) (AE 3)
   (Af (Cg (D4 (AC Ad)) (D0 (Bq "wires" (Aa 0)) (Aa 3)))
 (Cg (ia 0) (D0 (Bq "places" (Aa 0)) (Aa 3)))))))))
def CD:M Out:=
 (An (Bq "standing" (Aa 0)))
def Bx:M Out:=
 (An (Ac (fB (Ab (Ac (Bq "wires" (Aa 0)) (Aa 1) As) Ad) AY) (Ac (Bq "places" (Aa 0)) (Aa 1) As) CO))
def TR:M Out:=
 (Hm (Am (fC (.bl true)))
   Aq)
def Gs:M Out:=
 (An (fIf (Am (Ac (Aa 0) (fC (.str "left")) (eqS id))) (fC (.str "right")) (fC (.str "left"))))
def DJ(BA Ij:Fn):M Out:=
 (Af (Dm (Ak Ij (Ab (Aa 0) (Ab (Aa 1) (Ab (AL (Ab (Ak BA (Ab (Aa 2) Ad)) Ad)) Ad)))))
 (C3 "side" (Aa 2) (Aa 0)))
def D9(JI Mq Mp:Fn):M Out:=
 (Af (setS 3 (Ac (Bq "grammar" (Aa 0)) (Bq "standing" (Aa 0)) ixD))
 (Af (setS 4 (Ak Mp (Ab (Aa 3) (Ab (AL (Ab (Bq "side" (Aa 0)) (Ab (Aa 1) (Ab (Aa 2) Ad)))) Ad))))
 (Af (ifS (Am (Ac (Aa 4) (fC .non) isC))
   (IN "NoTalk" (Ab (ia 0) Ad))
   Aq)
 (Af (C3 "standing" (Ak Mq (Ab (Bq "grammar" (Aa 0)) (Ab (AL (Ab (Bq "standing" (Aa 0)) (Ab (Aa 4) Ad))) Ad))) (Aa 0))
 (An (nxD (Ak JI (Ab (Aa 3) (Ab (Aa 4) (Ab (Aa 2) Ad))))))))))
def De(Fl:Fn):M Out:=
 (An (Au (Gf 1 [] (Li (Aa 0)) (AE 0) G7 (fIf (Am (Ak Fl (Ab (Aa 0) Ad))) (Aa 0) (AL (Ab (Ac (Aa 0) (ia 0) ixD) (Ab (Au (fBF (Ab (Ac (Aa 0) (ia 1) ixD) Ad) Gp)) Ad)))))))
def DK(Mn:Fn):M Out:=
 (An (AT "Side" Mn (Aa 0) (Ab (Aa 1) (Ab (Aa 2) Ad))))
def Fa(K8:Fn):M Out:=
 (An (AT "Side" K8 (Aa 0) (Ab (Aa 1) Ad)))
def DW:M Out:=
 (Af (ifS (Am (Ac (Aa 1) (fB (Ab (Aa 0) Ad) AY) ltA))
   (An (Ac (Aa 0) (Aa 1) ixD))
   Aq)
 (An (Ac (Ac (Ac (Ac (ia 23) (Aa 1) CN) (Aa 1) CN) (Ac (ia 13) (Aa 1) CN) AU) (ia 5) AU)))
def Fz:M Out:=
 (Af (setS 2 (Ac (Ac (Ac (Ac (Ac (Aa 0) (ia 48271) CN) (Ac (Ac (ia 7919) (Aa 1) CN) (Aa 1) CN) AU) (Ac (ia 104729) (Aa 1) CN) AU) (ia 11) AU) (ia 2147483647) Bz))
 (Af (setS 2 (Ac (Ac (Aa 2) (Aa 2) CN) (ia 2147483629) Bz))
 (An (Ac (Ac (Ac (Aa 2) (Aa 2) CN) (Ac (Aa 2) (ia 1000003) CN) AU) (Aa 0) AU))))
def CG(EB:Fn):M Out:=
 (Af (setS 2 (Ac (Aa 0) (ia 7) Bz))
 (Af (setS 0 (Ac (Aa 0) (ia 7) Bv))
 (Af (ifS (fOr (Am (Ac (Aa 2) (ia 2) ltA)) (Am (Ac (Aa 1) (ia 0) (eqS id))))
   (Af (setS 3 (Ac (Ac (Aa 0) (ia 9) Bz) (ia 4) CO))
 (An (Au (AC (Ab (AL (Ab (fC (.str "number")) (Ab (Aa 3) (Ab (Ac (Aa 3) (Ac (Au (AC (Ab (ia 0) (Ab (ia 1) (Ab (ia 255) (Ab (ia 256) (Ab (ia 300) (Ab (ia 70000) Ad)))))))) (Ac (Ac (Aa 0) (ia 9) Bv) (ia 6) Bz) ixD) AU) Ad)))) (Ab (Ac (Aa 0) (ia 54) Bv) Ad))))))
   Aq)
 (Af (ifS (Am (Ac (Aa 2) (ia 2) (eqS id)))
   (An (Au (AC (Ab (AL (Ab (fC (.str "nothing")) Ad)) (Ab (Aa 0) Ad)))))
   Aq)
 (Af (ifS (Am (Ac (Aa 2) (ia 3) (eqS id)))
   (An (Au (AC (Ab (AL (Ab (fC (.str "text")) (Ab (Ac (Aa 0) (ia 4) Bz) Ad))) (Ab (Ac (Aa 0) (ia 4) Bv) Ad)))))
   Aq)
 (Af (Cg (Ak EB (Ab (Aa 0) (Ab (Ac (Aa 1) (ia 1) CO) Ad))) (unS 2 (AR (AE 4) (AR (AE 0) Cl))))
 (Af (ifS (Am (Ac (Aa 2) (ia 4) (eqS id)))
   (An (Au (AC (Ab (AL (Ab (fC (.str "list")) (Ab (Aa 4) (Ab (Ac (Aa 0) (ia 4) Bz) Ad)))) (Ab (Ac (Aa 0) (ia 4) Bv) Ad)))))
   Aq)
 (Af (Cg (Ak EB (Ab (Aa 0) (Ab (Ac (Aa 1) (ia 1) CO) Ad))) (unS 2 (AR (AE 5) (AR (AE 0) Cl))))
 (Af (ifS (Am (Ac (Aa 2) (ia 5) (eqS id)))
   (An (Au (AC (Ab (AL (Ab (fC (.str "pair")) (Ab (Aa 4) (Ab (Aa 5) Ad)))) (Ab (Aa 0) Ad)))))
   Aq)
 (An (Au (AC (Ab (AL (Ab (fC (.str "choice")) (Ab (AL (Ab (Aa 4) (Ab (Aa 5) Ad))) Ad))) (Ab (Aa 0) Ad))))))))))))))
def EI(CS:Fn):M Out:=
 (Af (setS 2 (Ac (Aa 0) (ia 0) ixD))
 (Af (ifS (Am (Ac (Aa 2) (fC (.str "nothing")) (eqS id)))
   (An (Au (AC (Ab (fC .non) (Ab (Aa 1) Ad)))))
   Aq)
 (Af (ifS (Am (Ac (Aa 2) (fC (.str "number")) (eqS id)))
   (Af (setS 3 (Ac (Ac (Ac (Aa 0) (ia 2) ixD) (Ac (Aa 0) (ia 1) ixD) CO) (ia 1) AU))
 (An (Au (AC (Ab (Ac (Ac (Aa 0) (ia 1) ixD) (Ac (Aa 1) (Aa 3) Bz) AU) (Ab (Ac (Aa 1) (Aa 3) Bv) Ad))))))
   Aq)
 (Af (ifS (Am (Ac (Aa 2) (fC (.str "text")) (eqS id)))
   (Af (setS 4 (Ac (Aa 1) (Ac (Ac (Aa 0) (ia 1) ixD) (ia 1) AU) Bz))
 (Af (setS 5 (Ac (Ac (fC (.str " az~Q0")) (Ac (Ac (Aa 1) (ia 7) Bv) (ia 6) Bz) ixD) (Aa 4) CN))
 (An (Au (AC (Ab (Aa 5) (Ab (Ac (Ac (Aa 1) (ia 7) Bv) (Ac (Ac (Aa 0) (ia 1) ixD) (ia 1) AU) Bv) Ad)))))))
   Aq)
 (Af (ifS (Am (Ac (Aa 2) (fC (.str "list")) (eqS id)))
   (Af (setS 4 (Ac (Aa 1) (Ac (Ac (Aa 0) (ia 2) ixD) (ia 1) AU) Bz))
 (Af (setS 1 (Ac (Aa 1) (Ac (Ac (Aa 0) (ia 2) ixD) (ia 1) AU) Bv))
 (Af (Ef 6 (AC Ad))
 (Af (B7 (Do (Ab (Aa 4) Ad)) (AE 7)
   (Af (Cg (Ak CS (Ab (Ac (Aa 0) (ia 1) ixD) (Ab (Ac (Aa 1) (Aa 7) AU) Ad))) (unS 2 (AR (AE 8) (AR (AE 1) Cl))))
 (ownM 6 BH (Ab (Aa 8) Ad))))
 (An (Au (AC (Ab (Aa 6) (Ab (Aa 1) Ad)))))))))
   Aq)
 (Af (ifS (Am (Ac (Aa 2) (fC (.str "pair")) (eqS id)))
   (Af (Cg (Ak CS (Ab (Ac (Aa 0) (ia 1) ixD) (Ab (Aa 1) Ad))) (unS 2 (AR (AE 8) (AR (AE 1) Cl))))
 (Af (Cg (Ak CS (Ab (Ac (Aa 0) (ia 2) ixD) (Ab (Aa 1) Ad))) (unS 2 (AR (AE 9) (AR (AE 1) Cl))))
 (An (Au (AC (Ab (AL (Ab (Aa 8) (Ab (Aa 9) Ad))) (Ab (Aa 1) Ad)))))))
   Aq)
 (Af (setS 7 (Ac (Aa 1) (fB (Ab (Ac (Aa 0) (ia 1) ixD) Ad) AY) Bz))
 (Af (Cg (Ak CS (Ab (Ac (Ac (Aa 0) (ia 1) ixD) (Aa 7) ixD) (Ab (Ac (Aa 1) (fB (Ab (Ac (Aa 0) (ia 1) ixD) Ad) AY) Bv) Ad))) (unS 2 (AR (AE 8) (AR (AE 1) Cl))))
 (An (Au (AC (Ab (AL (Ab (fC (.str "of")) (Ab (Aa 7) (Ab (Aa 8) Ad)))) (Ab (Aa 1) Ad)))))))))))))
def Dx:M Out:=
 (Af (Ef 2 (AC Ad))
 (Af (Hm (Am (Ac (Aa 1) (ia 0) gtA))
   (Af (ownM 2 BH (Ab (Ac (Aa 0) (ia 256) Bz) Ad))
 (Af (setS 0 (Ac (Aa 0) (ia 256) Bv))
 (setS 1 (Ac (Aa 1) (ia 256) Bv)))))
 (An (Au (fBF (Ab (Aa 2) Ad) Lx)))))
def EH(CQ Hq:Fn):M Out:=
 (Af (setS 2 (Ac (Aa 0) (ia 0) ixD))
 (Af (ifS (Am (Ac (Aa 2) (fC (.str "nothing")) (eqS id)))
   (An (Au (AC Ad)))
   Aq)
 (Af (ifS (Am (Ac (Aa 2) (fC (.str "number")) (eqS id)))
   (An (Ak Hq (Ab (Ac (Aa 1) (Ac (Aa 0) (ia 1) ixD) CO) (Ab (Ac (Ac (Aa 0) (ia 2) ixD) (Ac (Aa 0) (ia 1) ixD) CO) Ad))))
   Aq)
 (Af (ifS (Am (Ac (Aa 2) (fC (.str "text")) (eqS id)))
   (Af (setS 3 (fC (.str " !\"#$&'()*+,-./0123456789:;<=>?@ABCDEFGHIJKLMNOPQRSTUVWXYZ[\\]^_`abcdefghijklmnopqrstuvwxyz{|}~")))
 (Af (setS 4 (Au (CL 1 [] (Do (Ab (fB (Ab (Aa 3) Ad) AY) Ad)) (AE 0) G7 (Ac (Ac (ia 32) (Aa 0) AU) (fB (Ab (Ac (Aa 0) (ia 4) gtA) Ad) JO) AU))))
 (An (Ac (Au (AC (Ab (fB (Ab (Aa 1) Ad) AY) Ad))) (Au (CL 1 [4,3] (Dn (Aa 1)) (AE 0) G7 (Ac (Aa 1) (findM (Aa 2) (Ab (Aa 0) Ad)) ixD))) AU))))
   Aq)
 (Af (Ef 5 (AC Ad))
 (Af (ifS (Am (Ac (Aa 2) (fC (.str "list")) (eqS id)))
   (Af (ownM 5 BH (Ab (fB (Ab (Aa 1) Ad) AY) Ad))
 (Af (B7 (Dn (Aa 1)) (AE 6)
   (Ef 5 (bnd (Aa 5) λx=>bnd (Ak CQ (Ab (Ac (Aa 0) (ia 1) ixD) (Ab (Aa 6) Ad))) λy=>Io x y)))
 (An (Aa 5))))
   Aq)
 (Af (ifS (Am (Ac (Aa 2) (fC (.str "pair")) (eqS id)))
   (An (Ac (Ak CQ (Ab (Ac (Aa 0) (ia 1) ixD) (Ab (Ac (Aa 1) (ia 0) ixD) Ad))) (Ak CQ (Ab (Ac (Aa 0) (ia 2) ixD) (Ab (Ac (Aa 1) (ia 1) ixD) Ad))) AU))
   Aq)
 (An (Ac (Au (AC (Ab (Ac (Aa 1) (ia 1) ixD) Ad))) (Ak CQ (Ab (Ac (Ac (Aa 0) (ia 1) ixD) (Ac (Aa 1) (ia 1) ixD) ixD) (Ab (Ac (Aa 1) (ia 2) ixD) Ad))) AU)))))))))
def Ea(EB Ch Mo:Fn):M Out:=
 (Af (setS 3 (Ac (ia 1) (Ac (Ak Ch (Ab (Aa 0) (Ab (ia 0) Ad))) (ia 6) Bz) AU))
 (Af (Ef 4 (AC Ad))
 (Af (B7 (Do (Ab (Aa 3) Ad)) (AE 5)
   (Af (setS 6 (Ak Ch (Ab (Aa 0) (Ab (Ac (Aa 1) (Aa 5) AU) Ad))))
 (Af (ifS (Am (Ac (Ac (Ac (Ak Ch (Ab (Aa 0) (Ab (ia 0) Ad))) (ia 6) Bv) (ia 2) Bz) (ia 1) (eqS id)))
   (setS 6 (Ak Mo (Ab (Aa 6) (Ab (Aa 5) Ad))))
   Aq)
 (Af (setS 7 (Ac (Aa 6) (ia 5) Bz))
 (Af (setS 6 (Ac (Aa 6) (ia 5) Bv))
 (Af (ifS (fOr (Fy (Am (Ac (Aa 7) (ia 0) (eqS id))) (Am (Ac (Aa 5) (ia 0) gtA))) (Fy (Am (Aa 2)) (Am (Ac (Aa 5) (Ac (Aa 3) (ia 1) CO) (eqS id)))))
   (Af (ownM 4 BH (Ab (AL (Ab (fC (.str "end")) Ad)) Ad))
 (ret .cont))
   Aq)
 (Af (Ef 8 (AC Ad))
 (Af (B7 (Do (Ab (Ac (ia 1) (Ac (Aa 6) (ia 3) Bz) AU) Ad)) (AE 9)
   (Af (setS 6 (Ac (Aa 6) (ia 3) Bv))
 (Af (setS 10 (Ac (Aa 6) (Aa 3) Bz))
 (Af (Cg (Ak EB (Ab (Ac (Aa 6) (Aa 3) Bv) (Ab (ia 2) Ad))) (unS 2 (AR (AE 11) (AR (AE 6) Cl))))
 (ownM 8 BH (Ab (AL (Ab (Ac (Ac (fC (.str "abc")) (Aa 9) ixD) (Ac (ia 1) (Ac (Aa 5) (ia 3) Bz) AU) CN) (Ab (Aa 11) (Ab (Aa 10) Ad)))) Ad))))))
 (ownM 4 BH (Ab (AL (Ab (Ac (Au (AC (Ab (fC (.str "left")) (Ab (fC (.str "right")) Ad)))) (Ac (Aa 6) (ia 2) Bz) ixD) (Ab (Aa 8) Ad))) Ad))))))))))
 (An (Aa 4)))))
def EG(BA K7:Fn):M Out:=
 (An (AT "Side" K7 (Aa 0) (Ab (Ak BA (Ab (Bq "side" (Aa 0)) Ad)) (Ab (Aa 1) Ad))))
def BG(BA HX:Fn):M Out:=
 (An (AT "Side" HX (Aa 0) (Ab (Ak BA (Ab (Bq "side" (Aa 0)) Ad)) Ad)))
def EY(ET:Fn):M Out:=
 (Af (setX 3 (Ak ET (Ab (Aa 1) (Ab (Aa 2) Ad))))
 (Af (ifS (Am (Ac (Aa 3) (Aa 0) gtA))
   fail
   Aq)
 (An (nxD (Aa 3)))))
def Dz(Hs ET E6:Fn):M Out:=
 (Af (setS 3 (Ac (Ac (Aa 0) (ia 2) ixD) (Ac (Aa 0) (ia 1) ixD) CO))
 (Af (setS 4 (Ak E6 (Ab (Aa 3) Ad)))
 (Af (setS 5 (ia 0))
 (Af (B7 (Do (Ab (Aa 4) Ad)) (AE 6)
   (Af (setX 5 (IY (Ac (Aa 5) (ia 256) CN) (Ak ET (Ab (Aa 1) (Ab (Ac (Aa 2) (Aa 6) AU) Ad))) AU))
 (ifS (Am (Ac (Aa 5) (Ak Hs (Ab (Aa 3) (Ab (Ac (Ac (Aa 4) (ia 1) CO) (Aa 6) CO) Ad))) gtA))
   fail
   Aq)))
 (An (nxD (AL (Ab (Ac (Ac (Aa 0) (ia 1) ixD) (Aa 5) AU) (Ab (Ac (Aa 2) (Aa 4) AU) Ad)))))))))
def Gv(Hr ET:Fn):M Out:=
 (Af (setX 2 (Ak ET (Ab (Aa 0) (Ab (Aa 1) Ad))))
 (Af (ifS (Ct (Am (Ak Hr (Ab (Aa 2) Ad))))
   fail
   Aq)
 (An (nxD (Ac (fC (.str " !\"#$ &'()*+,-./0123456789:;<=>?@ABCDEFGHIJKLMNOPQRSTUVWXYZ[\\]^_`abcdefghijklmnopqrstuvwxyz{|}~")) (Ac (Aa 2) (ia 32) CO) ixD)))))
def Ew(BZ:Fn):M Out:=
 (Af (ifS (Am (Ac (Aa 2) (fB (Ab (Aa 1) Ad) AY) geA))
   (An (fC .non))
   Aq)
 (Af (ifS (Am (Ac (Ac (Aa 1) (Aa 2) ixD) (fB (Ab (Ac (Aa 0) (ia 1) ixD) Ad) AY) geA))
   fail
   Aq)
 (Af (setS 3 (Ac (Ac (Aa 0) (ia 1) ixD) (Ac (Aa 1) (Aa 2) ixD) ixD))
 (Af (FG (setX 4 (Ak BZ (Ab (Ac (Aa 3) (ia 1) ixD) (Ab (Aa 1) (Ab (Ac (Aa 2) (ia 1) AU) Ad))))) (hNo "Short" (An (fC .non)) (hAs "Broken" 5 fail TD)))
 (An (AL (Ab (AL (Ab (Ac (Aa 0) (ia 0) ixD) (Ab (Ac (Aa 3) (ia 0) ixD) (Ab (Ac (Aa 4) (ia 0) ixD) Ad)))) (Ab (Ac (Aa 3) (ia 2) ixD) (Ab (Ac (Aa 4) (ia 1) ixD) Ad)))))))))
def Gu(Kj:Fn):M Out:=
 (Af (Ef 4 (AC Ad))
 (Af (setS 5 (Aa 1))
 (Af (setS 6 (fB (Ab (Aa 3) Ad) IW))
 (Af (Hm (Am (Ac (Ac (Ac (Aa 0) (Aa 5) ixD) (ia 0) ixD) (Aa 2) (inS false)))
   (Af (setS 7 (Ac (Ac (Aa 0) (Aa 5) ixD) (ia 0) ixD))
 (Af (setS 8 (Ak Kj (Ab (Ac (Aa 0) (Aa 5) ixD) (Ab (Ac (Aa 2) (Aa 7) As) (Ab (Ac (Aa 6) (Aa 7) As) Ad)))))
 (Af (ifS (Am (Ac (Aa 8) (fC .non) isC))
   (ret .brk)
   Aq)
 (Af (ownM 4 BH (Ab (Ac (Aa 8) (ia 0) ixD) Ad))
 (Af (setS 5 (Ac (Aa 8) (ia 1) ixD))
 (Cg (Ac (Aa 8) (ia 2) ixD) (D0 (Aa 6) (Aa 7)))))))))
 (An (AL (Ab (Aa 4) (Ab (Aa 5) (Ab (Aa 6) Ad)))))))))
def BM(Il:Fn):M Out:=
 (Af (ifS (fOr (Ct (Am (fB (Ab (Aa 0) (Ab (fC (.ty "tuple")) Ad)) Da))) (Am (Ac (fB (Ab (Aa 0) Ad) AY) (Aa 2) (eqS λb=>!b))))
   (An (fC (.bl false)))
   Aq)
 (An (Dd (Ak Il (Ab (Ac (Aa 0) (ia 0) ixD) (Ab (AL (Ab (Aa 1) Ad)) Ad))) (Ak Il (Ab (Ac (Aa 0) (ia 1) ixD) (Ab (fC (.gts ["left", "right"])) Ad))))))
def Bd:M Out:=
 (An (Dd (fB (Ab (Aa 0) (Ab (fC (.ty "str")) Ad)) Da) (Ac (Aa 0) (Aa 1) (inD false))))
def EF(Po:Fn):M Out:=
 (Af (Dm (objM EV (Ac (Bq "wires" (Aa 0)) (Aa 1) As) (Ab (Aa 2) Ad)))
 (Af (setS 3 (Ak Po (Ab (Bq "grammar" (Aa 0)) (Ab (Bq "standing" (Aa 0)) (Ab (Bq "wires" (Aa 0)) (Ab (Bq "places" (Aa 0)) Ad))))))
 (Af (C3 "standing" (Ac (Aa 3) (ia 1) ixD) (Aa 0))
 (Af (C3 "places" (Ac (Aa 3) (ia 2) ixD) (Aa 0))
 (An (Ac (Aa 3) (ia 0) ixD))))))
def BX:M Out:=
 (An (Ac (Ac (Ac (Bq "grammar" (Aa 0)) (Bq "standing" (Aa 0)) ixD) (ia 0) ixD) (Bq "side" (Aa 0)) (eqS id)))
def Bt(Fl:Fn):M Out:=
 (An (Ak Fl (Ab (Ac (Bq "grammar" (Aa 0)) (Bq "standing" (Aa 0)) ixD) Ad)))
def DV(F8:Fn):M Out:=
 (Af (C3 "left" (Hv "Side" F8 (Ab (Aa 1) (Ab (fC (.str "left")) Ad))) (Aa 0))
 (Af (C3 "right" (Hv "Side" F8 (Ab (Aa 1) (Ab (fC (.str "right")) Ad))) (Aa 0))
 (C3 "under_way" (El [("left",(D4 (AC Ad))),("right",(D4 (AC Ad)))]) (Aa 0))))
def Ar:M Out:=
 (An (fIf (Am (Ac (Aa 1) (fC (.str "left")) (eqS id))) (Bq "left" (Aa 0)) (Bq "right" (Aa 0))))
def D8(BA Cz Ke:Fn):M Out:=
 (Af (setS 1 (Au (CL 1 [0] (Dn (fC (.gts ["left", "right"]))) (AE 0) (Am (AT "Side" Ke (AT "Parley" Cz (Aa 1) (Ab (Aa 0) Ad)) (ret []))) (AL (Ab (fC (.str "say")) (Ab (Aa 0) Ad))))))
 (Af (setS 2 (Au (CL 1 [0] (Dn (fC (.gts ["left", "right"]))) (AE 0) (Am (Ac (fB (Ab (Ac (Bq "under_way" (Aa 1)) (Ak BA (Ab (Aa 0) Ad)) As) Ad) AY) (ia 0) gtA)) (AL (Ab (fC (.str "take")) (Ab (Aa 0) Ad))))))
 (An (Ac (Aa 1) (Aa 2) AU))))
def By(ES GL FJ:Fn):M Out:=
 (Af (setS 1 (Dd (AT "Side" FJ (Bq "left" (Aa 0)) (ret [])) (AT "Side" FJ (Bq "right" (Aa 0)) (ret []))))
 (Af (setS 2 (Ac (AT "Side" GL (Bq "left" (Aa 0)) (ret [])) (AT "Side" GL (Bq "right" (Aa 0)) (ret [])) AU))
 (An (Dd (Aa 1) (Dd (Ac (Aa 2) (ia 0) (eqS id)) (Ac (AT "Parley" ES (Aa 0) (ret [])) (AL (Ab (ia 0) (Ab (ia 0) Ad))) (eqS id)))))))
def CZ(GK:Fn):M Out:=
 (An (AL (Ab (AT "Side" GK (Bq "left" (Aa 0)) (ret [])) (Ab (AT "Side" GK (Bq "right" (Aa 0)) (ret [])) Ad))))
def BD:M Out:=
 (An (AL (Ab (fB (Ab (Ac (Bq "under_way" (Aa 0)) (fC (.str "left")) As) Ad) AY) (Ab (fB (Ab (Ac (Bq "under_way" (Aa 0)) (fC (.str "right")) As) Ad) AY) Ad))))
def CA:M Out:=
 (Af (Ef 2 (AC Ad))
 (Af (B7 (Dn (Au (AC (Ab (fC (.str "left")) (Ab (fC (.str "right")) Ad))))) (AE 3)
   (ifS (Am (Ac (Ac (Ac (Aa 0) (Ac (Ac (Aa 1) (fC (.str "states")) As) (Aa 3) As) ixD) (ia 0) ixD) (Aa 3) (eqS id)))
   (ownM 2 BH (Ab (AL (Ab (fC (.str "say")) (Ab (Aa 3) Ad))) Ad))
   Aq))
 (Af (B7 (Dn (Au (AC (Ab (AL (Ab (fC (.str "left")) (Ab (fC (.str "right")) Ad))) (Ab (AL (Ab (fC (.str "right")) (Ab (fC (.str "left")) Ad))) Ad))))) (unS 2 (AR (AE 3) (AR (AE 4) Cl)))
   (ifS (Am (Ac (Ac (Ac (Aa 1) (fC (.str "wires")) As) (Aa 4) As) (Au (AC Ad)) (eqS λb=>!b)))
   (ownM 2 BH (Ab (AL (Ab (fC (.str "take")) (Ab (Aa 3) Ad))) Ad))
   Aq))
 (An (Aa 2)))))
def Di(D1 CQ CS:Fn):M Out:=
 (Af (setS 5 (Ac (Ac (Aa 1) (Ac (Ac (Aa 2) (fC (.str "states")) As) (Aa 3) As) ixD) (ia 1) ixD))
 (Af (setS 6 (Ac (Aa 4) (fB (Ab (Aa 5) Ad) AY) Bz))
 (Af (Cg (Ac (Aa 5) (Aa 6) ixD) (unS 3 (AR (AE 7) (AR (AE 8) (AR (AE 9) Cl)))))
 (Af (setS 10 (Ac (Ak CS (Ab (Aa 8) (Ab (Ac (Aa 4) (ia 3) Bv) Ad))) (ia 0) ixD))
 (Af (setS 11 (Ac (Au (AC (Ab (Aa 6) Ad))) (Ak CQ (Ab (Aa 8) (Ab (Aa 10) Ad))) AU))
 (Af (Cg (Aa 9) (D0 (Ac (Aa 2) (fC (.str "states")) As) (Aa 3)))
 (Af (Cg (Ac (Ac (Ac (Aa 2) (fC (.str "wires")) As) (Aa 3) As) (Aa 11) AU) (D0 (Ac (Aa 2) (fC (.str "wires")) As) (Aa 3)))
 (Af (Dm (objM BH (Ac (Ac (Aa 2) (fC (.str "said")) As) (Aa 3) As) (Ab (Au (AC (Ab (fB (Ab (Aa 11) Ad) AY) (Ab (AL (Ab (Aa 3) (Ab (Aa 7) (Ab (Aa 10) Ad)))) (Ab (Aa 9) Ad))))) Ad)))
 (Af (setS 12 (AT "Parley" (II D1) (Aa 0) (Ab (AL (Ab (fC (.str "say")) (Ab (Aa 3) (Ab (Aa 7) (Ab (Aa 10) Ad))))) Ad)))
 (Af (Dm (objM BH (Ac (Aa 2) (fC (.str "held")) As) (Ab (Au (AC (Ab (Aa 12) (Ab (Aa 11) Ad)))) Ad)))
 (An (Ac (Aa 12) (Aa 11) (eqS id)))))))))))))
def BT(D1:Fn):M Out:=
 (Af (Cg (fSl (Ac (Ac (Aa 1) (fC (.str "wires")) As) (Aa 3) As) (Hw (Aa 4)) fNo GC) (D0 (Ac (Aa 1) (fC (.str "wires")) As) (Aa 3)))
 (Af (Cg (Ac (Ac (Ac (Aa 1) (fC (.str "come")) As) (Aa 2) As) (Aa 4) AU) (D0 (Ac (Aa 1) (fC (.str "come")) As) (Aa 2)))
 (Af (Ef 5 (AC Ad))
 (Af (Hm (Fy (Am (Ac (Ac (Ac (Aa 1) (fC (.str "said")) As) (Aa 3) As) (Au (AC Ad)) (eqS λb=>!b))) (Am (Ac (Ac (Ac (Aa 1) (fC (.str "come")) As) (Aa 2) As) (Ac (Ac (Ac (Ac (Aa 1) (fC (.str "said")) As) (Aa 3) As) (ia 0) ixD) (ia 0) ixD) geA)))
   (Af (Cg (NF (Ac (Ac (Aa 1) (fC (.str "said")) As) (Aa 3) As) (Ab (ia 0) Ad)) (unS 3 (AR (AE 6) (AR (AE 7) (AR (AE 8) Cl)))))
 (Af (Cg (Ac (Ac (Ac (Aa 1) (fC (.str "come")) As) (Aa 2) As) (Aa 6) CO) (D0 (Ac (Aa 1) (fC (.str "come")) As) (Aa 2)))
 (Af (Cg (Aa 8) (D0 (Ac (Aa 1) (fC (.str "states")) As) (Aa 2)))
 (ownM 5 BH (Ab (Aa 7) Ad))))))
 (Af (setS 9 (AT "Parley" (II D1) (Aa 0) (Ab (AL (Ab (fC (.str "take")) (Ab (Aa 2) (Ab (Aa 4) Ad)))) Ad)))
 (Af (Dm (objM BH (Ac (Aa 1) (fC (.str "held")) As) (Ab (Au (AC (Ab (Aa 9) (Ab (Aa 5) Ad)))) Ad)))
 (An (Ac (Aa 9) (Aa 5) (eqS id)))))))))
def A8(D1:Fn):M Out:=
 (Af (setS 2 (fC .non))
 (Af (FG (setX 2 (AT "Parley" D1 (Aa 0) (Ab (Aa 1) Ad))) (hAs "NoTalk" 3 (setS 2 (Au (AC (Ab (fC (.str "no talk")) (Ab (bnd (Aa 3) (K5 "at")) Ad))))) (hNo "NoRow" (setS 2 (Au (AC (Ab (fC (.str "no row")) Ad)))) TD)))
 (An (Aa 2))))
def C1(EU:Fn):M Out:=
 (Af (B7 (Dn (Au (AC (Ab (AL (Ab (fC (.str "left")) (Ab (fC (.str "right")) Ad))) (Ab (AL (Ab (fC (.str "right")) (Ab (fC (.str "left")) Ad))) Ad))))) (unS 2 (AR (AE 4) (AR (AE 5) Cl)))
   (Af (ifS (Am (Ac (Ak EU (Ab (Aa 0) (Ab (AL (Ab (fC (.str "say")) (Ab (Aa 4) (Ab (fC (.str "none")) (Ab (fC .non) Ad))))) Ad))) (Au (AC (Ab (fC (.str "no talk")) (Ab (ia 0) Ad)))) (eqS λb=>!b)))
   (An (fC (.bl false)))
   Aq)
 (Af (setS 6 (Ac (Aa 1) (Ac (Ac (Aa 2) (fC (.str "states")) As) (Aa 4) As) ixD))
 (Af (ifS (Am (Ac (Ac (Aa 6) (ia 0) ixD) (Aa 4) (eqS id)))
   (Af (setS 7 (AL (Ab (fC (.str "say")) (Ab (Aa 4) (Ab (Ac (Ac (Ac (Aa 6) (ia 1) ixD) (ia 0) ixD) (ia 0) ixD) (Ab (Au (AC (Ab (fC (.str "no")) (Ab (fC (.str "value")) Ad)))) Ad))))))
 (ifS (Am (Ac (Ak EU (Ab (Aa 0) (Ab (Aa 7) Ad))) (Au (AC (Ab (fC (.str "no talk")) (Ab (ia 0) Ad)))) (eqS λb=>!b)))
   (An (fC (.bl false)))
   Aq))
   Aq)
 (Af (setS 8 (Ac (Ac (fB (Ab (Ac (Ac (Aa 2) (fC (.str "wires")) As) (Aa 5) As) Ad) AY) (ia 1) AU) (Ac (Aa 3) (ia 9) Bz) AU))
 (ifS (Am (Ac (Ak EU (Ab (Aa 0) (Ab (AL (Ab (fC (.str "take")) (Ab (Aa 4) (Ab (Aa 8) Ad)))) Ad))) (Au (AC (Ab (fC (.str "no row")) Ad))) (eqS λb=>!b)))
   (An (fC (.bl false)))
   Aq))))))
 (An (fC (.bl true))))
def DY(Ga N4 Ey:Fn):M Out:=
 (Af (setS 4 (Ak Ey (Ab (Aa 1) (Ab (Aa 2) Ad))))
 (Af (setS 5 (Ac (Aa 4) (Ac (Aa 3) (fB (Ab (Aa 4) Ad) AY) Bz) ixD))
 (Af (ifS (Am (Ac (Ac (Aa 5) (ia 0) ixD) (fC (.str "say")) (eqS id)))
   (An (Ak N4 (Ab (Aa 0) (Ab (Aa 1) (Ab (Aa 2) (Ab (Ac (Aa 5) (ia 1) ixD) (Ab (Ac (Aa 3) (ia 3) Bv) Ad)))))))
   Aq)
 (Af (setS 6 (Ac (Au (AC (Ab (fC (.str "left")) (Ab (fC (.str "right")) Ad)))) (fB (Ab (Ac (Ac (Aa 5) (ia 1) ixD) (fC (.str "left")) (eqS id)) Ad) JO) ixD))
 (An (Ak Ga (Ab (Aa 0) (Ab (Aa 2) (Ab (Ac (Aa 5) (ia 1) ixD) (Ab (Aa 6) (Ab (Ac (ia 1) (Ac (Ac (Aa 3) (ia 3) Bv) (fB (Ab (Ac (Ac (Aa 2) (fC (.str "wires")) As) (Aa 6) As) Ad) AY) Bz) AU) Ad)))))))))))
def DX(Js JH ES Mm Ey:Fn):M Out:=
 (Af (setS 3 (Ak Ey (Ab (Aa 1) (Ab (Aa 2) Ad))))
 (Af (setS 4 (AL (Ab (fB (Ab (Ac (Ac (Aa 2) (fC (.str "wires")) As) (fC (.str "left")) As) Ad) AY) (Ab (fB (Ab (Ac (Ac (Aa 2) (fC (.str "wires")) As) (fC (.str "right")) As) Ad) AY) Ad))))
 (Af (setS 5 (AT "Parley" Mm (Aa 0) (ret [])))
 (Af (Dm (objM BH (Ac (Aa 2) (fC (.str "held")) As) (Ab (Au (AC (Ab (Aa 5) (Ab (Aa 3) Ad)))) Ad)))
 (Af (ifS (fOr (Am (Ac (Aa 5) (Aa 3) (eqS λb=>!b))) (Am (Ac (AT "Parley" ES (Aa 0) (ret [])) (Aa 4) (eqS λb=>!b))))
   (An (fC (.bl false)))
   Aq)
 (Af (ifS (Am (Ac (Au (Gf 1 [] (Li (Ac (Aa 2) (fC (.str "held")) As)) (AE 0) (Am (Ac (Ac (Aa 0) (ia 0) ixD) (Ac (Aa 0) (ia 1) ixD) (eqS λb=>!b))) (Aa 0))) (Au (AC Ad)) (eqS λb=>!b)))
   (An (fC (.bl false)))
   Aq)
 (Af (ifS (Am (Ac (AT "Parley" JH (Aa 0) (ret [])) (AL (Ab (Ac (Ac (Aa 2) (fC (.str "states")) As) (fC (.str "left")) As) (Ab (Ac (Ac (Aa 2) (fC (.str "states")) As) (fC (.str "right")) As) Ad))) (eqS λb=>!b)))
   (An (fC (.bl false)))
   Aq)
 (Af (setS 6 (Dd (Ac (Aa 3) (Au (AC Ad)) (eqS id)) (Ac (Ac (Aa 2) (fC (.str "come")) As) (El [("left",(ia 0)),("right",(ia 0))]) (Lh true))))
 (An (Dd (Ac (AT "Parley" Js (Aa 0) (ret [])) (Aa 6) (eqS id)) (Lj (Aa 6) (Ac (Aa 3) (Au (AC Ad)) (eqS λb=>!b)))))))))))))
def IC(F9 Ga Ch MT Ey Kg Ik Kf:Fn):M Out:=
 (Af (setS 1 (Ak Kf (Ab (Aa 0) (Ab (ia 2) (Ab (fC (.bl true)) Ad)))))
 (Af (setS 2 (D4 (AC Ad)))
 (Af (B7 (Dn (Aa 1)) (AE 3)
   (Dm (objM BH (Aa 2) (Ab (fIf (Am (Ac (Ac (Aa 3) (ia 0) ixD) (fC (.str "end")) (eqS id))) (AL (Ab (Ac (Aa 3) (ia 0) ixD) Ad)) (AL (Ab (Ac (Aa 3) (ia 0) ixD) (Ab (D4 (fBF (Ab (Ac (Aa 3) (ia 1) ixD) Ad) Gp)) Ad)))) Ad))))
 (Af (setS 4 (Hv "Parley" Ik (Ab (Aa 2) Ad)))
 (Af (Kw (Li (Aa 2)) (AE 3)
   (ifS (Am (Ac (Ac (Aa 3) (ia 0) ixD) (fC (.str "end")) (eqS λb=>!b)))
   (Dm (P7 (Ac (Aa 3) (ia 1) ixD)))
   Aq))
 (Af (setS 5 (El [("states",(El [("left",(ia 0)),("right",(ia 0))])),("wires",(El [("left",(Au (AC Ad))),("right",(Au (AC Ad)))])),("come",(El [("left",(ia 0)),("right",(ia 0))]))]))
 (Af (Cg (El [("left",(D4 (AC Ad))),("right",(D4 (AC Ad)))]) (D0 (Aa 5) (fC (.str "said"))))
 (Af (Cg (D4 (AC Ad)) (D0 (Aa 5) (fC (.str "held"))))
 (Af (B7 (GN (Ab (ia 11) (Ab (fB (Ab (ia 14) (Ab (fB (Ab (fB (Ab (Aa 0) Ad) AY) (Ab (ia 51) Ad)) Lo) Ad)) Ln) Ad))) (AE 6)
   (Af (ifS (Ct (Am (Ak F9 (Ab (Aa 4) (Ab (Aa 1) (Ab (Aa 5) Ad))))))
   (An (fC (.bl false)))
   Aq)
 (Af (ifS (Fy (Am (Ac (Ac (Ak Ch (Ab (Aa 0) (Ab (Aa 6) Ad))) (ia 7) Bz) (ia 1) (eqS id))) (Ct (Am (Ak Kg (Ab (Aa 4) (Ab (Aa 1) (Ab (Aa 5) (Ab (Ac (Ak Ch (Ab (Aa 0) (Ab (Aa 6) Ad))) (ia 7) Bv) Ad))))))))
   (An (fC (.bl false)))
   Aq)
 (Af (ifS (Am (Ac (Ak Ey (Ab (Aa 1) (Ab (Aa 5) Ad))) (Au (AC Ad)) (eqS id)))
   (An (fC (.bl true)))
   Aq)
 (ifS (Ct (Am (Ak MT (Ab (Aa 4) (Ab (Aa 1) (Ab (Aa 5) (Ab (Ak Ch (Ab (Aa 0) (Ab (Aa 6) Ad))) Ad)))))))
   (An (fC (.bl false)))
   Aq)))))
 (Af (ifS (Am (Ac (Ac (Ak Ch (Ab (Aa 0) (Ab (ia 1) Ad))) (ia 3) Bz) (ia 1) (eqS id)))
   (An (Ak F9 (Ab (Aa 4) (Ab (Aa 1) (Ab (Aa 5) Ad)))))
   Aq)
 (Af (B7 (Dn (Au (AC (Ab (AL (Ab (fC (.str "left")) (Ab (fC (.str "right")) Ad))) (Ab (AL (Ab (fC (.str "right")) (Ab (fC (.str "left")) Ad))) Ad))))) (unS 2 (AR (AE 7) (AR (AE 8) Cl)))
   (Af (setS 9 (fB (Ab (Ac (Ac (Aa 5) (fC (.str "wires")) As) (Aa 8) As) Ad) AY))
 (ifS (Fy (Am (Ac (Aa 9) (ia 0) gtA)) (Ct (Am (Ak Ga (Ab (Aa 4) (Ab (Aa 5) (Ab (Aa 7) (Ab (Aa 8) (Ab (Aa 9) Ad)))))))))
   (An (fC (.bl false)))
   Aq)))
 (Af (ifS (Am (Ac (Ac (Ac (Aa 5) (fC (.str "states")) As) (fC (.str "left")) As) (Ac (Ac (Aa 5) (fC (.str "states")) As) (fC (.str "right")) As) (eqS λb=>!b)))
   (An (fC (.bl false)))
   Aq)
 (An (Ak F9 (Ab (Aa 4) (Ab (Aa 1) (Ab (Aa 5) Ad)))))))))))))))))
def GV(SZ:Fn):M Out:=
 (Dm (Ak SZ (Ab (ia 0) Ad)))
def A6(LQ HZ HY:Fn):M Out:=
 (Af (ifS (Am (Ak LQ (Ab (Aa 1) (Ab (fC (.str "say")) (Ab (ia 4) Ad)))))
   (An (AT "Parley" HY (Aa 0) (Ab (Ac (Aa 1) (ia 1) ixD) (Ab (Ac (Aa 1) (ia 2) ixD) (Ab (Ac (Aa 1) (ia 3) ixD) Ad)))))
   Aq)
 (Af (ifS (Am (Ak LQ (Ab (Aa 1) (Ab (fC (.str "take")) (Ab (ia 3) Ad)))))
   (An (AT "Parley" HZ (Aa 0) (Ab (Ac (Aa 1) (ia 1) ixD) (Ab (Ac (Aa 1) (ia 2) ixD) Ad))))
   Aq)
 (Fs "NoRow" (Ab (fC (.str "this is no act")) Ad))))
def AH(Cz N3:Fn):M Out:=
 (Af (setX 4 (AT "Side" N3 (AT "Parley" Cz (Aa 0) (Ab (Aa 1) Ad)) (Ab (Aa 2) (Ab (Aa 3) Ad))))
 (Af (Dm (objM EV (Ac (Bq "under_way" (Aa 0)) (Aa 1) As) (Ab (Aa 4) Ad)))
 (An (nxD (Aa 4)))))
def AF(BA Cz MS B4:Fn):M Out:=
 (Af (setS 3 (Ac (Bq "under_way" (Aa 0)) (Ak BA (Ab (Aa 1) Ad)) As))
 (Af (ifS (Ct (Am (Ak B4 (Ab (Aa 2) (Ab (ia 1) (Ab (fB (Ab (Aa 3) Ad) AY) Ad))))))
   (Fs "NoRow" (Ab (fC (.str "so many bytes do not lie there")) Ad))
   Aq)
 (Af (setS 4 (AT "Side" MS (AT "Parley" Cz (Aa 0) (Ab (Aa 1) Ad)) (Ab (fSl (Aa 3) fNo (Hw (Aa 2)) LD) Ad)))
 (Af (Cg (D4 (Pv (Aa 3) (Hw (Aa 2)) fNo)) (D0 (Bq "under_way" (Aa 0)) (Ak BA (Ab (Aa 1) Ad))))
 (An (nxD (Aa 4)))))))
end LW
namespace L2
open PySem
def W{α:Type}(m:M α)(t:T)(P:α->T->Prop):Prop:=∃a t',m t=some (a,t')/\P a t'
def Wf(g:Fn)(ds:List D)(S:List Ob)(P:D->List Ob->Prop):Prop:=∃r S',g ds S=some (r,S')/\P r S'
theorem W.mono{α:Type}{m:M α}{t:T}{P Q:α->T->Prop}(h:W m t P)(i:∀a t',P a t'->Q a t'):W m t Q:=by
 clear 5 h a t' e p;exact⟨a,t',e,i a t' p⟩
theorem Wf.mono{g:Fn}{ds:List D}{S:List Ob}{P Q:D->List Ob->Prop}(h:Wf g ds S P)(i:∀r S',P r S'->Q r S'):Wf g ds S Q:=by
 clear 5 h a t' e p;exact⟨a,t',e,i a t' p⟩
section
variable{α β:Type}
theorem Az{m:M α}{t:T}{P:α->T->Prop}{a:α}{t':T}(e:m t=some (a,t')):W m t P↔P a t':=by
 constructor
 .rintro⟨a',t1,e',p⟩;rw[e] at e';cases e';exact p
 .exact λp=>⟨a,t',e,p⟩
theorem ER{m:M α}{t:T}{P:α->T->Prop}(e:m t=none):W m t P↔False:=by
 constructor
 .rintro⟨a',t1,e',p⟩;rw[e] at e';cases e'
 .exact False.elim
@[simp] theorem W_ret {a:α}{t:T}{P:α->T->Prop}:W (ret a) t P↔P a t:=Az rfl
@[simp] theorem W_fail {t:T}{P:α->T->Prop}:W (fail:M α) t P↔False:=ER rfl
@[simp] theorem W_bnd {f:M α}{g:α->M β}{t:T}{P:β->T->Prop}:W (bnd f g) t P↔W f t λa t1=>W (g a) t1 P:=by
 constructor
 .rintro⟨b,t',e,p⟩;clear 5(Ai e)a t1 e1 e2;exact⟨a,t1,e1,b,t',e2,p⟩
 .rintro⟨a,t1,e1,b,t',e2,p⟩;exact⟨b,t',by unfold bnd;rw[e1];exact e2,p⟩
@[simp] theorem UV {c:Prop} [Decidable c] {f g:M α}{t:T}{P:α->T->Prop}:W (if c then f else g) t P↔if c then W f t P else W g t P:=by split<;>rfl
@[simp] theorem gh {n:Nat}{a:α}{t:T}{P:α->T->Prop}:W (lim n a) t P↔n<=LIM/\P a t:=by
 unfold lim;constructor
 .rintro⟨a',t',e,p⟩
  split at e
  .cases e;exact⟨by assumption,p⟩
  .cases e
 .rintro⟨h,p⟩;exact⟨a,t,by simp only[h,ly],p⟩
end
section
variable{t:T}{env:List (Option Sl)}{S:List Ob}
@[simp] theorem W_fC {d:D}{P:D->T->Prop}:W (fC d) t P↔P d t:=Az rfl
@[simp] theorem QF {i:Nat}{P:D->T->Prop}:W (Aa i) t P↔match t.env[i]? with
 |some (some (.val d))=>P d t
 |some (some (.own ds))=>P (.lst ds) ⟨t.env.set i (vw (.lst ds)),t.S⟩
 |_=>False:=by
 cases e:t.env[i]? with
 |none=>exact ER (by unfold Aa;simp[e])
 |some o=>
   cases o with
   |none=>exact ER (by unfold Aa;simp[e])
   |some sl=>
     cases sl with
     |val d=>exact Az (by unfold Aa;simp[e])
     |own ds=>exact Az (by unfold Aa;simp[e])
@[simp] theorem W_fBin {f g:M D}{h:D->D->M D}{P:D->T->Prop}:W (Ac f g h) t P↔W f t λx t1=>W g t1 λy t2=>W (h x y) t2 P:=by simp[Ac]
@[simp] theorem W_fUn {f:M D}{h:D->M D}{P:D->T->Prop}:W (fUn f h) t P↔W f t λx t1=>W (h x) t1 P:=by simp[fUn]
@[simp] theorem W_toB {b:Bool}{P:Bool->T->Prop}:W (toB (.bl b)) t P↔P b t:=Az rfl
@[simp] theorem W_fTst {f:M D}{P:Bool->T->Prop}:W (Am f) t P↔W f t λx t1=>W (toB x) t1 P:=by simp[Am]
@[simp] theorem W_fChain {f g w:M D}{h h':D->D->M D}{P:D->T->Prop}:W (Fp f g w h h') t P↔W f t λx t1=>W g t1 λy t2=>W (h x y) t2 λk t3=>W (toB k) t3 λk t4=>if k=true then W w t4 λz t5=>W (h' y z) t5 P else P (.bl false) t4:=by
 simp[Fp]
@[simp] theorem W_fAnd {f g:M Bool}{P:Bool->T->Prop}:W (Fy f g) t P↔W f t λk t1=>if k=true then W g t1 P else P false t1:=by simp[Fy]
@[simp] theorem W_fOr {f g:M Bool}{P:Bool->T->Prop}:W (fOr f g) t P↔W f t λk t1=>if k=true then P true t1 else W g t1 P:=by simp[fOr]
@[simp] theorem W_fNot {f:M Bool}{P:Bool->T->Prop}:W (Ct f) t P↔W f t λk t1=>P (!k) t1:=by simp[Ct]
@[simp] theorem W_fAndV {f g:M D}{P:D->T->Prop}:W (Dd f g) t P↔W f t λx t1=>W (toB x) t1 λk t2=>if k=true then W g t2 P else P (.bl false) t2:=by simp[Dd]
@[simp] theorem W_fOrV {f g:M D}{P:D->T->Prop}:W (Lj f g) t P↔W f t λx t1=>W (toB x) t1 λk t2=>if k=true then P (.bl true) t2 else W g t2 P:=by simp[Lj]
@[simp] theorem W_fNotV {f:M D}{P:D->T->Prop}:W (Kq f) t P↔W f t λx t1=>W (toB x) t1 λk t2=>P (.bl (!k)) t2:=by simp[Kq]
@[simp] theorem W_fIf {f:M Bool}{g h:M D}{P:D->T->Prop}:W (fIf f g h) t P↔W f t λk t1=>if k=true then W g t1 P else W h t1 P:=by simp[fIf]
@[simp] theorem W_fNil {P:List D->T->Prop}:W Ad t P↔P [] t:=Az rfl
@[simp] theorem W_fCons {f:M D}{g:M (List D)}{P:List D->T->Prop}:W (Ab f g) t P↔W f t λd t1=>W g t1 λds t2=>P (d::ds) t2:=by simp[Ab]
@[simp] theorem W_fTup {f:M (List D)}{P:D->T->Prop}:W (AL f) t P↔W f t λds t1=>ds.length<=LIM/\P (.tup ds) t1:=by simp[AL]
@[simp] theorem W_fLst {f:M (List D)}{P:List D->T->Prop}:W (AC f) t P↔W f t λds t1=>ds.length<=LIM/\P ds t1:=by simp[AC]
@[simp] theorem W_fPure {f:M (List D)}{P:D->T->Prop}:W (Au f) t P↔W f t λds t1=>P (.lst ds) t1:=by simp[Au]
@[simp] theorem W_newOb {o:Ob}{P:D->T->Prop}:W (PY o) t P↔P (.obj t.S.length) ⟨t.env,t.S++[o]⟩:=Az rfl
@[simp] theorem XV {f:M (List D)}{P:D->T->Prop}:W (D4 f) t P↔W f t λds t1=>W (PY (.lst ds)) t1 P:=by simp[D4]
@[simp] theorem W_fCall {g:Fn}{f:M (List D)}{P:D->T->Prop}:W (Ak g f) t P↔W f t λds t1=>Wf g ds t1.S λr S'=>P r ⟨t1.env,S'⟩:=by
 unfold Ak;rw[W_bnd];constructor
 .rintro⟨ds,t1,e1,r,t',e2,p⟩;refine⟨ds,t1,e1,?_⟩;dsimp only at e2
  cases e:g ds t1.S with
  |none=>rw[e] at e2;cases e2
  |some z=>clear 5 z r' S';rw[e] at e2;cases e2;exact⟨r,_,e,p⟩
 .rintro⟨ds,t1,e1,r,S',e2,p⟩;exact⟨ds,t1,e1,r,_,by simp only[e2],p⟩
@[simp] theorem W_fB {f:M (List D)}{h:List D->M D}{P:D->T->Prop}:W (fB f h) t P↔W f t λds t1=>W (h ds) t1 P:=by simp[fB]
@[simp] theorem W_fBF {f:M (List D)}{h:List D->M (List D)}{P:List D->T->Prop}:W (fBF f h) t P↔W f t λds t1=>W (h ds) t1 P:=by simp[fBF]
@[simp] theorem W_seqS {f g:M Out}{P:Out->T->Prop}:W (Af f g) t P↔W f t λo t1=>match o with
 |.next=>W g t1 P
 |.brk=>P .brk t1
 |.cont=>P .cont t1
 |.ret d=>P (.ret d) t1:=by
 unfold Af;constructor
 .rintro⟨o,t',e,p⟩;dsimp only at e
  cases e1:f t with
  |none=>rw[e1] at e;cases e
  |some z=>
    clear 5 z o1 t1;rw[e1] at e;refine⟨o1,t1,e1,?_⟩
    cases o1 with
    |next=>exact⟨o,t',e,p⟩
    |brk=>cases e;exact p
    |cont=>cases e;exact p
    |ret d=>cases e;exact p
 .rintro⟨o,t1,e,p⟩
  cases o with
  |next=>clear 5 p o t' e' p;exact⟨o,t',by simp only[e];exact e',p⟩
  |brk=>exact⟨_,_,by simp only[e],p⟩
  |cont=>exact⟨_,_,by simp only[e],p⟩
  |ret d=>exact⟨_,_,by simp only[e],p⟩
set_option tactic.hygienic true in
@[simp] theorem W_skipS {P:Out->T->Prop}:W Aq t P↔P .next t:=Az rfl
@[simp] theorem W_retS {f:M D}{P:Out->T->Prop}:W (An f) t P↔W f t λd t1=>P (.ret d) t1:=by simp[An]
set_option tactic.hygienic true in
@[simp] theorem W_dropS {f:M D}{P:Out->T->Prop}:W (Dm f) t P↔W f t λd t1=>P .next t1:=by simp[Dm]
@[simp] theorem W_ifS {f:M Bool}{g h:M Out}{P:Out->T->Prop}:W (ifS f g h) t P↔W f t λk t1=>if k=true then W g t1 P else W h t1 P:=by simp[ifS]
@[simp] theorem W_putV {i:Nat}{d:D}{P:Unit->T->Prop}:W (AE i d) t P↔P () ⟨t.env.set i (vw d),t.S⟩:=Az rfl
@[simp] theorem W_setS {i:Nat}{f:M D}{P:Out->T->Prop}:W (setS i f) t P↔W f t λd t1=>P .next ⟨t1.env.set i (vw d),t1.S⟩:=by
 simp only[setS,W_bnd,W_ret,W_putV]
@[simp] theorem W_ownS {i:Nat}{f:M (List D)}{P:Out->T->Prop}:W (Ef i f) t P↔W f t λds t1=>P .next ⟨t1.env.set i (some (.own ds)),t1.S⟩:=by
 unfold Ef;rw[W_bnd];have:∀(ds:List D) (t1:T),W (λt:T=>some (Out.next,({t with env:=t.env.set i (some (.own ds))}:T))) t1 P↔P .next ⟨t1.env.set i (some (.own ds)),t1.S⟩:=λds t1=>Az rfl;simp only[this]
set_option tactic.hygienic true in
@[simp] theorem W_asgS {f:M D}{g:D->M Unit}{P:Out->T->Prop}:W (Cg f g) t P↔W f t λd t1=>W (g d) t1 λ_ t2=>P .next t2:=by simp[Cg]
@[simp] theorem W_putNil {P:Unit->T->Prop}:W (Cl []) t P↔P () t:=Az rfl
@[simp] theorem W_putCons {f:D->M Unit}{g:List D->M Unit}{d:D}{ds:List D}{P:Unit->T->Prop}:W (AR f g (d::ds)) t P↔W (f d) t λ_ t1=>W (g ds) t1 P:=by simp[AR]
@[simp] theorem W_unS_lst {n:Nat}{g:List D->M Unit}{ds:List D}{P:Unit->T->Prop}:W (unS n g (.lst ds)) t P↔ds.length=n/\W (g ds) t P:=by
 unfold unS;simp only[UV,W_fail];split<;>simp[*]
@[simp] theorem W_unS_tup {n:Nat}{g:List D->M Unit}{ds:List D}{P:Unit->T->Prop}:W (unS n g (.tup ds)) t P↔ds.length=n/\W (g ds) t P:=by
 unfold unS;simp only[UV,W_fail];split<;>simp[*]
@[simp] theorem W_forS {f:M (List D)}{st:D->M Unit}{b:M Out}{P:Out->T->Prop}:W (B7 f st b) t P↔W f t λds t1=>W (C8 st b ds) t1 P:=by simp[B7]
set_option tactic.hygienic true
@[simp] theorem W_forL_nil {st:D->M Unit}{b:M Out}{P:Out->T->Prop}:W (C8 st b []) t P↔P .next t:=Az rfl
theorem W_forL_cons{st:D->M Unit}{b:M Out}{d:D}{r:List D}{P:Out->T->Prop}:W (C8 st b (d::r)) t P↔W (st d) t λ_ t1=>W b t1 λo t2=>match o with
 |.next=>W (C8 st b r) t2 P
 |.cont=>W (C8 st b r) t2 P
 |.brk=>P .next t2
 |.ret x=>P (.ret x) t2:=by
 constructor
 .rintro⟨o,t',e,p⟩;unfold C8 at e
  cases e1:st d t with
  |none=>rw[e1] at e;cases e
  |some z=>
    clear 5 z u t1;rw[e1] at e
    try dsimp only at e
    refine⟨u,t1,e1,?_⟩
    cases e2:b t1 with
    |none=>rw[e2] at e;cases e
    |some z=>
      clear 5 z o2 t2;rw[e2] at e
      try dsimp only at e
      refine⟨o2,t2,e2,?_⟩
      cases o2 with
      |next=>exact⟨o,t',e,p⟩
      |cont=>exact⟨o,t',e,p⟩
      |brk=>cases e;exact p
      |ret x=>cases e;exact p
 .rintro⟨u,t1,e1,o,t2,e2,p⟩
  cases o with
  |next=>clear 5 p o t' e' p;exact⟨o,t',by unfold C8;simp only[e1,e2];exact e',p⟩
  |cont=>clear 5 p o t' e' p;exact⟨o,t',by unfold C8;simp only[e1,e2];exact e',p⟩
  |brk=>exact⟨_,_,by unfold C8;simp only[e1,e2],p⟩
  |ret x=>exact⟨_,_,by unfold C8;simp only[e1,e2],p⟩
theorem Dl{st:D->M Unit}{b:M Out}{P:Out->T->Prop}(I:List D->T->Prop):∀(ds:List D) (t:T),I ds t->
 (∀d r t,I (d :: r) t->d∈ds->W (st d) t λ_ t1=>W b t1 λo t2=>match o with
   |.next=>I r t2
   |.cont=>I r t2
   |.brk=>P .next t2
   |.ret x=>P (.ret x) t2)->(∀t,I [] t->P .next t)->W (C8 st b ds) t P
 |[],t,h,_,fin=>W_forL_nil.mpr (fin t h)
 |d::r,t,h,turn,fin=>by
   rw[W_forL_cons];refine(turn d r t h ue2).mono λ_ t1 h1=>h1.mono λo t2 h2=>?_
   cases o with
   |next=>exact Dl I r t2 h2 (λd' r' t' h' m=>turn d' r' t' h' (ud1 _ m)) fin
   |cont=>exact Dl I r t2 h2 (λd' r' t' h' m=>turn d' r' t' h' (ud1 _ m)) fin
   |brk=>exact h2
   |ret x=>exact h2
set_option tactic.hygienic false
@[simp] theorem W_fComp {n:Nat}{fr:List Nat}{f:M (List D)}{st:D->M Unit}{tst:M Bool}{elt:M D}{P:List D->T->Prop}:W (CL n fr f st tst elt) t P↔W f t λds t1=>W (CK st tst elt ds) ⟨cenv n fr t1.env,t1.S⟩ λxs t'=>xs.length<=LIM/\P xs ⟨t1.env,t'.S⟩:=by
 unfold CL;rw[W_bnd];constructor
 .rintro⟨ds,t1,e1,xs,t',e2,p⟩;refine⟨ds,t1,e1,?_⟩;dsimp only at e2
  cases e:CK st tst elt ds ⟨cenv n fr t1.env,t1.S⟩ with
  |none=>rw[e] at e2;cases e2
  |some z=>
    clear 5 z ys t3;rw[e] at e2;dsimp only at e2
    split at e2
    .cases e2;exact⟨_,_,e,by assumption,p⟩
    .cases e2
 .rintro⟨ds,t1,e1,xs,t',e2,h,p⟩;exact⟨ds,t1,e1,xs,_,by simp only[e2,h,ly],p⟩
@[simp] theorem W_compL_nil {st:D->M Unit}{tst:M Bool}{elt:M D}{P:List D->T->Prop}:W (CK st tst elt []) t P↔P [] t:=Az rfl
theorem F4{st:D->M Unit}{tst:M Bool}{elt:M D}{d:D}{r:List D}{P:List D->T->Prop}:W (CK st tst elt (d::r)) t P↔W (st d) t λ_ t1=>W tst t1 λk t2=>
 if k=true then W elt t2 λx t3=>W (CK st tst elt r) t3 λxs t4=>P (x::xs) t4 else W (CK st tst elt r) t2 P:=by
 rw[CK];simp
theorem ML{st:D->M Unit}{tst:M Bool}{elt:M D}{P:List D->T->Prop}(I:List D->List D->T->Prop):∀(ds:List D) (acc:List D) (t:T),I acc ds t->
 (∀acc d r t,I acc (d::r) t->d∈ds->W (st d) t λ_ t1=>W tst t1 λk t2=>if k=true then W elt t2 λx t3=>I (acc++[x]) r t3 else I acc r t2)->
 (∀acc t,I acc [] t->P acc t)->W (CK st tst elt ds) t λxs t'=>P (acc++xs) t'
 |[],acc,t,h,_,fin=>W_compL_nil.mpr (by rw[ui4];exact fin acc t h)
 |d::r,acc,t,h,turn,fin=>by
   rw[F4];have turn':∀acc d' r' t',I acc (d'::r') t'->d'∈r->_:=λacc d' r' t' h' m=>turn acc d' r' t' h' (ud1 _ m);refine(turn acc d r t h ue2).mono λ_ t1 h1=>h1.mono λk t2 h2=>?_
   cases k with
   |true=>
     rw[lD rfl] at h2⊢;refine h2.mono λx t3 h3=>(ML I r (acc++[x]) t3 h3 turn' fin).mono λxs t4 h4=>?_;rw[uf7] at h4;exact h4
   |false=>
     rw[lE ue3] at h2⊢;exact ML I r acc t2 h2 turn' fin
theorem Al{n m:Nat}{g:M Out}{ds:List D}{P:D->List Ob->Prop}(h:ds.length=n)(w:W g ⟨env0 m ds,S⟩ λo t=>match o with
 |.ret r=>P r t.S
 |.next=>P .non t.S
 |_=>False):Wf (fnOf n m g) ds S P:=by
 clear 5 w o t e p
 cases o with
 |ret r=>exact⟨r,t.S,by unfold fnOf;rw[lD h,e],p⟩
 |next=>exact⟨.non,t.S,by unfold fnOf;rw[lD h,e],p⟩
 |brk=>exact p.elim
 |cont=>exact p.elim
@[simp] theorem W_tTru {P:Bool->T->Prop}:W G7 t P↔P true t:=Az rfl
@[simp] theorem fX {P:D->T->Prop}:W dG t P↔P .dic t:=Az rfl
end
section
variable{t:T}{P:D->T->Prop}
theorem Mt{α β:Type}{o:Option β}{g:β->α×T}{Q:α->T->Prop}{m:M α}(e:m t=o.map g):W m t Q↔∃b,o=some b/\Q (g b).1 (g b).2:=by
 constructor
 .rintro⟨a,t',e',p⟩;rw[e] at e';clear 5(uc1.mp e')b h1 h2;exact⟨b,h1,by rw[h2];exact p⟩
 .rintro⟨b,h,p⟩;exact⟨_,_,by rw[e,h];rfl,p⟩
theorem SS{α:Type}{c:Prop}[Decidable c]{z:α×T}{Q:α->T->Prop}{m:M α}(e:m t=if c then some z else none):W m t Q↔c/\Q z.1 z.2:=by
 constructor
 .rintro⟨a,t',e',p⟩;rw[e] at e'
  split at e'
  .cases e';exact⟨by assumption,p⟩
  .cases e'
 .rintro⟨h,p⟩;exact⟨_,_,by rw[e,lD h],p⟩
theorem MM{α β:Type}{o:Option β}(f:β->α){Q:α->T->Prop}{m:M α}(e:m t=o.map λb=>(f b,t)):W m t Q↔∃b,o=some b/\Q (f b) t:=Mt (g:=λb=>(f b,t)) e
theorem IU{α:Type}{c:Prop}[Decidable c]{a:α}{Q:α->T->Prop}{m:M α}(e:m t=if c then some (a,t) else none):W m t Q↔c/\Q a t:=SS (z:=(a,t)) e
@[simp] theorem W_ix_tup {ds:List D}{i:Int}:W (ixD (.tup ds) (.int i)) t P↔∃d,atI ds i=some d/\P d t:=MM id rfl
@[simp] theorem W_ix_lst {ds:List D}{i:Int}:W (ixD (.lst ds) (.int i)) t P↔∃d,atI ds i=some d/\P d t:=MM id rfl
@[simp] theorem W_ix_scr {ns:List Int}{i:Int}:W (ixD (.scr ns) (.int i)) t P↔∃n,atI ns i=some n/\P (.int n) t:=MM D.int rfl
@[simp] theorem W_ix_str {x:Str}{i:Int}:W (ixD (.str x) (.int i)) t P↔x.length<=LIM/\∃n,atI x.cps.toList i=some n/\P (.str ⟨#[n]⟩) t:=by
 by_cases h:x.length<=LIM
 .have:ixD (.str x) (.int i) t=(atI x.cps.toList i).map λn=>(.str ⟨#[n]⟩,t):=by simp only[ixD,h,ly]
  rw[Mt this];simp[h]
 .rw[ER (by simp only[ixD,h,lv])];simp[h]
@[simp] theorem W_ix_obj {k:Nat}{i:Int}:W (ixD (.obj k) (.int i)) t P↔∃ds,t.S[k]?=some (.lst ds)/\∃d,atI ds i=some d/\P d t:=by
 cases e:t.S[k]? with
 |none=>rw[ER (by simp only[ixD,e])];simp
 |some o=>
   cases o with
   |dct _|ins _ _=>rw[ER (by simp only[ixD,e])];simp
   |lst ds=>
     have:ixD (.obj k) (.int i) t=(atI ds i).map λd=>(d,t):=by simp only[ixD,e]
     rw[Mt this];simp
@[simp] theorem GJ {α:Type}{a:α}{r:List α}:atI (a::r) 0=some a:=by simp[atI,ixN]
@[simp] theorem UX {α:Type}{a b:α}{r:List α}:atI (a::b::r) 1=some b:=by
 have:(1:Int)<((a::b::r).length:Nat):=by simp;lia
 simp only[atI,ixN,this,ly,show(0:Int)<=1 by decide];rfl
@[simp] theorem UY {α:Type}{a b c:α}{r:List α}:atI (a::b::c::r) 2=some c:=by
 have:(2:Int)<((a::b::c::r).length:Nat):=by simp;lia
 simp only[atI,ixN,this,ly,show(0:Int)<=2 by decide];rfl
@[simp] theorem W_len_lst {ds:List D}:W (AY [.lst ds]) t P↔P (.int ds.length) t:=Az rfl
@[simp] theorem W_len_tup {ds:List D}:W (AY [.tup ds]) t P↔P (.int ds.length) t:=Az rfl
@[simp] theorem W_len_scr {ds:List Int}:W (AY [.scr ds]) t P↔P (.int ds.length) t:=Az rfl
@[simp] theorem W_len_str {x:Str}:W (AY [.str x]) t P↔x.length<=LIM/\P (.int x.length) t:=by simp[AY]
@[simp] theorem W_len_obj {k:Nat}:W (AY [.obj k]) t P↔∃ds,t.S[k]?=some (.lst ds)/\P (.int ds.length) t:=by
 cases e:t.S[k]? with
 |none=>rw[ER (by simp only[AY,e])];simp
 |some o=>
   cases o with
   |dct _|ins _ _=>rw[ER (by simp only[AY,e])];simp
   |lst ds=>rw[Az (a:=.int ds.length) (t':=t) (by simp only[AY,e])];simp
@[simp] theorem W_isi {d:D}{m:String}:W (Da [d,.ty m]) t P↔∃n,tyD d=some n/\∃b,Gn n m=some b/\P (.bl b) t:=by
 cases e:tyD d with
 |none=>rw[ER (by simp only[Da,e])];simp
 |some n=>
   have:Da [d,.ty m] t=(Gn n m).map λb=>(.bl b,t):=by simp only[Da,e]
   rw[Mt this];simp
noncomputable def FN:D->Bool
 |.non=>true
 |_=>false
noncomputable def dR(b:Bool):D->Bool
 |.bl c=>c==b
 |_=>false
@[simp] theorem W_is_non {x:D}:W (isC x .non) t P↔P (.bl (FN x)) t:=Az (by cases x<;>rfl)
@[simp] theorem fU {x:D}{b:Bool}:W (isC x (.bl b)) t P↔P (.bl (dR b x)) t:=Az (by cases x<;>rfl)
@[simp] theorem fT {x y:D}:W (Ri x y) t P↔W (isC x y) t λd t1=>W (toB d) t1 λb t2=>P (.bl (!b)) t2:=by
 unfold Ri;rw[W_bnd];constructor
 .exact λh=>h.mono λd t1 h1=>by
   cases d with
   |bl b=>simpa using h1
   |_=>exact(W_fail.mp h1).elim
 .exact λh=>h.mono λd t1 h1=>by
   cases d with
   |bl b=>simpa using h1
   |_=>obtain⟨_,_,e,_⟩:=h1;cases e
@[simp] theorem W_add_int {i j:Int}:W (AU (.int i) (.int j)) t P↔P (.int (i+j)) t:=Az rfl
@[simp] theorem W_sub_int {i j:Int}:W (CO (.int i) (.int j)) t P↔P (.int (i-j)) t:=Az rfl
@[simp] theorem W_lt_int {i j:Int}:W (ltA (.int i) (.int j)) t P↔P (.bl (decide (i<j))) t:=Az rfl
@[simp] theorem W_le_int {i j:Int}:W (leA (.int i) (.int j)) t P↔P (.bl (decide (i<=j))) t:=Az rfl
@[simp] theorem W_gt_int {i j:Int}:W (gtA (.int i) (.int j)) t P↔P (.bl (decide (j<i))) t:=Az rfl
@[simp] theorem W_ge_int {i j:Int}:W (geA (.int i) (.int j)) t P↔P (.bl (decide (j<=i))) t:=Az rfl
@[simp] theorem dm {i j:Str}:W (ltA (.str i) (.str j)) t P↔P (.bl (decide (i.cps.toList<j.cps.toList))) t:=Az rfl
@[simp] theorem dk {i j:Str}:W (gtA (.str i) (.str j)) t P↔P (.bl (decide (j.cps.toList<i.cps.toList))) t:=Az rfl
@[simp] theorem gi {i:Int}:W (dW (.int i)) t P↔P (.int (-i)) t:=Az rfl
@[simp] theorem W_fdiv {i j:Int}:W (Bv (.int i) (.int j)) t P↔(0<j/\j<1073741824)/\P (.int (i/j)) t:=by
 rw[SS (m:=Bv (.int i) (.int j)) (c:=Mu i j=true) (z:=(.int (i/j),t)) rfl];simp[Mu]
@[simp] theorem W_mod {i j:Int}:W (Bz (.int i) (.int j)) t P↔0<j/\P (.int (i%j)) t:=by
 rw[SS (m:=Bz (.int i) (.int j)) (c:=decide (0<j)=true) (z:=(.int (i%j),t)) rfl];simp
@[simp] theorem gj {i j:Int}:W (d5 (.int i) (.int j)) t P↔Va i j=true/\P (.int (i ^ j.toNat)) t:=IU rfl
@[simp] theorem W_mul_int {i j:Int}:W (CN (.int i) (.int j)) t P↔FP i j=true/\P (.int (i*j)) t:=IU rfl
@[simp] theorem W_mul_str {x:Str}{k:Int}:W (CN (.str x) (.int k)) t P↔(C4 k=true/\x.length*k.toNat<=LIM/\k<=LIM/\x.length<=LIM)/\P (.str (Txt.mul x k)) t:=IU rfl
theorem Wo{i j:Int}(h1 : -18446744073709551616<i)(h2:i<18446744073709551616):FP i j=true:=by simp[FP,h1,h2]
theorem OJ{i j:Int}(h1 : -18446744073709551616<j)(h2:j<18446744073709551616):FP i j=true:=by simp[FP,h1,h2]
theorem B9{k:Int}(h1 : -4611686018427387904<=k)(h2:k<4611686018427387904):C4 k=true:=by simp[C4,h1,h2]
@[simp] theorem W_add_str {x y:Str}:W (AU (.str x) (.str y)) t P↔x.length+y.length<=LIM/\P (.str (x++y)) t:=by
 have:AU (.str x) (.str y)=lim (x.length+y.length) (.str (x++y)):=rfl;rw[this];simp
@[simp] theorem W_add_lst {x y:List D}:W (AU (.lst x) (.lst y)) t P↔x.length+y.length<=LIM/\P (.lst (x++y)) t:=by
 have:AU (.lst x) (.lst y)=lim (x.length+y.length) (.lst (x++y)):=rfl;rw[this];simp
@[simp] theorem W_cat {x y:List D}{Q:List D->T->Prop}:W (Io (.lst x) (.lst y)) t Q↔x.length+y.length<=LIM/\Q (x++y) t:=by
 have:Io (.lst x) (.lst y)=lim (x.length+y.length) (x++y):=rfl;rw[this];simp
@[simp] theorem gg {i:Int}:W (dA [.int i]) t P↔P (.int (if i<0 then -i else i)) t:=Az rfl
@[simp] theorem W_min {i j:Int}:W (Lo [.int i,.int j]) t P↔P (.int (if j<i then j else i)) t:=Az rfl
@[simp] theorem W_max {i j:Int}:W (Ln [.int i,.int j]) t P↔P (.int (if j > i then j else i)) t:=Az rfl
@[simp] theorem df {i:Int}:W (JO [.int i]) t P↔P (.int i) t:=Az rfl
@[simp] theorem W_int_bl {b:Bool}:W (JO [.bl b]) t P↔P (.int (if b then 1 else 0)) t:=Az rfl
@[simp] theorem W_ord {x:Str}:W (JT [.str x]) t P↔x.length=1/\P (.int (x.cps.getD 0 0:Nat)) t:=IU rfl
@[simp] theorem dh {ds:List D}:W (eL [.lst ds]) t P↔P (.tup ds) t:=Az rfl
@[simp] theorem W_lst_lst {ds:List D}{Q:List D->T->Prop}:W (Gp [.lst ds]) t Q↔Q ds t:=Az rfl
@[simp] theorem dg {ds:List D}{Q:List D->T->Prop}:W (Gp [.tup ds]) t Q↔Q ds t:=Az rfl
@[simp] theorem W_eq_str {g:Bool->Bool}{x y:Str}:W (eqS g (.str x) (.str y)) t P↔P (.bl (g (x==y))) t:=Az rfl
@[simp] theorem W_eq_int {g:Bool->Bool}{x y:Int}:W (eqS g (.int x) (.int y)) t P↔P (.bl (g (x==y))) t:=Az rfl
@[simp] theorem W_eq_bl {g:Bool->Bool}{x y:Bool}:W (eqS g (.bl x) (.bl y)) t P↔P (.bl (g (x==y))) t:=Az rfl
@[simp] theorem W_eq_nil {g:Bool->Bool}{x:List D}:W (eqS g (.lst x) (.lst [])) t P↔P (.bl (g x.isEmpty)) t:=by
 refine Az ?_
 cases x<;>rfl
theorem IH{a b:String}:Str.ofString a=Str.ofString b↔a=b:=by
 constructor
 .intro h;rw[Str.ofString_eq_toList,Str.ofString_eq_toList] at h;injection h with h
  have h:=lu Array.toList h;simp only at h;have hinj:∀xs ys:List Char,xs.map Char.toNat=ys.map Char.toNat->xs=ys:=by
   intro xs
   induction xs with
   |nil=>intro ys h;cases ys with|nil=>rfl|cons _ _=>simp at h
   |cons x xs ih=>
     intro ys h
     cases ys with
     |nil=>simp at h
     |cons y ys=>
       simp only[uk4,List.cons.injEq] at h;rw[ih ys h.2,Char.toNat_inj.mp h.1]
  exact String.toList_inj.mp (hinj _ _ (by simpa using h))
 .exact λh=>by rw[h]
@[simp] theorem Zc {a b:String}:(Str.ofString a==Str.ofString b)=(a==b):=by
 rw[Bool.eq_iff_iff,lm,lm,IH]
@[simp] theorem W_sl_lst {ds:List D}{lo hi:Option Int}:W (GC (.lst ds) lo hi) t P↔P (.lst (Ci ds lo hi)) t:=Az rfl
@[simp] theorem dq {ds:List Int}{lo hi:Option Int}:W (GC (.scr ds) lo hi) t P↔P (.lst ((Ci ds lo hi).map .int)) t:=Az rfl
@[simp] theorem dr {x:Str}{lo hi:Option Int}:W (GC (.str x) lo hi) t P↔x.length<=LIM/\P (.str (Txt.slice x lo hi)) t:=by
 have:GC (.str x) lo hi=lim x.length (.str (Txt.slice x lo hi)):=rfl;rw[this];simp
@[simp] theorem du {ds:List D}{lo hi:Option Int}:W (GC (.tup ds) lo hi) t P↔P (.tup (Ci ds lo hi)) t:=Az rfl
@[simp] theorem W_fSl {f:M D}{l u:M (Option Int)}{h:D->Option Int->Option Int->M D}:W (fSl f l u h) t P↔W f t λx t1=>W l t1 λlo t2=>W u t2 λhi t3=>W (h x lo hi) t3 P:=by simp[fSl]
@[simp] theorem W_fNo {Q:Option Int->T->Prop}:W fNo t Q↔Q none t:=Az rfl
@[simp] theorem W_asI {i:Int}{Q:Option Int->T->Prop}:W (asI (.int i)) t Q↔Q (some i) t:=Az rfl
@[simp] theorem W_fPart {f:M D}{Q:Option Int->T->Prop}:W (Hw f) t Q↔W f t λx t1=>W (asI x) t1 Q:=by simp[Hw]
@[simp] theorem W_fItA {f:M D}{Q:List D->T->Prop}:W (Dn f) t Q↔W f t λx t1=>W (DI x) t1 Q:=by simp[Dn]
@[simp] theorem W_it_lst {ds:List D}{Q:List D->T->Prop}:W (DI (.lst ds)) t Q↔Q ds t:=Az rfl
@[simp] theorem W_it_tup {ds:List D}{Q:List D->T->Prop}:W (DI (.tup ds)) t Q↔Q ds t:=Az rfl
@[simp] theorem dl {ds:List Int}{Q:List D->T->Prop}:W (DI (.scr ds)) t Q↔Q (ds.map .int) t:=Az rfl
@[simp] theorem W_it_str {x:Str}{Q:List D->T->Prop}:W (DI (.str x)) t Q↔Q (x.cps.toList.map λc=>.str ⟨#[c]⟩) t:=Az rfl
@[simp] theorem W_fRng1 {f:M (List D)}{Q:List D->T->Prop}:W (Do f) t Q↔W f t λx t1=>W (Ly x) t1 Q:=by simp[Do]
@[simp] theorem W_fRng2 {f:M (List D)}{Q:List D->T->Prop}:W (GN f) t Q↔W f t λx t1=>W (Lz x) t1 Q:=by simp[GN]
@[simp] theorem W_rng1 {j:Int}{Q:List D->T->Prop}:W (Ly [.int j]) t Q↔C4 j=true/\Q (Bo 0 j.toNat) t:=IU rfl
@[simp] theorem W_rng2 {i j:Int}{Q:List D->T->Prop}:W (Lz [.int i,.int j]) t Q↔(C4 i&&C4 j)=true/\Q (Bo i (j-i).toNat) t:=IU rfl
set_option tactic.hygienic true in
@[simp] theorem W_ownM {i:Nat}{h:List D->List D->Option (List D)}{g:M (List D)}{Q:Out->T->Prop}:W (ownM i h g) t Q↔(∃xs,t.env[i]?=some (some (.own xs)))/\W g t λds t1=>∃xs,t1.env[i]?=some (some (.own xs))/\∃ys,h xs ds=some ys/\Q .next ⟨t1.env.set i (some (.own ys)),t1.S⟩:=by
 constructor
 .rintro⟨o,t',e,p⟩;unfold ownM at e
  split at e
  .next xs e0=>
   refine⟨⟨xs,e0⟩,?_⟩;clear 5(Ai e)ds t1 e1 e;refine⟨ds,t1,e1,?_⟩
   split at e
   .next ys e2=>
    clear 5(uc1.mp e)zs e3 e4
    cases e4
    exact⟨ys,e2,zs,e3,p⟩
   .cases e
  .cases e
 .rintro⟨⟨xs,e0⟩,ds,t1,e1,ys,e2,zs,e3,p⟩;exact⟨_,_,by unfold ownM bnd;simp only[e0,e1,e2,e3,uj1],p⟩
@[simp] theorem app1_one {xs:List D}{d:D}{ys:List D}:BH xs [d]=some ys↔xs.length<LIM/\xs++[d]=ys:=by
 unfold BH;split<;>simp[*]
@[simp] theorem gk {f g:M D}{d:D}{Q:Unit->T->Prop}:W (stD f g d) t Q↔W f t λo t1=>W g t1 λi t2=>W (ak o i d) t2 Q:=by simp[stD]
end
section
variable{t:T}{P:D->T->Prop}{Q:List D->T->Prop}{R:Out->T->Prop}{B:Bool->T->Prop}{U:Unit->T->Prop}
def EX(k:Bool)(A B:Prop):Prop:=if k=true then A else B
theorem Ev{k:Bool}{A B:Prop}(h:k=true)(a:A):EX k A B:=by unfold EX;rw[lD h];exact a
theorem DT{k:Bool}{A B:Prop}(h:k=false)(b:B):EX k A B:=by unfold EX;rw[lE (by rw[h];exact ue3)];exact b
theorem Eu{k:Bool}{A B:Prop}(a:k=true->A)(b:k=false->B):EX k A B:=by cases h:k with
 |true=>exact Ev rfl (a h)
 |false=>exact DT rfl (b h)
def Ei(g:M Out)(R:Out->T->Prop)(o:Out)(t1:T):Prop:=match o with
 |.next=>W g t1 R
 |o=>R o t1
variable{t1:T}
set_option tactic.hygienic true in
theorem Ft{g:M Out}(h:W g t1 R):Ei g R .next t1:=h
theorem UB{g:M Out}{d:D}(h:R (.ret d) t1):Ei g R (.ret d) t1:=h
theorem Qt{f g:M Out}(h:W f t (Ei g R)):W (Af f g) t R:=W_seqS.mpr (h.mono λo t1 h1=>by cases o<;>exact h1)
set_option tactic.hygienic true in
theorem cY(h:R .next t):W Aq t R:=W_skipS.mpr h
variable{f:M D}
theorem fG(h:W f t λd t1=>R (.ret d) t1):W (An f) t R:=W_retS.mpr h
set_option tactic.hygienic true in
theorem cE(h:W f t λd t1=>R .next t1):W (Dm f) t R:=W_dropS.mpr h
theorem wIf{f:M Bool}{g h:M Out}(w:W f t λk t1=>EX k (W g t1 R) (W h t1 R)):W (ifS f g h) t R:=W_ifS.mpr w
theorem fH{i:Nat}(h:W f t λd t1=>R .next ⟨t1.env.set i (vw d),t1.S⟩):W (setS i f) t R:=W_setS.mpr h
theorem fE{i:Nat}{f:M (List D)}(h:W f t λd t1=>R .next ⟨t1.env.set i (some (.own d)),t1.S⟩):W (Ef i f) t R:=W_ownS.mpr h
set_option tactic.hygienic true in
theorem aD{g:D->M Unit}(h:W f t λd t1=>W (g d) t1 λ_ t2=>R .next t2):W (Cg f g) t R:=W_asgS.mpr h
theorem eT{f:M (List D)}{st:D->M Unit}{b:M Out}(h:W f t λds t1=>W (C8 st b ds) t1 R):W (B7 f st b) t R:=W_forS.mpr h
theorem wC{d:D}(h:P d t):W (fC d) t P:=W_fC.mpr h
theorem FI{i:Nat}{d:D}(e:t.env[i]?=some (vw d))(h:P d t):W (Aa i) t P:=by rw[QF,e];exact h
variable{ds:List D}
theorem c9{i:Nat}(e:t.env[i]?=some (some (.own ds)))(h:P (.lst ds) ⟨t.env.set i (vw (.lst ds)),t.S⟩):W (Aa i) t P:=by rw[QF,e];exact h
variable{g:M D}
theorem LG{h:D->D->M D}(w:W f t λx t1=>W g t1 λy t2=>W (h x y) t2 P):W (Ac f g h) t P:=W_fBin.mpr w
theorem wUn{h:D->M D}(w:W f t λx t1=>W (h x) t1 P):W (fUn f h) t P:=W_fUn.mpr w
theorem Co{α β:Type}{f:M α}{g:α->M β}{K:β->T->Prop}(w:W f t λx t1=>W (g x) t1 K):W (bnd f g) t K:=W_bnd.mpr w
theorem Qu{b:Bool}(h:B b t):W (toB (.bl b)) t B:=W_toB.mpr h
theorem Qv(h:W f t λx t1=>W (toB x) t1 B):W (Am f) t B:=W_fTst.mpr h
theorem aE{w:M D}{h h':D->D->M D}(q:W f t λx t1=>W g t1 λy t2=>W (h x y) t2 λk t3=>W (toB k) t3 λk t4=>EX k (W w t4 λz t5=>W (h' y z) t5 P) (P (.bl false) t4)):W (Fp f g w h h') t P:=W_fChain.mpr q
theorem eM{f g:M Bool}(h:W f t λk t1=>EX k (W g t1 B) (B false t1)):W (Fy f g) t B:=W_fAnd.mpr h
theorem wOr{f g:M Bool}(h:W f t λk t1=>EX k (B true t1) (W g t1 B)):W (fOr f g) t B:=W_fOr.mpr h
theorem fz{f:M Bool}(h:W f t λk t1=>B (!k) t1):W (Ct f) t B:=W_fNot.mpr h
theorem cq(h:W f t λx t1=>W (toB x) t1 λk t2=>EX k (W g t2 P) (P (.bl false) t2)):W (Dd f g) t P:=W_fAndV.mpr h
theorem fD(h:W f t λx t1=>W (toB x) t1 λk t2=>EX k (P (.bl true) t2) (W g t2 P)):W (Lj f g) t P:=W_fOrV.mpr h
theorem cO(h:W f t λx t1=>W (toB x) t1 λk t2=>P (.bl (!k)) t2):W (Kq f) t P:=W_fNotV.mpr h
theorem eZ{f:M Bool}{h:M D}(w:W f t λk t1=>EX k (W g t1 P) (W h t1 P)):W (fIf f g h) t P:=W_fIf.mpr w
theorem JW(h:Q [] t):W Ad t Q:=W_fNil.mpr h
theorem E4{g:M (List D)}(h:W f t λd t1=>W g t1 λds t2=>Q (d::ds) t2):W (Ab f g) t Q:=W_fCons.mpr h
def HE(n:Nat)(A:Prop):Prop:=n<=LIM/\A
variable{n:Nat}
theorem BI{A:Prop}(h:n<=LIM)(a:A):HE n A:=⟨h,a⟩
theorem fM{f:M (List D)}(h:W f t λds t1=>HE ds.length (P (.tup ds) t1)):W (AL f) t P:=W_fTup.mpr h
theorem fq{f:M (List D)}(h:W f t λds t1=>HE ds.length (Q ds t1)):W (AC f) t Q:=W_fLst.mpr h
theorem cT{f:M (List D)}(h:W f t λds t1=>P (.lst ds) t1):W (Au f) t P:=W_fPure.mpr h
theorem fA{f:M (List D)}(h:W f t λds t1=>P (.obj t1.S.length) ⟨t1.env,t1.S++[.lst ds]⟩):W (D4 f) t P:=by rw[XV];exact h.mono λds t1 h=>W_newOb.mpr h
theorem KQ{g:Fn}{f:M (List D)}(h:W f t λds t1=>Wf g ds t1.S λr S'=>P r ⟨t1.env,S'⟩):W (Ak g f) t P:=W_fCall.mpr h
theorem wB{f:M (List D)}{h:List D->M D}(w:W f t λds t1=>W (h ds) t1 P):W (fB f h) t P:=W_fB.mpr w
theorem wBF{f:M (List D)}{h:List D->M (List D)}(w:W f t λds t1=>W (h ds) t1 Q):W (fBF f h) t Q:=W_fBF.mpr w
theorem JX{i:Nat}{d:D}(h:U () ⟨t.env.set i (vw d),t.S⟩):W (AE i d) t U:=W_putV.mpr h
theorem XB(h:U () t):W (Cl []) t U:=W_putNil.mpr h
theorem UR{f:D->M Unit}{g:List D->M Unit}{d:D}(h:W (f d) t λ_ t1=>W (g ds) t1 U):W (AR f g (d::ds)) t U:=W_putCons.mpr h
theorem fN{g:List D->M Unit}(e:ds.length=n)(h:W (g ds) t U):W (unS n g (.lst ds)) t U:=W_unS_lst.mpr ⟨e,h⟩
theorem fO{g:List D->M Unit}(e:ds.length=n)(h:W (g ds) t U):W (unS n g (.tup ds)) t U:=W_unS_tup.mpr ⟨e,h⟩
theorem cD{fr:List Nat}{f:M (List D)}{st:D->M Unit}{tst:M Bool}{elt:M D}(h:W f t λds t1=>W (CK st tst elt ds) ⟨cenv n fr t1.env,t1.S⟩ λxs t'=>HE xs.length (Q xs ⟨t1.env,t'.S⟩)):W (CL n fr f st tst elt) t Q:=W_fComp.mpr h
theorem aQ(h:B true t):W G7 t B:=W_tTru.mpr h
variable{i:Int}
theorem FH{d:D}(e:atI ds i=some d)(h:P d t):W (ixD (.tup ds) (.int i)) t P:=W_ix_tup.mpr ⟨d,e,h⟩
theorem BR{d:D}(e:atI ds i=some d)(h:P d t):W (ixD (.lst ds) (.int i)) t P:=W_ix_lst.mpr ⟨d,e,h⟩
theorem Qr(h:P (.int ds.length) t):W (AY [.lst ds]) t P:=W_len_lst.mpr h
theorem Vo(h:P (.int ds.length) t):W (AY [.tup ds]) t P:=W_len_tup.mpr h
theorem cK{ds:List Int}(h:P (.int ds.length) t):W (AY [.scr ds]) t P:=W_len_scr.mpr h
theorem GR{k:Nat}(e:t.S[k]?=some (.lst ds))(h:P (.int ds.length) t):W (AY [.obj k]) t P:=W_len_obj.mpr ⟨ds,e,h⟩
theorem MA{x:Str}(e:x.length<=LIM)(h:P (.int x.length) t):W (AY [.str x]) t P:=W_len_str.mpr ⟨e,h⟩
theorem fe{d:D}{m n:String}{b:Bool}(e:tyD d=some n)(e':Gn n m=some b)(h:P (.bl b) t):W (Da [d,.ty m]) t P:=W_isi.mpr ⟨n,e,b,e',h⟩
theorem fc{x:D}(h:P (.bl (FN x)) t):W (isC x .non) t P:=W_is_non.mpr h
variable{j:Int}
theorem ci(h:P (.int (i+j)) t):W (AU (.int i) (.int j)) t P:=W_add_int.mpr h
theorem c7(h:P (.int (i-j)) t):W (CO (.int i) (.int j)) t P:=W_sub_int.mpr h
theorem ft(h:P (.bl (decide (i<j))) t):W (ltA (.int i) (.int j)) t P:=W_lt_int.mpr h
theorem fk(h:P (.bl (decide (i<=j))) t):W (leA (.int i) (.int j)) t P:=W_le_int.mpr h
theorem eV(h:P (.bl (decide (j<i))) t):W (gtA (.int i) (.int j)) t P:=W_gt_int.mpr h
theorem eU(h:P (.bl (decide (j<=i))) t):W (geA (.int i) (.int j)) t P:=W_ge_int.mpr h
theorem LH(h1:0<j)(h2:j<1073741824)(h:P (.int (i/j)) t):W (Bv (.int i) (.int j)) t P:=W_fdiv.mpr ⟨⟨h1,h2⟩,h⟩
theorem HR(h1:0<j)(h:P (.int (i%j)) t):W (Bz (.int i) (.int j)) t P:=W_mod.mpr ⟨h1,h⟩
theorem Qs(h1:FP i j=true)(h:P (.int (i*j)) t):W (CN (.int i) (.int j)) t P:=W_mul_int.mpr ⟨h1,h⟩
theorem Vr{x:Str}{k:Int}(h1:C4 k=true/\x.length*k.toNat<=LIM/\k<=LIM/\x.length<=LIM)(h:P (.str (Txt.mul x k)) t):W (CN (.str x) (.int k)) t P:=W_mul_str.mpr ⟨h1,h⟩
theorem ck{x y:Str}(h:HE (x.length+y.length) (P (.str (x++y)) t)):W (AU (.str x) (.str y)) t P:=W_add_str.mpr h
theorem cj{x y:List D}(h:HE (x.length+y.length) (P (.lst (x++y)) t)):W (AU (.lst x) (.lst y)) t P:=W_add_lst.mpr h
theorem eQ{x y:List D}(h:HE (x.length+y.length) (Q (x++y) t)):W (Io (.lst x) (.lst y)) t Q:=W_cat.mpr h
theorem fv(h:P (.int (if j<i then j else i)) t):W (Lo [.int i,.int j]) t P:=W_min.mpr h
theorem fu(h:P (.int (if j > i then j else i)) t):W (Ln [.int i,.int j]) t P:=W_max.mpr h
theorem cI{i:Bool}(h:P (.int (if i then 1 else 0)) t):W (JO [.bl i]) t P:=W_int_bl.mpr h
theorem aO{x:Str}(e:x.length=1)(h:P (.int (x.cps.getD 0 0:Nat)) t):W (JT [.str x]) t P:=W_ord.mpr ⟨e,h⟩
theorem cL(h:Q ds t):W (Gp [.lst ds]) t Q:=W_lst_lst.mpr h
theorem UN{g:Bool->Bool}{x y:Str}(h:P (.bl (g (x==y))) t):W (eqS g (.str x) (.str y)) t P:=W_eq_str.mpr h
theorem aH{g:Bool->Bool}{x y:Int}(h:P (.bl (g (x==y))) t):W (eqS g (.int x) (.int y)) t P:=W_eq_int.mpr h
theorem eR{g:Bool->Bool}{x y:Bool}(h:P (.bl (g (x==y))) t):W (eqS g (.bl x) (.bl y)) t P:=W_eq_bl.mpr h
theorem aI{g:Bool->Bool}{x:List D}(h:P (.bl (g x.isEmpty)) t):W (eqS g (.lst x) (.lst [])) t P:=W_eq_nil.mpr h
theorem fK{lo hi:Option Int}(h:P (.lst (Ci ds lo hi)) t):W (GC (.lst ds) lo hi) t P:=W_sl_lst.mpr h
theorem wSl{l u:M (Option Int)}{h:D->Option Int->Option Int->M D}(w:W f t λx t1=>W l t1 λlo t2=>W u t2 λhi t3=>W (h x lo hi) t3 P):W (fSl f l u h) t P:=W_fSl.mpr w
variable{K:Option Int->T->Prop}
theorem wNo(h:K none t):W fNo t K:=W_fNo.mpr h
theorem eP(h:K (some i) t):W (asI (.int i)) t K:=W_asI.mpr h
theorem cR(h:W f t λx t1=>W (asI x) t1 K):W (Hw f) t K:=W_fPart.mpr h
theorem ff(h:W f t λx t1=>W (DI x) t1 Q):W (Dn f) t Q:=W_fItA.mpr h
theorem fg(h:Q ds t):W (DI (.lst ds)) t Q:=W_it_lst.mpr h
theorem fj(h:Q ds t):W (DI (.tup ds)) t Q:=W_it_tup.mpr h
theorem fh{x:Str}(h:Q (x.cps.toList.map λc=>.str ⟨#[c]⟩) t):W (DI (.str x)) t Q:=W_it_str.mpr h
theorem cV{f:M (List D)}(h:W f t λx t1=>W (Ly x) t1 Q):W (Do f) t Q:=W_fRng1.mpr h
theorem cW{f:M (List D)}(h:W f t λx t1=>W (Lz x) t1 Q):W (GN f) t Q:=W_fRng2.mpr h
theorem IQ(e:C4 j=true)(h:Q (Bo 0 j.toNat) t):W (Ly [.int j]) t Q:=W_rng1.mpr ⟨e,h⟩
theorem US(e:(C4 i&&C4 j)=true)(h:Q (Bo i (j-i).toNat) t):W (Lz [.int i,.int j]) t Q:=W_rng2.mpr ⟨e,h⟩
theorem cQ{i:Nat}{xs:List D}{h:List D->List D->Option (List D)}{g:M (List D)}(e:t.env[i]?=some (some (.own xs)))(w:W g t λds t1=>∃xs,t1.env[i]?=some (some (.own xs))/\∃ys,h xs ds=some ys/\R .next ⟨t1.env.set i (some (.own ys)),t1.S⟩):W (ownM i h g) t R:=W_ownM.mpr ⟨⟨xs,e⟩,w⟩
theorem eN{i:Nat}{xs:List D}{d:D}{A:List D->Prop}(e:t1.env[i]?=some (some (.own xs)))(w:HE (xs.length+1) (A (xs++[d]))):∃xs,t1.env[i]?=some (some (.own xs))/\∃ys,BH xs [d]=some ys/\A ys:=
 ⟨xs,e,_,app1_one.mpr ⟨w.1,rfl⟩,w.2⟩
end
section
variable{i:Nat}{g:Fn}{d':D}
section
variable{t:T}{P:D->T->Prop}{B:Bool->T->Prop}{Q:List D->T->Prop}
theorem c8{n:Int}{ds:List D}{d:D}(e:t.env[i]?=some (vw (.tup ds)))(a:atI ds n=some d)(h:P d t):W (Ac (Aa i) (ia n) ixD) t P:=LG (FI e (wC (FH a h)))
theorem cJ{x y:Str}{ds:List D}{g:Bool->Bool}(e:t.env[i]?=some (vw (.tup (.str y::ds))))(h:B (g (y==x)) t):W (Am (Ac (Ac (Aa i) (ia 0) ixD) (fC (.str x)) (eqS g))) t B:=Qv (LG (LG (FI e (wC (FH GJ (wC (UN (Qu h))))))))
theorem aS{x y:Str}{g:Bool->Bool}(e:t.env[i]?=some (vw (.str y)))(h:B (g (y==x)) t):W (Am (Ac (Aa i) (fC (.str x)) (eqS g))) t B:=Qv (LG (FI e (wC (UN (Qu h)))))
theorem aR{x y:Int}{g:Bool->Bool}(e:t.env[i]?=some (vw (.int y)))(h:B (g (y==x)) t):W (Am (Ac (Aa i) (ia x) (eqS g))) t B:=Qv (LG (FI e (wC (aH (Qu h)))))
theorem Xx{d:D}(e:t.env[i]?=some (vw d))(h:Wf g [d] t.S λr S'=>P r ⟨t.env,S'⟩):W (Ak g (Ab (Aa i) Ad)) t P:=KQ (E4 (FI e (JW h)))
theorem Xy{j:Nat}{d:D}(e:t.env[i]?=some (vw d))(e':t.env[j]?=some (vw d'))(h:Wf g [d,d'] t.S λr S'=>P r ⟨t.env,S'⟩):W (Ak g (Ab (Aa i) (Ab (Aa j) Ad))) t P:=KQ (E4 (FI e (E4 (FI e' (JW h)))))
theorem XA{d:D}(e:t.env[i]?=some (vw d))(h:Wf g [d,d'] t.S λr S'=>P r ⟨t.env,S'⟩):W (Ak g (Ab (Aa i) (Ab (fC d') Ad))) t P:=KQ (E4 (FI e (E4 (wC (JW h)))))
theorem Xz{j k:Nat}{d d'':D}(e:t.env[i]?=some (vw d))(e':t.env[j]?=some (vw d'))(e'':t.env[k]?=some (vw d''))(h:Wf g [d,d',d''] t.S λr S'=>P r ⟨t.env,S'⟩):W (Ak g (Ab (Aa i) (Ab (Aa j) (Ab (Aa k) Ad)))) t P:=KQ (E4 (FI e (E4 (FI e' (E4 (FI e'' (JW h)))))))
end
end
end L2
namespace LW
open PySem L2
set_option compiler.extract_closed false
local macro_rules | `(tactic| clear 31 $t*)=>`(tactic| with_reducible first $[| refine $t ?_]*)
local macro_rules | `(tactic| clear 32 $t*)=>`(tactic| ((with_reducible first $[| refine' $t ?wv ?_]*);(case wv=>exact rfl)))
local macro_rules | `(tactic| clear 33 $t*)=>`(tactic| ((with_reducible first $[| refine' $t ?wv ?_]*);(case wv=>decide)))
local macro_rules | `(tactic| walk_at"w1")=>`(tactic| first
 |clear 32 cJ aS Xx
 |clear 32 aR XA
 |((with_reducible refine' c8 ?wv ?wu ?_);(case wv=>exact rfl);(case wu=>first|exact rfl|exact GJ|exact UX|exact UY))
 |((with_reducible refine' Xy ?wv ?wu ?_);(case wv=>exact rfl);(case wu=>exact rfl))
 |((with_reducible refine' Xz ?wv ?wu ?wt ?_);(case wv=>exact rfl);(case wu=>exact rfl);(case wt=>exact rfl))
 |clear 31 Qt Ft UB fH LG wC E4 JW wIf Qv Qu fG KQ UN aH eR ci c7 cY wB wBF cT fM fq fA aD eT eM wOr fz cq fD cO eZ aE wUn fc ft fk eV eU Qr Vo cK fv fu cI cL ck cj eQ aI wSl wNo cR eP fK ff fg fj fh cV cW JX XB UR cD aQ fE Co cE
 |clear 32 FI Ev fN cQ eN
 |clear 32 DT c9 fO
 |((with_reducible first|refine' FH ?wv ?_|refine' BR ?wv ?_);(case wv=>first|exact rfl|exact GJ|exact UX|exact UY))
 |((with_reducible refine BI ?wv ?_);(case wv=>exact kg rfl))
 |((with_reducible refine' fe ?wv ?wu ?_);(case wv=>exact rfl);(case wu=>exact rfl))
 |((with_reducible refine LH ?wv ?wu ?_);(case wv=>decide);(case wu=>decide))
 |clear 33 HR IQ US)
local macro_rules | `(tactic| right)=>`(tactic| repeat (walk_at"w1"))
structure DeckAt(k c:Nat)(S:List Ob):Prop where
 ne:k≠c
 at_:∃(cells:List Int) (par pos:Int),S[k]?=some (.lst [.obj c,.int par,.int pos])/\S[c]?=some (.lst (cells.map .int))/\cells≠[]/\0<=pos
def gy(k c:Nat)(S S':List Ob):Prop:=S'.length=S.length/\∀j:Nat,j≠k->j≠c->S'[j]?=S[j]?
variable{n:Nat}
theorem Em{i:Int}(h0:0<=i)(h1:i<n):ixN n i=some i.toNat:=by simp[ixN,h0,h1]
variable{S:List Ob}
theorem V5{k:Nat}{o o':Ob}(h:S[k]?=some o):(S.set k o')[k]?=some o':=by
 obtain⟨hl,_⟩:=ub0.mp h;exact ub8 hl
inductive Sh where
 |nothing|number (lo hi:Int)|text (m:Int)|list (s:Sh) (m:Int)|pair (s r:Sh)|choice (ss:List Sh)
mutual
noncomputable def Sh.d:Sh->D
 |.nothing=>.tup [.str "nothing"]
 |.number lo hi=>.tup [.str "number",.int lo,.int hi]
 |.text m=>.tup [.str "text",.int m]
 |.list s m=>.tup [.str "list",s.d,.int m]
 |.pair s r=>.tup [.str "pair",s.d,r.d]
 |.choice ss=>.tup [.str "choice",.tup (shD ss)]
noncomputable def shD:List Sh->List D
 |[]=>[]
 |s::r=>s.d::shD r
end
mutual
noncomputable def Sh.depth:Sh->Nat
 |.nothing=>1
 |.number _ _=>1
 |.text _=>1
 |.list s _=>s.depth+1
 |.pair s r=>max s.depth r.depth+1
 |.choice ss=>FQ ss+1
noncomputable def FQ:List Sh->Nat
 |[]=>0
 |s::r=>max s.depth (FQ r)
end
theorem DO:∀ss:List Sh,(shD ss).length=ss.length
 |[]=>rfl
 |s::r=>by simp[shD,DO r]
theorem FY:∀(ss:List Sh) (k:Nat),(shD ss)[k]?=(ss[k]?).map Sh.d
 |[],k=>by simp[shD]
 |s::r,0=>by simp[shD]
 |s::r,k+1=>by simp[shD,FY r k]
theorem Cn:∀(ss:List Sh) (k:Nat) (s:Sh),ss[k]?=some s->s.depth<=FQ ss
 |[],k,s,h=>by simp at h
 |s::r,0,s',h=>by simp at h;subst h;simp[FQ];lia
 |s::r,k+1,s',h=>by
   have:=Cn r k s' (by simpa using h);simp[FQ];lia
theorem Sh.depth_pos(s:Sh):1<=s.depth:=by cases s<;>simp[Sh.depth]
noncomputable def BK(n:Nat):Bool:=decide (32<=n)&&decide (n<=126)&&decide (n≠37)
noncomputable def HD:Str->Bool:=λo=>o==("of":Str)
mutual
def Aj:Sh->D->Bool
 |.nothing,d=>FN d
 |.number lo hi,d=>match d with
   |.int i=>decide (lo<=i)&&decide (i<=hi)
   |_=>false
 |.text m,d=>match d with
   |.str x=>decide ((x.length:Int)<=m)&&x.cps.toList.all BK
   |_=>false
 |.list s m,d=>match d with
   |.lst ds=>decide ((ds.length:Int)<=m)&&ds.all λe=>Aj s e
   |_=>false
 |.pair s r,d=>match d with
   |.tup [a,b]=>Aj s a&&Aj r b
   |_=>false
 |.choice ss,d=>match d with
   |.tup [.str o,.int k,x]=>HD o&&(decide (0<=k)&&decide (k<ss.length))&&Ku ss k.toNat x
   |_=>false
def Ku:List Sh->Nat->D->Bool
 |[],_,_=>false
 |s::_,0,d=>Aj s d
 |_::r,k+1,d=>Ku r k d
end
theorem Cj:∀(ss:List Sh) (k:Nat) (s:Sh) (d:D),ss[k]?=some s->Ku ss k d=Aj s d
 |[],k,s,d,h=>by simp at h
 |s::r,0,s',d,h=>by simp at h;subst h;simp[Ku]
 |s::r,k+1,s',d,h=>by rw[Ku];exact Cj r k s' d (by simpa using h)
mutual
noncomputable def okD:D->Bool
 |.str x=>decide (x.length<=90000)
 |.tup xs=>oks xs
 |.lst xs=>oks xs
 |.obj _=>false
 |.scr _=>false
 |.exc _ _=>false
 |.gts _=>false
 |.ty _=>false
 |_=>true
noncomputable def oks:List D->Bool
 |[]=>true
 |d::r=>okD d&&oks r
end
theorem Jf:∀{xs:List D},oks xs=true->∀d∈xs,okD d=true
 |x::r,h,d,m=>by
   rw[oks,ug9] at h;rcases uk3.mp m with z|z
   .subst z;exact h.1
   .exact Jf h.2 d z
abbrev Pure1(f:Fn)(ds:List D)(r:D):Prop:=∀S,Wf f ds S λv S'=>v=r/\S'=S
variable{ds:List D}
theorem Pure1.use{f:Fn}{r:D}(h:Pure1 f ds r){S:List Ob}{P:D->List Ob->Prop}(p:P r S):Wf f ds S P:=(h S).mono λ_ _ ⟨e1,e2⟩=>by subst e1 e2;exact p
noncomputable def Rh:D->Bool
 |.int _=>true
 |_=>false
theorem Nm{d:D}(h:okD d=true):Pure1 (fnOf 1 1 GZ) [d] (.bl (Rh d)):=by
 intro S;refine Al rfl ?_;unfold GZ
 cases d<;>first|(simp[okD] at h;done)|(right;exact⟨rfl,rfl⟩)
noncomputable def DR(lo hi:Int):D->Bool
 |.int i=>decide (lo<=i)&&decide (i<=hi)
 |_=>false
def Of(f:Fn):Prop:=∀d,okD d=true->Pure1 f [d] (.bl (Rh d))
def C5(f:Fn):Prop:=∀d lo hi,okD d=true->Pure1 f [d,.int lo,.int hi] (.bl (DR lo hi d))
variable{c:Fn}
theorem SM(hc:Of c):C5 (fnOf 3 3 (Ec c)):=by
 intro d lo hi h S;refine Al rfl ?_;unfold Ec;right;refine(hc d h).use ?_
 cases d with
 |int i=>
   right;refine Eu (λe=>?_) λe=>?_
   .right;exact⟨by simp only[DR,e,ul0],rfl⟩
   .exact⟨by simp only[DR,e,uj7],rfl⟩
 |_=>right;exact⟨rfl,rfl⟩
def J8(f:Fn):Prop:=∀n:Nat,Pure1 f [.int n] (.bl (BK n))
theorem PN:J8 (fnOf 1 1 IB):=by
 intro n S;refine Al rfl ?_;unfold IB;right;have c1:decide ((32:Int)<=n)=decide (32<=n):=decide_eq_decide.mpr (by lia);have c2:decide ((n:Int)<=126)=decide (n<=126):=decide_eq_decide.mpr (by lia);have c3:(!((n:Int)==37))=decide (n≠37):=by
  by_cases h:n=37
  .subst h;rfl
  .have:¬((n:Int)=37):=by lia
   simp[h,this]
 rw[c1];refine Eu (λe=>?_) λe=>?_
 .right;rw[c2];refine Eu (λe'=>?_) λe'=>?_
  .right;exact⟨by simp only[BK,e,e',c3,ul0],rfl⟩
  .exact⟨by simp only[BK,e,e',uj7,uj9],rfl⟩
 .right;exact⟨by simp only[BK,e,uj7],rfl⟩
def MK(f:Fn):Prop:=∀m d,okD d=true->Pure1 f [(Sh.text m).d,d] (.bl (Aj (.text m) d))
theorem Ng(hc:J8 c):MK (fnOf 2 3 (GY c)):=by
 intro m d h S;refine Al rfl ?_;unfold GY;rw[Sh.d]
 cases d with
 |str x=>
   have hx:x.length<=LIM:=ul7 (by simpa[okD] using h) (show 90000<=LIM by decide);right;refine MA hx ?_;right;refine Eu (λe=>?_) λe=>?_
   .right;have:¬((x.length:Int)<=m):=by have:=ug3 e;lia
    exact⟨by simp[Aj,this],rfl⟩
   .right;have e':(x.length:Int)<=m:=by have:=kt e;lia
    refine Dl (λr t=>t.S=S/\∃cs:List Nat,r=cs.map (λc=>D.str ⟨#[c]⟩)/\(x.cps.toList.all BK=cs.all BK)/\∃z,t.env=[vw (.tup [.str "text",.int m]),vw (.str x),z]) _ _ ⟨rfl,x.cps.toList,rfl,rfl,_,rfl⟩ ?_ ?_
    .rintro d r t ⟨hs,cs,hr,hall,z,ht⟩ _;clear 5 t env S2;subst hs ht
     cases cs with
     |nil=>simp at hr
     |cons c cs=>
       simp only[uk4,List.cons.injEq] at hr;clear 5 hr rfl rfl;right;refine aO rfl ?_;right;refine(hc c).use ?_;right;refine Eu (λq=>?_) λq=>?_
       .right;have q':BK c=false:=by simpa using q
        refine⟨?_,rfl⟩;simp only[Aj,hall,uk6,q',uj7,uj9]
       .right;have q':BK c=true:=by simpa using q
        exact⟨rfl,cs,rfl,by rw[hall,uk6,q',ul0],_,rfl⟩
    .rintro t ⟨hs,cs,hr,hall,z,ht⟩;clear 5 t env S2;subst hs ht;have:cs=[]:=by cases cs with|nil=>rfl|cons _ _=>simp at hr
     subst this;right;exact⟨by simp[Aj,e',hall],rfl⟩
 |obj _=>simp[okD] at h
 |scr _=>simp[okD] at h
 |ty _=>simp[okD] at h
 |exc _ _=>simp[okD] at h
 |gts _=>simp[okD] at h
 |_=>right;exact⟨by simp[Aj],rfl⟩
def FZ(f:Fn)(n:Nat):Prop:=∀s:Sh,s.depth<=n->∀d,okD d=true->Pure1 f [s.d,d] (.bl (Aj s d))
def QA(f:Fn)(n:Nat):Prop:=∀(s:Sh) (m:Int),s.depth<=n->∀d,okD d=true->Pure1 f [(Sh.list s m).d,d] (.bl (Aj (.list s m) d))
theorem Nd(hc:FZ c n):QA (fnOf 2 3 (GW c)) n:=by
 intro s m hs d h S;refine Al rfl ?_;unfold GW;rw[Sh.d]
 cases d with
 |lst ds=>
   have hx:∀d∈ds,okD d=true:=Jf (by simpa[okD] using h);right;refine Eu (λe=>?_) λe=>?_
   .right;have:¬((ds.length:Int)<=m):=by have:=ug3 e;lia
    exact⟨by simp[Aj,this],rfl⟩
   .right;have e':(ds.length:Int)<=m:=by have:=kt e;lia
    refine Dl (λr t=>t.S=S/\(ds.all (λe=>Aj s e)=r.all λe=>Aj s e)/\∃z,t.env=[vw (.tup [.str "list",s.d,.int m]),vw (.lst ds),z]) _ _ ⟨rfl,rfl,_,rfl⟩ ?_ ?_
    .rintro d r t ⟨hS,hall,z,ht⟩ hm;clear 5 t env S2;subst hS ht;right;refine(hc s hs d (hx d hm)).use ?_;right;refine Eu (λq=>?_) λq=>?_
     .right;have q':Aj s d=false:=by simpa using q
      refine⟨?_,rfl⟩;simp only[Aj,hall,uk6,q',uj7,uj9]
     .right;have q':Aj s d=true:=by simpa using q
      exact⟨rfl,by rw[hall,uk6,q',ul0],_,rfl⟩
    .rintro t ⟨hS,hall,z,ht⟩;clear 5 t env S2;subst hS ht;right;exact⟨by simp only[Aj,e',decide_true,hall,List.all_nil,ul0],rfl⟩
 |obj _=>simp[okD] at h
 |scr _=>simp[okD] at h
 |ty _=>simp[okD] at h
 |exc _ _=>simp[okD] at h
 |gts _=>simp[okD] at h
 |_=>right;exact⟨by simp[Aj],rfl⟩
def QE(f:Fn)(n:Nat):Prop:=∀(s r:Sh),s.depth<=n->r.depth<=n->∀d,okD d=true->Pure1 f [(Sh.pair s r).d,d] (.bl (Aj (.pair s r) d))
theorem Nf(hc:FZ c n):QE (fnOf 2 2 (GX c)) n:=by
 intro s r hs hr d h S;refine Al rfl ?_;unfold GX;rw[Sh.d]
 cases d with
 |tup ds=>
   have hx:∀d∈ds,okD d=true:=Jf (by simpa[okD] using h);right
   match ds,hx with
   |[],_=>right;exact⟨by simp[Aj],rfl⟩
   |[a],_=>right;exact⟨by simp[Aj],rfl⟩
   |[a,b],hx=>
     right;refine(hc s hs a (hx a (by simp))).use ?_;right;refine Eu (λe=>?_) λe=>?_
     .right;refine(hc r hr b (hx b (by simp))).use ?_;exact⟨by simp only[Aj,e,ul0],rfl⟩
     .exact⟨by simp only[Aj,e,uj7],rfl⟩
   |a::b::e::l,_=>
     refine Ev ?_ ?_
     .show(!(((a::b::e::l).length:Int)==2))=true;simp;lia
     right;exact⟨by simp[Aj],rfl⟩
 |obj _=>simp[okD] at h
 |scr _=>simp[okD] at h
 |ty _=>simp[okD] at h
 |exc _ _=>simp[okD] at h
 |gts _=>simp[okD] at h
 |_=>right;exact⟨by simp[Aj],rfl⟩
def MD(f:Fn)(n:Nat):Prop:=∀(ss:List Sh),FQ ss<=n->∀d,okD d=true->Pure1 f [(Sh.choice ss).d,d] (.bl (Aj (.choice ss) d))
theorem Ll{c':Fn}(hc:FZ c n)(hw:C5 c'):MD (fnOf 2 2 (FA c c')) n:=by
 intro ss hs d h S;refine Al rfl ?_;unfold FA;rw[Sh.d]
 cases d with
 |tup ds=>
   have hx:∀d∈ds,okD d=true:=Jf (by simpa[okD] using h);right
   match ds,hx with
   |[],_=>right;exact⟨by simp[Aj],rfl⟩
   |[a],_=>right;exact⟨by simp[Aj],rfl⟩
   |[a,b],_=>right;exact⟨by simp[Aj],rfl⟩
   |[a,b,e],hx=>
     right;have ha:=hx a (by simp)
     cases a with
     |str o=>
       right;refine Eu (λq=>?_) λq=>?_
       .right;have q':HD o=false:=by simpa[HD] using q
        refine⟨?_,rfl⟩
        cases b<;>simp only[Aj,q',uj7]
       .right;have q':HD o=true:=by simpa[HD] using q
        refine(hw b 0 _ (hx b (by simp))).use ?_;right
        cases b with
        |int k=>
          refine Eu (λq=>?_) λq=>?_
          .right;refine⟨?_,rfl⟩;have:(decide (0<=k)&&decide (k<(ss.length:Int)))=false:=by
            have q2:k<0\/((shD ss).length:Int)-1<k:=by simpa[DR] using q
            rw[DO] at q2;simp;lia
           simp only[Aj,this,uj7,uj9]
          .have q2:0<=k/\k<=((shD ss).length:Int)-1:=by simpa[DR] using q
           have q3:=q2;rw[DO] at q3;have hk:k.toNat<ss.length:=by lia
           have e1:ss[k.toNat]?=some ss[k.toNat]:=ub3 hk;have e2:atI (shD ss) k=some (ss[k.toNat]).d:=by
            unfold atI;rw[DO,Em q3.1 (by lia)];simp[FY,e1]
           right;refine FH e2 ?_;right;refine(hc _ (ul7 (Cn ss _ _ e1) hs) e (hx e (by simp))).use ?_;refine⟨?_,rfl⟩;have:(decide (0<=k)&&decide (k<(ss.length:Int)))=true:=by simp;lia
           simp only[Aj,q',this,ul0,Cj ss _ _ e e1]
        |_=>
          right;exact⟨by simp[Aj],rfl⟩
     |obj _=>simp[okD] at ha
     |scr _=>simp[okD] at ha
     |ty _=>simp[okD] at ha
     |exc _ _=>simp[okD] at ha
     |gts _=>simp[okD] at ha
     |_=>right;exact⟨by simp[Aj],rfl⟩
   |a::b::e::f::l,_=>
     refine Ev ?_ ?_
     .show(!(((a::b::e::f::l).length:Int)==3))=true;simp;lia
     right;exact⟨by simp[Aj],rfl⟩
 |obj _=>simp[okD] at h
 |scr _=>simp[okD] at h
 |ty _=>simp[okD] at h
 |exc _ _=>simp[okD] at h
 |gts _=>simp[okD] at h
 |_=>right;exact⟨by simp[Aj],rfl⟩
variable{cc cp cl ct cw:Fn}
theorem VS(h1:MD cc n)(h2:QE cp n)(h3:QA cl n)(h4:MK ct)(h5:C5 cw):FZ (fnOf 2 3 (Nt cc cp cl ct cw)) (n+1):=by
 intro s hs d h S;refine Al rfl ?_;unfold Nt
 cases s with
 |nothing=>
   rw[Sh.d];right;exact⟨by rw[Aj],rfl⟩
 |number lo hi=>
   rw[Sh.d];right;refine(h5 d lo hi h).use ⟨?_,rfl⟩
   cases d<;>simp[Aj,DR]
 |text m=>
   rw[Sh.d];right;exact(h4 m d h).use ⟨rfl,rfl⟩
 |list s m=>
   rw[Sh.depth] at hs;have q:=h3 s m (by lia) d h;rw[Sh.d] at q⊢;right;exact q.use ⟨rfl,rfl⟩
 |pair s r=>
   rw[Sh.depth] at hs;have q:=h2 s r (by lia) (by lia) d h;rw[Sh.d] at q⊢;right;exact q.use ⟨rfl,rfl⟩
 |choice ss=>
   rw[Sh.depth] at hs;have q:=h1 ss (by lia) d h;rw[Sh.d] at q⊢;right;exact q.use ⟨rfl,rfl⟩
theorem LX(x:Array Nat):∀(n:Nat) (acc:Array Nat),((List.replicate n x).foldl (·++·) acc).toList=acc.toList++(List.replicate n x.toList).flatten
 |0,acc=>by simp
 |n+1,acc=>by
   rw[ud8,ui7,LX x n,ud8,uf6];simp
set_option tactic.hygienic true in
theorem Rz{x:Str}{k:Int}:(Txt.mul x k).cps.toList=(List.replicate k.toNat x.cps.toList).flatten:=by
 unfold Txt.mul
 split
 .have:k.toNat=0:=by lia
  rw[this];rfl
 .split
  .next h=>
   rw[Bool.or_eq_true] at h;rcases h with h|h
   .have:k=1:=by simpa using h
    subst this;simp
   .have:x.cps.toList=[]:=by
     have h':x.length=0:=by simpa using h
     exact ua2 (by simpa[Str.length] using h')
    rw[this];simp
  .have:=LX x.cps k.toNat #[];simpa using this
theorem Fr(x:Str):x.length=x.cps.toList.length:=by simp[Str.length]
theorem LL(x y:Str):(x++y).cps.toList=x.cps.toList++y.cps.toList:=by
 show(x.cps++y.cps).toList=_;simp
variable{α:Type}
theorem WY(a:α)(k:Nat):(List.replicate k [a]).flatten=List.replicate k a:=by
 induction k with
 |zero=>rfl
 |succ k ih=>rw[ud8,uf6,ih,ud8];rfl
variable{elt:M D}
theorem GI{f:D->D}{fr:List (Option Sl)}{z:Option Sl}(h:∀d∈ds,W elt ⟨vw d::fr,S⟩ λx t'=>x=f d/\t'=⟨vw d::fr,S⟩) :
 W (CK (AE 0) G7 elt ds) ⟨z::fr,S⟩ λxs t'=>xs=ds.map f/\t'.S=S:=by
 refine(ML (P:=λxs t'=>xs=ds.map f/\t'.S=S) (λacc r t=>acc++r.map f=ds.map f/\∃z,t=⟨z::fr,S⟩) ds [] _ ⟨rfl,z,rfl⟩ ?_ ?_).mono λxs t' h=>h
 .rintro acc d r t ⟨h1,z,rfl⟩ hm;refine JX (aQ ?_);rw[lD rfl];refine(h d hm).mono λx t' z9=>?_;clear 5 z9 e1 e2;subst e1 e2;exact⟨by rw[uf7];exact h1,_,rfl⟩
 .rintro acc t ⟨h1,z,rfl⟩;exact⟨by simpa using h1,rfl⟩
mutual
noncomputable def sz:D->Nat
 |.tup xs=>szs xs+1
 |.lst xs=>szs xs+1
 |_=>1
noncomputable def szs:List D->Nat
 |[]=>0
 |d::r=>sz d+szs r
end
theorem Xr{x y:Str}(h:x.cps.toList=y.cps.toList):x=y:=by
 cases x;cases y
 congr
 exact Array.toList_inj.mp h
mutual
noncomputable def wf:Sh->Bool
 |.nothing=>true
 |.number lo hi=>decide (-1000000000000000000<lo)&&decide (lo<=hi)&&decide (hi<1000000000000000000)
 |.text m=>decide (0<=m)&&decide (m<=250)
 |.list s m=>decide (0<=m)&&decide (m<=250)&&wf s
 |.pair s r=>wf s&&wf r
 |.choice ss=>decide (1<=ss.length)&&decide (ss.length<=9)&&wfs ss
noncomputable def wfs:List Sh->Bool
 |[]=>true
 |s::r=>wf s&&wfs r
end
mutual
noncomputable def cnt:Sh->Nat
 |.list s _=>cnt s+1
 |.pair s r=>cnt s+cnt r+1
 |.choice ss=>Yc ss+1
 |_=>1
noncomputable def Yc:List Sh->Nat
 |[]=>0
 |s::r=>cnt s+Yc r
end
theorem DQ:∀{ss:List Sh},wfs ss=true->∀s∈ss,wf s=true
 |x::r,h,s,m=>by
   rw[wfs,ug9] at h;rcases uk3.mp m with z|z
   .subst z;exact h.1
   .exact DQ h.2 s z
def Pd(k c l:Nat)(S S':List Ob):Prop:=S'.length=S.length/\∀j:Nat,j≠k->j≠c->j≠l->S'[j]?=S[j]?
noncomputable def Ql(deep:Int):Int:=if deep<2 then 0 else 2*deep+4
def bd(deep x:Int):Int:=if deep<2 then 1 else max x 1+Ql deep-(if deep+1<=x then 1 else 0)
def tb(deep y i:Int):Int:=if deep=2 then i else if i=0 then 0 else y+Ql (deep-1)+i-1-(if deep<=y then 1 else 0)
structure ShapeRes(k c l:Nat)(S:List Ob)(deep x:Int)(s:Sh)(S':List Ob):Prop where
 w:wf s=true
 dep:(s.depth:Int)<=max deep 1
 lft:S'[l]?=some (.lst [.int (x-cnt s)])
 one:x<=1->cnt s=1
 few:(cnt s:Int)<=max x 1+Ql deep
 deck:DeckAt k c S'
 kp:Pd k c l S S'
 few2:(cnt s:Int)<=bd deep x
theorem Nw{k:Int}:(Txt.mul ⟨#[n]⟩ k).cps.toList=List.replicate k.toNat n:=by rw[Rz];exact WY n k.toNat
theorem No{k:Int}:(Txt.mul ⟨#[n]⟩ k).length=k.toNat:=by rw[Fr,Nw,uc8]
theorem SU{k:Int}(h:BK n=true):(Txt.mul ⟨#[n]⟩ k).cps.toList.all BK=true:=by
 rw[Nw,uh4];intro x hx;rw[jr hx];exact h
structure Sep(ks:List (Nat×Nat)):Prop where
 sep:∀p∈ks,∀q∈ks,p=q\/(q.1≠p.1/\q.1≠p.2/\q.2≠p.1/\q.2≠p.2)
mutual
noncomputable def dpt:D->Nat
 |.lst ds=>Ge ds+1
 |.tup ds=>Ge ds+1
 |_=>1
noncomputable def Ge:List D->Nat
 |[]=>0
 |d::r=>max (dpt d) (Ge r)
end
theorem Ot:∀{ds:List D}{n:Nat},(∀d∈ds,dpt d<=n)->Ge ds<=n
 |[],n,_=>by simp[Ge]
 |x::r,n,h=>by
   rw[Ge];have h1:=h x ue2;have h2:=Ot λd m=>h d (ud1 _ m);lia
theorem Os(d:D):0<dpt d:=by cases d<;>simp[dpt]
mutual
noncomputable def smD:D->Bool
 |.str x=>decide (x.length<=300)
 |.int i=>decide (-1000000000000000000000000<i)&&decide (i<1000000000000000000000000)
 |.tup xs=>decide (xs.length<=300)&&sms xs
 |.lst xs=>decide (xs.length<=300)&&sms xs
 |.obj _=>false
 |.scr _=>false
 |.ty _=>false
 |.exc _ _=>false
 |.gts _=>false
 |_=>true
noncomputable def sms:List D->Bool
 |[]=>true
 |d::r=>smD d&&sms r
end
theorem Ss:∀{xs:List D},(∀d∈xs,smD d=true)->sms xs=true
 |[],_=>rfl
 |x::r,h=>by
   rw[sms,ug9];exact⟨h x ue2,Ss λd m=>h d (ud1 _ m)⟩
mutual
theorem Vj:∀{d:D},smD d=true->okD d=true
 |.str x,h=>by rw[smD,ug2] at h;rw[okD,ug2];lia
 |.tup xs,h=>by rw[smD,ug9] at h;rw[okD];exact NX h.2
 |.lst xs,h=>by rw[smD,ug9] at h;rw[okD];exact NX h.2
 |.obj _,h=>by simp[smD] at h
 |.scr _,h=>by simp[smD] at h
 |.ty _,h=>by simp[smD] at h
 |.non,_=>by simp[okD]
 |.bl _,_=>by simp[okD]
 |.int _,_=>by simp[okD]
 |.dic,_=>by simp[okD]
theorem NX:∀{xs:List D},sms xs=true->oks xs=true
 |[],_=>by simp[oks]
 |d::r,h=>by rw[sms,ug9] at h;rw[oks,ug9];exact⟨Vj h.1,NX h.2⟩
end
theorem Fo{f:D->D->Option Bool}:∀{xs:List D},(∀d∈xs,f d d=some true)->DS f xs xs=some true
 |[],_=>rfl
 |x::r,h=>by
   rw[DS,h x ue2,Fo λd m=>h d (ud1 _ m)];rfl
theorem D3:∀(n:Nat) (d:D),dpt d<=n->smD d=true->d≠.dic->(∀xs,d=.lst xs\/d=.tup xs->∀x∈xs,eqN (n-1) x x=some true)->eqN n d d=some true
 |0,d,hd,_,_,_=>absurd hd (by have:=Os d;lia)
 |n+1,.lst xs,_,_,_,h=>by
   rw[eqN,lD rfl];exact Fo (h xs (.inl rfl))
 |n+1,.tup xs,_,_,_,h=>by
   have e:DS (eqN n) xs xs=some true:=Fo (h xs (.inr rfl));rw[eqN,e];simp
 |n+1,.non,_,_,_,_=>rfl
 |n+1,.bl b,_,_,_,_=>by show some (b==b)=some true;rw[uh9]
 |n+1,.int b,_,_,_,_=>by show some (b==b)=some true;rw[uh9]
 |n+1,.str b,_,_,_,_=>by show some (b==b)=some true;rw[uh9]
 |n+1,.dic,_,_,h,_=>absurd rfl h
 |n+1,.obj _,_,h,_,_=>by simp[smD] at h
 |n+1,.scr _,_,h,_,_=>by simp[smD] at h
 |n+1,.ty _,_,h,_,_=>by simp[smD] at h
set_option tactic.hygienic true in
theorem Hb:∀(n:Nat) (s:Sh),s.depth<=n->wf s=true->∀d,Aj s d=true->smD d=true/\dpt d<=s.depth/\∀m,s.depth<=m->eqN m d d=some true
 |0,s,h,_,_,_=>absurd s.depth_pos (by lia)
 |n+1,s,hs,hw,d,hf=>by
   have l2:(Str.ofString "of").length<=300:=by decide +kernel
   cases s with
   |nothing=>
     cases d<;>simp[Aj,FN] at hf
     refine⟨rfl,by simp[dpt,Sh.depth],λm hm=>?_⟩;have:=(Sh.nothing).depth_pos;obtain⟨m,rfl⟩:∃k,m=k+1:=jt (by lia);exact D3 _ _ (by simp[dpt]) rfl (by simp) (by simp)
   |number lo hi=>
     simp only[wf,ug9,ug2] at hw
     cases d<;>simp[Aj] at hf
     rename_i i;have sm:smD (.int i)=true:=by
      simp only[smD,ug9,ug2];lia
     refine⟨sm,by simp[dpt,Sh.depth],λm hm=>?_⟩;rw[Sh.depth] at hm;obtain⟨m,rfl⟩:∃k,m=k+1:=jt (by lia);exact D3 _ _ (by simp[dpt]) sm (by simp) (by simp)
   |text q=>
     simp only[wf,ug9,ug2] at hw
     cases d<;>simp[Aj] at hf
     rename_i x;have sm:smD (.str x)=true:=by
      simp only[smD,ug2];lia
     refine⟨sm,by simp[dpt,Sh.depth],λm hm=>?_⟩;rw[Sh.depth] at hm;obtain⟨m,rfl⟩:∃k,m=k+1:=jt (by lia);exact D3 _ _ (by simp[dpt]) sm (by simp) (by simp)
   |list s q=>
     simp only[wf,ug9,ug2] at hw;rw[Sh.depth] at hs
     cases d<;>simp only[Aj,ue7] at hf
     rename_i ds;rw[ug9,ug2,uh4] at hf;have ih:=λd m=>Hb n s (by lia) hw.2 d (hf.2 d m);have sm:smD (.lst ds)=true:=by
      rw[smD,ug9,ug2];exact⟨by lia,Ss λd m=>(ih d m).1⟩
     have dd:Ge ds<=s.depth:=Ot λd m=>(ih d m).2.1;refine⟨sm,by rw[dpt,Sh.depth];lia,λm hm=>?_⟩;rw[Sh.depth] at hm;obtain⟨m,rfl⟩:∃k,m=k+1:=jt (by lia);refine D3 _ _ (by rw[dpt];lia) sm (by simp) λxs e x hx=>?_;rcases e with e|e
     .cases e;exact(ih x hx).2.2 m (by lia)
     .cases e
   |pair s r=>
     simp only[wf,ug9] at hw;rw[Sh.depth] at hs;unfold Aj at hf
     split at hf
     case h_2=>cases hf
     case h_1 a b=>
      rw[ug9] at hf;have i1:=Hb n s (by lia) hw.1 a hf.1;have i2:=Hb n r (by lia) hw.2 b hf.2;have sm:smD (.tup [a,b])=true:=by simp[smD,sms,i1.1,i2.1]
      have h1:=i1.2.1;have h2:=i2.2.1;refine⟨sm,by simp only[dpt,Ge,Sh.depth];lia,λm hm=>?_⟩;rw[Sh.depth] at hm;obtain⟨m,rfl⟩:∃k,m=k+1:=jt (by lia);refine D3 _ _ (by simp only[dpt,Ge];lia) sm (by simp) λxs e x hx=>?_;rcases e with e|e
      .cases e
      .cases e
       simp only[uk3,uh6,lw] at hx;rcases hx with rfl|rfl
       .exact i1.2.2 m (by lia)
       .exact i2.2.2 m (by lia)
   |choice ss=>
     simp only[wf,ug9,ug2] at hw;rw[Sh.depth] at hs;unfold Aj at hf
     split at hf
     case h_2=>cases hf
     case h_1 o k x=>
      simp only[ug9,ug2] at hf;obtain⟨⟨ho,k0,k1⟩,hf⟩:=hf;have hk:k.toNat<ss.length:=by lia
      have e1:ss[k.toNat]?=some ss[k.toNat]:=ub3 hk;rw[Cj ss _ _ _ e1] at hf;have hd:=Cn ss _ _ e1;have ih:=Hb n _ (by lia) (DQ hw.2 _ (uh7 hk)) x hf;have ho':o.length<=300:=by
       have:o=("of":Str):=by simpa[HD] using ho
       subst this;exact l2
      have sm:smD (.tup [.str o,.int k,x])=true:=by
       simp only[smD,sms,ih.1,uk9,ug9,ug2,ug5,uj0];lia
      have h1:=ih.2.1;have h2:=Os x;have p1:=(ss[k.toNat]).depth_pos;refine⟨sm,by simp only[dpt,Ge,Sh.depth];lia,λm hm=>?_⟩;rw[Sh.depth] at hm;obtain⟨m,rfl⟩:∃k,m=k+1:=jt (by lia);refine D3 _ _ (by simp only[dpt,Ge];lia) sm (by simp) λxs e y hy=>?_;rcases e with e|e
      .cases e
      .cases e
       obtain⟨m',rfl⟩:∃k,m=k+1:=jt (by lia);simp only[uk3,uh6,lw] at hy;rcases hy with rfl|rfl|rfl
       .exact D3 _ _ (by simp[dpt]) (by simp[smD,ho']) (by simp) (by simp)
       .exact D3 _ _ (by simp[dpt]) (by simp only[smD,ug9,ug2];lia) (by simp) (by simp)
       .exact ih.2.2 _ (by lia)
variable{t:T}{P:D->T->Prop}
theorem DP{d:D}{g:Bool->Bool}(h0:Nl d=false)(h:eqN EQD d d=some true)(p:P (.bl (g true)) t):W (eqS g d d) t P:=⟨_,_,by simp[eqS,h0,h],p⟩
structure ValueRes(k c l:Nat)(S:List Ob)(s:Sh)(r:D)(S':List Ob):Prop where
 fit:Aj s r=true
 lft:∃a b:Int,S'[l]?=some (.lst [.int a,.int b])
 deck:DeckAt k c S'
 kp:Pd k c l S S'
theorem Jp{f:M (List D)}{P:Out->T->Prop}(h:W f t λds t1=>P (.ret (.lst ds)) t1):W (HK f) t P:=W_bnd.mpr (h.mono λ_ _ p=>W_ret.mpr p)
theorem Hl{g:Fn}{f:M (List D)}{P:List D->T->Prop}(h:W f t λds t1=>Wf g ds t1.S λr S'=>∃rs,r=.lst rs/\P rs ⟨t1.env,S'⟩):W (Ez g f) t P:=by
 refine W_bnd.mpr (h.mono λds t1 z9=>?_);clear 5 z9 r S' e rs er p;subst er;exact⟨rs,⟨t1.env,S'⟩,by simp only[e],p⟩
variable{i:Nat}{xs:List D}
theorem XH{P:Out->T->Prop}(e:t.env[i]?=some (some (.own xs)))(h:P (.ret (.lst xs)) ⟨t.env.set i none,t.S⟩):W (Hi i) t P:=⟨_,_,by simp only[Hi,e],h⟩
theorem cA{i:Int}(h:P (.int (Builtin.Int.intBits i:Nat)) t):W (Kb (.int i)) t P:=⟨_,_,rfl,h⟩
theorem fJ{i j:Int}(h0:0<=j)(h:P (.int (i/2 ^ j.toNat)) t):W (NT (.int i) (.int j)) t P:=⟨_,_,by simp[NT,i2C,h0],h⟩
variable{ys:List D}{t1:T}
theorem eS{A:List D->Prop}(e:t1.env[i]?=some (some (.own xs)))(l:xs.length+ys.length<=LIM)(w:A (xs++ys)):∃xs,t1.env[i]?=some (some (.own xs))/\∃zs,EV xs [.lst ys]=some zs/\A zs:=
 ⟨xs,e,xs++ys,by simp[EV,l],w⟩
set_option tactic.hygienic true in
theorem F5{f:M Bool}{b:M Out}{P:Out->T->Prop}(I:Nat->T->Prop)(turn:∀n t,I n t->W f t λk t1=>match k with
 |true=>∃m,n=m+1/\W b t1 λo t2=>match o with
   |.next=>I m t2
   |.cont=>I m t2
   |.brk=>P .next t2
   |.ret x=>P (.ret x) t2
 |false=>P .next t1):∀(fuel n:Nat) (t:T),n<fuel->I n t->W (DL f b fuel) t P
 |0,n,t,h,_=>absurd h (Nat.not_lt_zero _)
 |fuel+1,n,t,h,i=>by
   clear 5(turn n t i)k t1 e1 p
   cases k with
   |false=>exact⟨_,_,by simp only[DL,e1],p⟩
   |true=>
     clear 5 p m rfl o t2 e2 p
     cases o with
     |next=>clear 5(F5 I turn fuel m t2 (by lia) p)o t' e' p;exact⟨o,t',by simp only[DL,e1,e2];exact e',p⟩
     |cont=>clear 5(F5 I turn fuel m t2 (by lia) p)o t' e' p;exact⟨o,t',by simp only[DL,e1,e2];exact e',p⟩
     |brk=>exact⟨_,_,by simp only[DL,e1,e2],p⟩
     |ret x=>exact⟨_,_,by simp only[DL,e1,e2],p⟩
noncomputable def wid(n:Nat):Nat:=if n=0 then 0 else n.log2/8+1
theorem Rp(h:2<=n):n.log2=(n/2).log2+1:=by rw[Nat.log2_def,lD h]
theorem TQ(h:n<2):n.log2=0:=by rw[Nat.log2_def,lE (by lia)]
theorem Np:∀(k:Nat){n:Nat},2 ^ k<=n->n.log2=(n/2 ^ k).log2+k
 |0,n,_=>by rw[ld,Nat.div_one,Nat.add_zero]
 |k+1,n,h=>by
   have h2:2 ^ k*2<=n:=by rw[<-um2];exact h
   have h3:2<=n/2 ^ k:=(Nat.le_div_iff_mul_le (Nat.pow_pos (by decide))).mpr (by rw[lc];exact h2);rw[Np k (ul7 (Nat.le_mul_of_pos_right _ (by decide)) h2),Rp h3,uc3,<-um2,ul1,Nat.add_comm 1 k]
theorem TM(h:256<=n):n.log2=(n/256).log2+8:=Np 8 h
theorem TN(h:n<256):n.log2<8:=by
 by_cases z:n=0
 .subst z;rw[TQ (by lia)];lia
 .exact(Nat.log2_lt z).mpr h
theorem HU(h:0<n):wid n=wid (n/256)+1:=by
 unfold wid;rw[lE (by lia)]
 by_cases z:n<256
 .have:=TN z;rw[lD (by lia)];lia
 .rw[lE (by lia),TM (by lia)];lia
theorem IS:∀(k n:Nat),n<256 ^ k->wid n<=k
 |0,n,h=>by
   have:n=0:=by simpa using h
   subst this;decide
 |k+1,n,h=>by
   by_cases z:n=0
   .subst z;exact um6 _
   .rw[HU (by lia)];have:=IS k (n/256) (Nat.div_lt_of_lt_mul (by rw[um2] at h;lia));lia
theorem SX(n:Nat):((Builtin.Int.intBits (n:Int):Nat)+7)/8=wid n:=by
 unfold Builtin.Int.intBits wid
 by_cases z:n=0
 .subst z;rfl
 .have:((n:Int)==0)=false:=by simp;exact z
  rw[this,lE (by simp),lE z,Int.natAbs_natCast];lia
noncomputable def nb:Nat->Nat->List D
 |0,_=>[]
 |w+1,n=>nb w (n/256)++[.int ((n%256:Nat):Int)]
theorem Ny:∀w n,(nb w n).length=w
 |0,n=>rfl
 |w+1,n=>by rw[nb,ue6,Ny];rfl
theorem RD:∀w n:Nat,(List.range w).map (λk=>D.int ((n/2 ^ (8*(w-1-k))%256:Nat):Int))=nb w n
 |0,n=>rfl
 |w+1,n=>by
   rw[List.range_succ,uj2,nb,<-RD w (n/256)]
   congr 1
   .refine ud9 λk hk=>?_;rw[uj6] at hk;have e:8*(w+1-1-k)=8+8*(w-1-k):=by lia
    rw[e,Nat.pow_add,uc3]
   .simp
mutual
def AI:Sh->D->List D
 |.nothing,_=>[]
 |.number lo hi,d=>match d with
   |.int i=>nb (wid (hi-lo).toNat) (i-lo).toNat
   |_=>[]
 |.text _,d=>match d with
   |.str x=>.int (x.length:Nat)::x.cps.toList.map λn=>D.int (n:Nat)
   |_=>[]
 |.list s _,d=>match d with
   |.lst ds=>.int (ds.length:Nat)::(ds.map λd=>AI s d).flatten
   |_=>[]
 |.pair s r,d=>match d with
   |.tup [a,b]=>AI s a++AI r b
   |_=>[]
 |.choice ss,d=>match d with
   |.tup [_,.int k,x]=>.int k::Kc ss k.toNat x
   |_=>[]
def Kc:List Sh->Nat->D->List D
 |[],_,_=>[]
 |s::_,0,d=>AI s d
 |_::r,k+1,d=>Kc r k d
end
theorem EL:∀(ss:List Sh) (k:Nat) (s:Sh) (d:D),ss[k]?=some s->Kc ss k d=AI s d
 |[],k,s,d,h=>by simp at h
 |s::r,0,s',d,h=>by simp at h;subst h;simp[Kc]
 |s::r,k+1,s',d,h=>by rw[Kc];exact EL r k s' d (by simpa using h)
def IT(f:Fn)(n:Nat):Prop:=∀(s:Sh),s.depth<=n->wf s=true->∀d,Aj s d=true->(AI s d).length<=LIM->Pure1 f [s.d,d] (.lst (AI s d))
def Ic(f:Fn):Prop:=∀(n j:Nat),j<=1000->Pure1 f [.int n,.int j] (.int ((n/2 ^ (8*j):Nat):Int))
theorem Wc:Ic (fnOf 2 2 ID):=by
 intro n j hj S;refine Al rfl ?_;unfold ID;right;refine Qs (Wo (by decide) (by decide)) ?_;refine fJ (by lia) ?_;refine⟨?_,rfl⟩;have:(8*(j:Int)).toNat=8*j:=by lia
 rw[this];simp
def J9(f:Fn):Prop:=∀n:Nat,n<256 ^ 9->Pure1 f [.int n] (.int (wid n:Nat))
theorem UT:J9 (fnOf 1 1 FC):=by
 intro n _ S;refine Al rfl ?_;unfold FC;right;refine cA ?_;right;refine⟨?_,rfl⟩;rw[<-SX];simp
def MG(f:Fn):Prop:=∀(n w:Nat),w<=1000->Pure1 f [.int n,.int w] (.lst (nb w n))
theorem LA(i:Int)(n:Nat):Bo i n=(List.range n).map λk:Nat=>D.int (i+k):=by
 rfl
theorem Wu(hc:Ic c):MG (fnOf 2 2 (Fb c)):=by
 intro n w hw S;have hL:LIM=100000:=rfl;refine Al rfl ?_;unfold Fb;refine Jp ?_;right;refine US (by rw[B9 (by decide) (by decide),B9 (by lia) (by lia)];rfl) ?_;refine(GI (f:=λd=>match d with | .int k=>.int ((n/2 ^ (8*(w-k.toNat))%256:Nat):Int)|_=>d) (fr:=[vw (.int n),vw (.int w)]) ?_).mono ?_
 .intro d m;rw[LA] at m;clear 5(um3.mp m)k hk rfl;rw[uj6] at hk;right;have e:((w:Int)-(1+(k:Int)))=((w-(1+k):Nat):Int):=by lia
  rw[e];refine(hc n (w-(1+k)) (by lia)).use ?_;right;refine⟨?_,rfl⟩;have e2:(1+(k:Int)).toNat=1+k:=by lia
  dsimp only;rw[e2];simp
 .rintro xs t' ⟨rfl,hS⟩;have hn:((w:Int)+1-1).toNat=w:=by lia
  rw[LA,hn];refine BI (by simp only[ui2,List.length_range,hL];lia) ?_;refine⟨?_,hS⟩;rw[<-RD w n,lf]
  congr 1
  refine ud9 λk hk=>?_;rw[uj6] at hk;have e2:(1+(k:Int)).toNat=1+k:=by lia
  have e3:w-(1+k)=w-1-k:=by lia
  simp only[Function.comp,e2,e3]
theorem O6{lo hi:Int}(h:wf (.number lo hi)=true):(hi-lo).toNat<256 ^ 9:=by
 simp only[wf,ug9,ug2] at h;have:(256:Nat) ^ 9=4722366482869645213696:=by decide
 lia
theorem QO(x:Str):(x.cps.toList.map λc=>D.str ⟨#[c]⟩).map (λd=>match d with | .str y=>D.int (y.cps.getD 0 0:Nat)|_=>d)=x.cps.toList.map λn=>D.int (n:Nat):=by
 rw[lf];refine ud9 λn _=>?_;rfl
variable{cn:Fn}
set_option tactic.hygienic true in
theorem VR(hc:IT c n)(hw:J9 cw)(hn:MG cn):IT (fnOf 2 5 (EZ c cw cn)) (n+1):=by
 intro s hs hwf d hf hlen S;have hL:LIM=100000:=rfl;refine Al rfl ?_;unfold EZ
 cases s with
 |nothing=>
   rw[Sh.d];right;refine Jp ?_;right;exact⟨by rw[AI],rfl⟩
 |number lo hi=>
   have hsp:=O6 hwf;have hwd:=IS 9 _ hsp;simp only[wf,ug9,ug2] at hwf
   cases d<;>simp[Aj] at hf
   rename_i i;rw[Sh.d];right;refine Jp (Hl ?_);right;have e1:hi-lo=(((hi-lo).toNat:Nat):Int):=by lia
   have e2:i-lo=(((i-lo).toNat:Nat):Int):=by lia
   rw[e1,e2];refine(hw _ hsp).use ?_;right;refine(hn _ _ (by lia)).use ?_;exact⟨_,rfl,by rw[AI],rfl⟩
 |text q=>
   simp only[wf,ug9,ug2] at hwf
   cases d<;>simp[Aj] at hf
   rename_i x;rw[Sh.d];right;refine Jp ?_;refine Co ?_;right;refine MA (by rw[hL];lia) ?_;right;refine(GI (f:=λd=>match d with | .str y=>D.int (y.cps.getD 0 0:Nat)|_=>d) (fr:=[]) ?_).mono ?_
   .intro d m;clear 5(um3.mp m)k hk rfl;right;refine aO rfl ?_;exact⟨rfl,rfl⟩
   .rintro xs t' ⟨rfl,hS⟩;rw[QO];have hl:x.cps.toList.length<=250:=by rw[<-Fr];lia
    refine BI (by rw[ui2,hL];lia) ?_;right;refine BI (by simp only[ui2,ug5,uj0,hL];lia) ?_;exact⟨by rw[AI];rfl,hS⟩
 |list s q=>
   simp only[wf,ug9,ug2] at hwf;rw[Sh.depth] at hs
   cases d<;>simp only[Aj,ue7] at hf
   rename_i ds;rw[ug9,ug2,uh4] at hf;rw[AI] at hlen⊢;rw[Sh.d];right;refine Dl (λr t=>∃(z:Option Sl) (acc:List D),t=⟨[vw (.tup [.str "list",s.d,.int q]),vw (.lst ds),vw (.str "list"),some (.own acc),z],S⟩/\acc++(r.map λd=>AI s d).flatten=.int (ds.length:Nat)::(ds.map λd=>AI s d).flatten) _ _ ⟨_,_,rfl,rfl⟩ ?_ ?_
   .rintro d r t ⟨z,acc,rfl,hacc⟩ m;rw[uk4,uf6,<-uf7] at hacc;have hl:acc.length+(AI s d).length<=LIM:=by
     have:=lu List.length hacc;rw[ue6,ue6] at this;lia
    right;refine Hl ?_;right;refine(hc s (uc4 hs) hwf.2 d (hf.2 d m) (ul7 (Nat.le_add_left _ _) hl)).use ⟨_,rfl,?_⟩;right;refine eS rfl hl ?_;exact⟨_,_,rfl,hacc⟩
   .rintro t ⟨z,acc,rfl,hacc⟩;rw[um0,List.flatten_nil,ui4] at hacc;right;refine XH rfl ?_;exact⟨by rw[hacc],rfl⟩
 |pair s r=>
   simp only[wf,ug9] at hwf;rw[Sh.depth] at hs;unfold Aj at hf
   split at hf
   case h_2=>cases hf
   case h_1 a b=>
    rw[ug9] at hf;rw[AI] at hlen⊢;rw[ue6] at hlen;rw[Sh.d];right;refine Jp ?_;refine Co ?_;right;refine Hl ?_;right;refine(hc s (ul7 (Nat.le_max_left _ _) (uc4 hs)) hwf.1 a hf.1 (ul7 (uh3 _ _) hlen)).use ⟨_,rfl,?_⟩;refine Co ?_;right;refine Hl ?_;right;refine(hc r (ul7 (Nat.le_max_right _ _) (uc4 hs)) hwf.2 b hf.2 (ul7 (Nat.le_add_left _ _) hlen)).use ⟨_,rfl,?_⟩;right;refine BI hlen ?_;exact⟨rfl,rfl⟩
 |choice ss=>
   simp only[wf,ug9,ug2] at hwf;rw[Sh.depth] at hs;unfold Aj at hf
   split at hf
   case h_2=>cases hf
   case h_1 o k x=>
    simp only[ug9,ug2] at hf;obtain⟨⟨ho,k0,k1⟩,hf⟩:=hf;have hk:k.toNat<ss.length:=by lia
    have e1:ss[k.toNat]?=some ss[k.toNat]:=ub3 hk;have hl:=DO ss;have e2:atI (shD ss) k=some (ss[k.toNat]).d:=by
     unfold atI;rw[Em k0 (by lia)];show(shD ss)[k.toNat]?=_;rw[FY,e1];rfl
    rw[Cj ss _ _ _ e1] at hf;rw[AI] at hlen⊢;rw[EL ss _ _ _ e1] at hlen⊢;rw[ug5] at hlen;rw[Sh.d];right;refine Jp ?_;right;refine Hl ?_;right;refine FH e2 ?_;right;refine(hc _ (ul7 (Cn ss _ _ e1) (uc4 hs)) (DQ hwf.2 _ (uh7 hk)) x hf (Nat.le_of_succ_le hlen)).use ⟨_,rfl,?_⟩;right;refine BI (by simp only[ug5,uj0];lia) ?_;exact⟨rfl,rfl⟩
theorem KH(a:Int)(n:Nat):(Bo a n).length=n:=by simp[Bo]
variable{j:Nat}{r:List D}
theorem Lw{a:Int}{d:D}(e:d::r=(Bo a n).drop j):d=.int (a+j)/\r=(Bo a n).drop (j+1)/\j<n:=by
 have hj:j<(Bo a n).length:=by
  rcases lg j (Bo a n).length with h|h
  .exact h
  .rw[jy h] at e;cases e
 rw[ub2 hj] at e;injection e with e1 e2
 rw[KH] at hj;refine⟨?_,e2,hj⟩;rw[e1];simp[Bo]
noncomputable def sgs:Str:=" !\"#$ &'()*+,-./0123456789:;<=>?@ABCDEFGHIJKLMNOPQRSTUVWXYZ[\\]^_`abcdefghijklmnopqrstuvwxyz{|}~"
theorem ai{c:Nat}(h:BK c=true):atI sgs.cps.toList ((c:Int)-32)=some c:=by
 have hl:sgs.cps.toList.length=95:=by decide +kernel
 have hall:(List.range 127).all (λc=>!BK c||decide (sgs.cps.toList[c-32]?=some c))=true:=by decide +kernel
 have h':=h;simp only[BK,ug9,ug2] at h';have:=uh4.mp hall c (uj6.mpr (by lia));rw[h,kX,uk8,ug2] at this;rw[show((c:Int)-32)=((c-32:Nat):Int) by lia];exact IV this
variable{f:M D}{n':Str}
section
variable{t:T}{P:D->T->Prop}{R:Out->T->Prop}
def UK(h:D->M Out)(R:Out->T->Prop)(o:Out)(t1:T):Prop:=match o with
 |.ret (.exc n ds)=>n∈BL/\W (h (.exc n ds)) t1 R
 |o=>R o t1
theorem fL{b:M Out}{h:D->M Out}(w:W b t (UK h R)):W (FG b h) t R:=by
 clear 5 w o t1 e q;have rest:∀d,Bu d=false->o=.ret d->W (FG b h) t R:=λd hd ho=>by
  subst ho;refine⟨.ret d,t1,?_,?_⟩
  .unfold FG;rw[e];cases d<;>first|rfl|cases hd
  .cases d<;>first|exact q|cases hd
 cases o with
 |next=>exact⟨.next,t1,by unfold FG;rw[e],q⟩
 |brk=>exact⟨.brk,t1,by unfold FG;rw[e],q⟩
 |cont=>exact⟨.cont,t1,by unfold FG;rw[e],q⟩
 |ret d=>
   cases d with
   |exc n ds=>
     clear 5 q hn o2 t2 e2 q2;exact⟨o2,t2,by unfold FG;rw[e];dsimp only;rw[lD hn,e2],q2⟩
   |_=>exact rest _ rfl rfl
set_option tactic.hygienic true in
theorem SD{h:D->M Out}(q:R .next t1):UK h R .next t1:=q
theorem Xu{h:D->M Out}{n:Str}(e:n∈BL)(q:W (h (.exc n ds)) t1 R):UK h R (.ret (.exc n ds)) t1:=⟨e,q⟩
def xK(d:D)(A B:Prop):Prop:=if Bu d=true then A else B
theorem db{d:D}{A B:Prop}(e:Bu d=false)(b:B):xK d A B:=by unfold xK;rw[lE (by rw[e];decide)];exact b
theorem da{d:D}{A B:Prop}(e:Bu d=true)(a:A):xK d A B:=by unfold xK;rw[lD e];exact a
set_option tactic.hygienic true in
theorem cX(w:W f t λd t1=>xK d (R (.ret d) t1) (R .next ⟨t1.env.set i (vw d),t1.S⟩)):W (setX i f) t R:=by
 refine Co (w.mono λd t1 q=>?_);unfold xK at q
 split at q
 .next h=>rw[lD h];exact⟨_,_,rfl,q⟩
 .next h=>rw[lE h];exact⟨_,_,rfl,q⟩
theorem wNx(w:W f t λd t1=>Bu d=false/\P d t1):W (nxD f) t P:=by
 refine Co (w.mono λd t1 z9=>?_);clear 5 z9 h q;rw[lE (by rw[h];decide)];exact⟨_,_,rfl,q⟩
set_option tactic.hygienic true in
theorem cB{g:M D}{h:D->M D}(w:W g t λy t1=>xK y (P y t1) (W (h y) t1 λd t2=>Bu d=false/\P d t2)):W (K6 g h) t P:=by
 refine Co (w.mono λy t1 q=>?_);unfold xK at q
 split at q
 .next z=>rw[lD z];exact⟨_,_,rfl,q⟩
 .next z=>rw[lE z];exact wNx q
theorem cz{g:M D}{h:D->D->M D}(w:W f t λx t1=>W (K6 g (h x)) t1 P):W (IY f g h) t P:=Co w
theorem XD{n:Str}{f:M (List D)}(w:W f t λds t1=>∃d,ds=[d]/\R (.ret (.exc n [d])) t1):W (IN n f) t R:=
 Co (w.mono λds t1 ⟨d,e,q⟩=>by subst e;exact⟨_,_,rfl,q⟩)
theorem XC{n:Str}{f:M (List D)}(w:W f t λds t1=>ds.length<=1000/\R (.ret (.exc n [])) t1):W (Fs n f) t R:=
 Co (w.mono λds t1 ⟨e,q⟩=>by rw[lD e];exact⟨_,_,rfl,q⟩)
theorem XF{n:Str}(w:W f t λd t1=>R (.ret (.exc n [d])) t1):W (IN n (Ab f Ad)) t R:=XD (E4 (w.mono λd t1 q=>JW ⟨d,rfl,q⟩))
theorem XG{n:Str}(w:W f t λ_ t1=>R (.ret (.exc n [])) t1):W (Fs n (Ab f Ad)) t R:=XC (E4 (w.mono λd t1 q=>JW ⟨by show 1<=1000;decide,q⟩))
theorem eW{n:Str}{s:M Out}{r:D->M Out}(e:FF n n'=true)(w:W s {t with env:=t.env.set i (vw (.exc n ds))} λo t2=>R o (unE i t2)):W (hAs n' i s r (.exc n ds)) t R:=by
 clear 5 w o t2 e1 q;exact⟨o,unE i t2,by unfold hAs;dsimp only;rw[lD e,e1],q⟩
theorem cG{n:Str}{s:M Out}{r:D->M Out}(e:FF n n'=false)(w:W (r (.exc n ds)) t R):W (hAs n' i s r (.exc n ds)) t R:=by
 clear 5 w o t2 e1 q;exact⟨o,t2,by unfold hAs;dsimp only;rw[lE (by rw[e];decide),e1],q⟩
theorem eY{n:Str}{s:M Out}{r:D->M Out}(e:FF n n'=true)(w:W s t R):W (hNo n' s r (.exc n ds)) t R:=by
 clear 5 w o t2 e1 q;exact⟨o,t2,by unfold hNo;dsimp only;rw[lD e,e1],q⟩
theorem cy{m n:Str}{d:D}(e:m∈BL)(l:((JM m).zip ds).lookup n=some d)(q:P d t):W (K5 n (.exc m ds)) t P:=⟨_,_,by unfold K5;dsimp only;rw[lD e,l];rfl,q⟩
theorem UW{g:Fn}{Q:D->List Ob->Prop}(w:Wf g ds S λr S'=>Bu r=false/\Q r S'):Wf (II g) ds S Q:=by
 clear 5 w r S' e h q;exact⟨r,S',by unfold II;rw[e];dsimp only;rw[lE (by rw[h];decide)],q⟩
end
local macro_rules | `(tactic| walk_at"x1")=>`(tactic| first
 |walk_at"w1" |clear 31 fL cX wNx cz cB SD|clear 33 Xu|clear 32 db|clear 32 da|clear 31 XF XG|clear 33 eW|clear 33 cG|clear 33 eY|((with_reducible refine' cy ?wv ?wu ?_);(case wv=>decide);(case wu=>exact rfl)))
local macro_rules | `(tactic| left)=>`(tactic| repeat (walk_at"x1"))
inductive Rd where
 |done (v:D)
 |need (ok:Nat->Bool) (nx:Nat->Rd)
inductive RR where
 |told (v:D) (a:Nat)
 |short
 |broken (a:Nat)
noncomputable def Rd.run:Rd->List Nat->Nat->RR
 |.done v,_,a=>.told v a
 |.need ok nx,w,a=>match w[a]? with
   |none=>.short
   |some b=>if ok b=true then(nx b).run w (a+1) else .broken a
noncomputable def Rd.bnd:Rd->(D->Rd)->Rd
 |.done v,k=>k v
 |.need ok nx,k=>.need ok λb=>(nx b).bnd k
def RR.thn(r:RR)(w:List Nat)(k:D->Rd):RR:=match r with
 |.told v a=>(k v).run w a
 |.short=>.short
 |.broken a=>.broken a
variable{w:List Nat}{a:Nat}
theorem Db{ok:Nat->Bool}{nx:Nat->Rd}(h:w[a]?=none):(Rd.need ok nx).run w a=.short:=by rw[Rd.run,h]
variable{b:Nat}
theorem BN{ok:Nat->Bool}{nx:Nat->Rd}(h:w[a]?=some b):(Rd.need ok nx).run w a=if ok b=true then(nx b).run w (a+1) else .broken a:=by rw[Rd.run,h]
theorem Et(k:D->Rd)(w:List Nat):∀(p:Rd) (a:Nat),(p.bnd k).run w a=(p.run w a).thn w k:=by
 intro p
 induction p with
 |done v=>intro a;rfl
 |need ok nx ih=>
   intro a;rw[Rd.bnd]
   cases h:w[a]? with
   |none=>rw[Db h,Db h];rfl
   |some b=>
     rw[BN h,BN h]
     by_cases q:ok b=true
     .rw[lD q,lD q];exact ih b (a+1)
     .rw[lE q,lE q];rfl
variable{v:D}
theorem LF:∀(p:Rd) (a:Nat),a<=w.length->p.run w a=.told v b->a<=b/\b<=w.length:=by
 intro p
 induction p with
 |done v'=>intro a ha h;cases h;exact⟨um5 _,ha⟩
 |need ok nx ih=>
   intro a ha h
   cases e:w[a]? with
   |none=>rw[Db e] at h;cases h
   |some c=>
     rw[BN e] at h;have hl:=(ub0.mp e).1
     by_cases q:ok c=true
     .rw[lD q] at h;have:=ih c (a+1) hl h;lia
     .rw[lE q] at h;cases h
def Rd.good:Rd->Prop
 |.done _=>True
 |.need ok nx=>(ok 0=true\/ok 32=true)/\∀b,ok b=true->(nx b).good
noncomputable def HH(lo:Int)(M:Nat):Nat->Nat->Rd
 |0,x=>.done (.int (lo+x))
 |r+1,x=>.need (λb=>decide (x*256+b<=M/2 ^ (8*r))) λb=>HH lo M r (x*256+b)
def IJ:Nat->List Nat->Rd
 |0,cs=>.done (.str ⟨cs.toArray⟩)
 |n+1,cs=>.need BK λc=>IJ n (cs++[c])
def HG(p:Rd):Nat->List D->Rd
 |0,ds=>.done (.lst ds)
 |n+1,ds=>p.bnd λv=>HG p n (ds++[v])
def pSh:Nat->Sh->Rd
 |0,_=>.done .non
 |_+1,.nothing=>.done .non
 |_+1,.number lo hi=>HH lo (hi-lo).toNat (wid (hi-lo).toNat) 0
 |_+1,.text q=>.need (λb=>decide ((b:Int)<=q)) λb=>IJ b []
 |n+1,.list s q=>.need (λb=>decide ((b:Int)<=q)) λb=>HG (pSh n s) b []
 |n+1,.pair s r=>(pSh n s).bnd λv=>(pSh n r).bnd λu=>.done (.tup [v,u])
 |n+1,.choice ss=>.need (λb=>decide (b<ss.length)) λb=>(pSh n (ss.getD b .nothing)).bnd λv=>.done (.tup [.str "of",.int b,v])
mutual
noncomputable def plD:D->Bool
 |.lst xs=>pls xs
 |.tup xs=>pls xs
 |.obj _=>false
 |.scr _=>false
 |.ty _=>false
 |.exc _ _=>false
 |.gts _=>false
 |.dic=>false
 |_=>true
noncomputable def pls:List D->Bool
 |[]=>true
 |d::r=>plD d&&pls r
end
noncomputable def pos(i:Int):Int:=if 0<i then i else 0
structure ValueRes2(k c l:Nat)(S:List Ob)(s:Sh)(a b:Int)(r:D)(S':List Ob):Prop where
 fit:Aj s r=true
 lft:∃a' b':Int,S'[l]?=some (.lst [.int a',.int b'])/\((AI s r).length:Int)<=9*(a-a')+(pos b-pos b')/\pos b'<=pos b/\1<=a-a'/\a-a'<=cnt s+(14*(s.depth:Int))*pos a
 deck:DeckAt k c S'
 kp:Pd k c l S S'
mutual
noncomputable def szE:D->Nat
 |.lst xs=>1+UE xs
 |.tup xs=>1+UE xs
 |_=>1
noncomputable def UE:List D->Nat
 |[]=>0
 |d::r=>szE d+UE r
end
structure VOk(s:Sh)(v:D):Prop where
 fit:Aj s v=true
 len:(AI s v).length<=14809
local macro_rules | `(tactic| walk_at"y1")=>`(tactic| first
 |walk_at"x1")
local macro_rules | `(tactic| symm)=>`(tactic| repeat (walk_at"y1"))
noncomputable def wD(w:List Nat):List D:=w.map λ(n:Nat)=>D.int (n:Int)
theorem A3(w:List Nat):(wD w).length=w.length:=by unfold wD;rw[ui2]
theorem SJ(h:w[a]?=some b):(wD w)[a]?=some (.int (b:Int)):=by unfold wD;rw[uf4,h];rfl
abbrev exS:D:=.exc "Short" []
abbrev exB(a:Nat):D:=.exc "Broken" [.int (a:Int),.non]
noncomputable def rrD:RR->D
 |.told v b=>.tup [v,.int (b:Int)]
 |.short=>exS
 |.broken a=>exB a
noncomputable def byX:Option Nat->D
 |none=>exS
 |some b=>.int (b:Int)
noncomputable def upX(m:Int)(a:Nat):Option Nat->D
 |none=>exS
 |some b=>if (b:Int)<=m then .int (b:Int) else exB a
def sgX(a:Nat):Option Nat->D
 |none=>exS
 |some c=>if BK c=true then .str ⟨#[c]⟩ else exB a
def RX(c:Fn)(s:Sh)(p:Rd):Prop:=∀(w:List Nat) (a:Nat),a<=w.length->Pure1 c [s.d,.lst (wD w),.int (a:Int)] (rrD (p.run w a))
noncomputable def seg(w:List Nat)(a b:Nat):List Nat:=(w.drop a).take (b-a)
theorem KR(x y:List Nat):wD (x++y)=wD x++wD y:=by unfold wD;rw[uj2]
theorem OK:∀(r y:Nat),nb (r+1) y=.int ((y/256 ^ r%256:Nat):Int)::nb r y
 |0,y=>by rw[nb,nb,nb,ld,Nat.div_one];rfl
 |r+1,y=>by
   rw[show nb (r+1+1) y=nb (r+1) (y/256)++[.int ((y%256:Nat):Int)] from rfl,OK r (y/256),uh8,show nb (r+1) y=nb r (y/256)++[.int ((y%256:Nat):Int)] from rfl,uc3,show 256*256 ^ r=256 ^ (r+1) by rw[um2,lc]]
variable{kvs:List (Key×D)}
theorem Aw{x:Str}{d:D}(e:t.S[n]?=some (.dct kvs))(e2:Be kvs (.inr x)=some d)(h:P d t):W (As (.obj n) (.str x)) t P:=
 ⟨d,t,by simp only[As,e,e2];rfl,h⟩
theorem N1{g:M D}{d:D}{U:Unit->T->Prop}(h:W f t λo t1=>W g t1 λi t2=>W (Hk o i d) t2 U):W (D0 f g d) t U:=Co (h.mono λo t1 h1=>Co h1)
theorem Cy{x:Str}{d:D}{U:Unit->T->Prop}(e:t.S[n]?=some (.dct kvs))(hl:kvs.length<LIM)(h:U () ⟨t.env,t.S.set n (.dct (BQ kvs (.inr x) d))⟩):W (Hk (.obj n) (.str x) d) t U:=
 ⟨(),_,by simp only[Hk,e,lD hl],h⟩
theorem KS{l:List (Str×M D)}(h:W (EA l) ⟨t.env,t.S++[.dct []]⟩ λps t1=>t1.S[t.S.length]?=some (.dct [])/\ps.length<=15/\P (.obj t.S.length) ⟨t1.env,t1.S.set t.S.length (.dct (Dh ps))⟩):W (El l) t P:=by
 clear 5 h ps t1 e1 e2 e3 p;refine⟨_,_,?_,p⟩;unfold El bnd;simp only[e1];unfold FT;simp only[e2,lD e3]
theorem Fv{Q:List (Key×D)->T->Prop}(h:Q [] t):W (EA []) t Q:=⟨_,_,rfl,h⟩
theorem BU{k:Str}{r:List (Str×M D)}{Q:List (Key×D)->T->Prop}(h:W f t λd t1=>W (EA r) t1 λps t2=>Q ((.inr k,d)::ps) t2):W (EA ((k,f)::r)) t Q:=
 Co (h.mono λd t1 h1=>Co (h1.mono λps t2 h2=>⟨_,_,rfl,h2⟩))
structure St where
 rest:Int
 mixed:Bool
 turn:Int
noncomputable def St.ob(s:St):Ob:=.dct [(.inr (Str.ofString "rest"),.int s.rest),(.inr (Str.ofString "mixed"),.bl s.mixed),(.inr (Str.ofString "turn"),.int s.turn)]
noncomputable def take(s:St)(m:Int):Int×St:=
 if s.mixed=false then(s.rest%m,⟨s.rest/m,s.mixed,s.turn⟩)
 else
  let stir:=(s.rest%2147483579+70001*(s.turn+1))%2147483579
  let rest:=(stir*stir%2147483563*50021+7)%2147483579
  (rest/5%m,⟨rest,s.mixed,s.turn+1⟩)
theorem Eh(a:Int)(n:Nat):(Bo a n).length=n:=by simp[Bo]
inductive GS where
 |fin
 |st (side:Str) (ws:List (Str×Sh×Int))
def wdD(w:Str×Sh×Int):D:=.tup [.str w.1,w.2.1.d,.int w.2.2]
def GS.d:GS->D
 |.fin=>.tup [.str (Str.ofString "end")]
 |.st side ws=>.tup [.str side,.lst (ws.map wdD)]
noncomputable def GS.isFin:GS->Bool
 |.fin=>true
 |_=>false
theorem GB{a:Int}{d:D}(e:d::r=(Bo a n).drop j):d=.int (a+j)/\r=(Bo a n).drop (j+1)/\j<n:=by
 have hj:j<(Bo a n).length:=by
  rcases lg j (Bo a n).length with h|h
  .exact h
  .rw[jy h] at e;cases e
 rw[ub2 hj] at e;injection e with e1 e2
 rw[Eh] at hj;refine⟨?_,e2,hj⟩;rw[e1];simp[Bo]
structure WOk(n:Int)(w:Str×Sh×Int):Prop where
 ok:wf w.2.1=true
 dep:w.2.1.depth<=3
 lo:0<=w.2.2
 hi:w.2.2<n
 nm:w.1.length<=90000
inductive GSOk(n:Int):GS->Prop
 |fin:GSOk n .fin
 |st {side:Str}{ws:List (Str×Sh×Int)}:(side=Str.ofString "left"\/side=Str.ofString "right")->0<ws.length->ws.length<=9->(ws.map (·.1)).Nodup->(∀w∈ws,WOk n w)->GSOk n (.st side ws)
structure GOk(g:List GS):Prop where
 ne:0<g.length
 le:g.length<=30
 all:∀x∈g,GSOk g.length x
def EK(f:Fn):Prop:=∀(n:Int) (x:GS),GSOk n x->Pure1 f [x.d] (.bl x.isFin)
theorem L4:EK (fnOf 1 1 Eb):=by
 intro n x hx S;refine Al rfl ?_;unfold Eb
 cases hx with
 |fin=>
   rw[GS.d];right;exact⟨by simp[GS.isFin],rfl⟩
 |st hs _ _ _ _=>
   rw[GS.d];right;refine⟨?_,rfl⟩;rcases hs with rfl|rfl<;>simp[GS.isFin]
def GS.words:GS->D
 |.fin=>.tup []
 |.st _ ws=>.lst (ws.map wdD)
noncomputable def GS.ws:GS->List (Str×Sh×Int)
 |.fin=>[]
 |.st _ ws=>ws
def KZ(f:Fn):Prop:=∀(n:Int) (x:GS),GSOk n x->Pure1 f [x.d] x.words
variable{ce:Fn}
theorem UU(he:EK ce):KZ (fnOf 1 1 (HF ce)):=by
 intro n x hx S;refine Al rfl ?_;unfold HF
 cases x with
 |fin=>
   right;refine(he n .fin hx).use ?_;right;exact⟨rfl,rfl⟩
 |st side ws=>
   right;refine(he n (.st side ws) hx).use ?_;rw[GS.d];right;exact⟨rfl,rfl⟩
noncomputable def NE:Option Nat->D
 |some i=>.int i
 |none=>.non
def Hn(f:Fn):Prop:=∀(n:Int) (x:GS) (nm:Str),GSOk n x->Pure1 f [x.d,.str nm] (NE (x.ws.findIdx? λw=>w.1==nm))
theorem Iw{p:α->Bool}{l:List α}(h:∀i (hi:i<l.length),i<j->p l[i]=false){x:α}(hx:l[j]?=some x)(hp:p x=true):l.findIdx? p=some j:=by
 clear 5(ub0.mp hx)hj e;rw[ua0];exact⟨hj,by rw[e];exact hp,λi hi=>by simpa using h i (by lia) hi⟩
theorem Ls(hw:KZ cw):Hn (fnOf 2 4 (FB cw)):=by
 intro n x nm hx S;refine Al rfl ?_;unfold FB;right;refine(hw n x hx).use ?_;have key:∀(ws:List (Str×Sh×Int)) (d:D),ws.length<=9->(∀(t:T) (P:D->T->Prop),P (.int ws.length) t->W (AY [d]) t P)->(∀(t:T) (P:D->T->Prop) (i:Nat) (w:Str×Sh×Int),ws[i]?=some w->P (wdD w) t->W (ixD d (.int i)) t P)->
  W (Af (B7 (Do (Ab (fB (Ab (Aa 2) Ad) AY) Ad)) (AE 3)
  (ifS (Am (Ac (Ac (Ac (Aa 2) (Aa 3) ixD) (ia 0) ixD) (Aa 1) (eqS id)))
  (An (Aa 3))
  Aq))
 (An (fC .non))) ⟨[vw x.d,vw (.str nm),vw d,none],S⟩ λo t=>match o with
   |.ret r=>r=NE (ws.findIdx? λw=>w.1==nm)/\t.S=S
   |.next=>D.non=NE (ws.findIdx? λw=>w.1==nm)/\t.S=S
   |_=>False:=by
   intro ws d hl len ix;right;refine len _ _ ?_;right;refine IQ (B9 (by lia) (by lia)) ?_;refine Dl (λr t=>∃(j:Nat) (e3:Option Sl),(∀i (hi:i<ws.length),i<j->(ws[i].1==nm)=false)/\j<=ws.length/\r=(Bo 0 ((ws.length:Nat):Int).toNat).drop j/\t=⟨[vw x.d,vw (.str nm),vw d,e3],S⟩) _ _ ⟨0,none,λi hi h=>absurd h (by lia),by lia,rfl,rfl⟩ ?_ ?_
   .rintro d' r t ⟨j,e3,hj,hjl,hr,rfl⟩ _;clear 5(GB hr)rfl hr' hjn;rw[uf5] at hjn;have e:ws[j]?=some ws[j]:=ub3 hjn;rw[lh];right;refine ix _ _ j _ e ?_;unfold wdD;right;refine Eu (λq=>?_) λq=>?_
    .right;refine⟨?_,rfl⟩;rw[Iw hj e q];rfl
    .right;refine⟨j+1,_,λi hi hij=>?_,by lia,hr',rfl⟩;rcases lg i j with h|h
     .exact hj i hi h
     .have:i=j:=by lia
      subst this;exact q
   .rintro t ⟨j,e3,hj,hjl,hr,rfl⟩;have hj':j=ws.length:=by
     have:=lu List.length hr;rw[uj0,ug8,Eh,uf5] at this;lia
    subst hj';right;refine⟨?_,rfl⟩;rw[ji.mpr]
    .rfl
    .intro w hw';clear 5(List.mem_iff_getElem.mp hw')i hi rfl;exact hj i hi hi
 cases hx with
 |fin=>
   refine Ft ?_;refine key [] (.tup []) (by decide) (λt P h=>Vo h) λt P i w e h=>?_;simp at e
 |@st side ws h1 h2 h3 h4 h5=>
   refine Ft ?_;refine key ws (.lst (ws.map wdD)) h3 (λt P h=>Qr (by rw[ui2];exact h)) λt P i w e h=>?_;obtain⟨hi,_⟩:=ub0.mp e;refine BR ?_ h;unfold atI;rw[Em (by lia) (by rw[ui2];lia)];show(ws.map wdD)[(i:Int).toNat]?=_;rw[uf5,uf4,e];rfl
noncomputable def GS.side:GS->Str
 |.fin=>Str.ofString "end"
 |.st s _=>s
noncomputable def Av(g:List GS)(q:Nat):GS:=g.getD q .fin
def wdAt(g:List GS)(q p:Nat):Str×Sh×Int:=(Av g q).ws.getD p (Str.ofString "",.nothing,0)
def nextQ(g:List GS)(q p:Nat):Nat:=(wdAt g q p).2.2.toNat
def Fc(g:List GS)(q p:Nat)(v:D):D:=.tup [.str (Av g q).side,.str (wdAt g q p).1,v]
abbrev Mv:=Nat×D
def Ah(g:List GS):Nat->List Mv->Nat
 |q,[]=>q
 |q,(p,_)::r=>Ah g (nextQ g q p) r
def Bh(g:List GS):Nat->List Mv->List D
 |_,[]=>[]
 |q,(p,v)::r=>Fc g q p v::Bh g (nextQ g q p) r
structure MvOk(g:List GS)(q:Nat)(p:Nat)(v:D):Prop where
 lt:q<g.length
 pl:p<(Av g q).ws.length
 fit:Aj (wdAt g q p).2.1 v=true
def okQ(g:List GS):Nat->List Mv->Prop
 |_,[]=>True
 |q,(p,v)::r=>MvOk g q p v/\okQ g (nextQ g q p) r
theorem B1(g:List GS):∀(q:Nat) (a b:List Mv),Ah g q (a++b)=Ah g (Ah g q a) b
 |q,[],b=>rfl
 |q,(p,v)::r,b=>by rw[uh8,Ah,Ah,B1 g _ r b]
theorem Ma(g:List GS):∀(q:Nat) (a b:List Mv),Bh g q (a++b)=Bh g q a++Bh g (Ah g q a) b
 |q,[],b=>rfl
 |q,(p,v)::r,b=>by rw[uh8,Bh,Bh,Ah,Ma g _ r b];rfl
theorem Fd(g:List GS):∀(q:Nat) (a b:List Mv),okQ g q (a++b)↔okQ g q a/\okQ g (Ah g q a) b
 |q,[],b=>by simp[okQ,Ah]
 |q,(p,v)::r,b=>by rw[uh8,okQ,okQ,Ah,Fd g _ r b,and_assoc]
theorem Mb(g:List GS):∀(q:Nat) (a:List Mv),(Bh g q a).length=a.length
 |q,[]=>rfl
 |q,(p,v)::r=>by rw[Bh,ug5,Mb g _ r,ug5]
variable{g:List GS}
theorem Dg(h:GOk g){q:Nat}(hq:q<g.length):GSOk g.length (Av g q):=by
 unfold Av;rw[ua9,ub3 hq];exact h.all _ (uh7 hq)
variable{q:Nat}
theorem C9(hq:q<g.length):atI (g.map GS.d) q=some (Av g q).d:=by
 unfold atI;rw[Em (by lia) (by rw[ui2];lia)];show(g.map GS.d)[(q:Int).toNat]?=_;unfold Av;rw[uf5,uf4,ua9,ub3 hq];rfl
variable{p:Nat}
theorem GP(hp:p<(Av g q).ws.length):∃side ws,Av g q=.st side ws/\p<ws.length/\ws[p]?=some (wdAt g q p):=by
 unfold wdAt
 cases e:Av g q with
 |fin=>rw[e] at hp;simp[GS.ws] at hp
 |st side ws=>
   rw[e] at hp;have hp:p<ws.length:=hp;refine⟨side,ws,rfl,hp,?_⟩;show ws[p]?=some (ws.getD p _);rw[ua9,ub3 hp];rfl
theorem GF{ws:List (Str×Sh×Int)}{w:Str×Sh×Int}(e:ws[p]?=some w):atI (ws.map wdD) p=some (wdD w):=by
 obtain⟨hp,_⟩:=ub0.mp e;unfold atI;rw[Em (by lia) (by rw[ui2];lia)];show(ws.map wdD)[(p:Int).toNat]?=_;rw[uf5,uf4,e];rfl
theorem FR(h:GOk g){q p:Nat}(hq:q<g.length)(hp:p<(Av g q).ws.length):WOk g.length (wdAt g q p):=by
 clear 5(GP hp)side ws e hp' e2;have:=Dg h hq;rw[e] at this
 cases this with
 |st _ _ _ _ h5=>exact h5 _ (ud3 e2)
theorem OL(h:GOk g){q p:Nat}(hq:q<g.length)(hp:p<(Av g q).ws.length):nextQ g q p<g.length:=by
 have:=FR h hq hp;unfold nextQ;have h1:=this.lo;have h2:=this.hi;lia
theorem OG{g:List GS}(h:GOk g):∀{a:List Mv}{q:Nat},q<g.length->okQ g q a->Ah g q a<g.length
 |[],q,hq,_=>hq
 |(p,v)::r,q,hq,hk=>by
   rw[okQ] at hk;rw[Ah];exact OG h (OL h hq hk.1.pl) hk.2
theorem PB{ws:List (Str×Sh×Int)}(nd:(ws.map (·.1)).Nodup){p:Nat}{w:Str×Sh×Int}(e:ws[p]?=some w):(ws.findIdx? λx=>x.1==w.1)=some p:=by
 clear 5(ub0.mp e)hp ep;refine Iw (λi hi hip=>?_) e (by simp);rw[<-ep];have hne:¬ws[i].1=ws[p].1:=λz=>by
  have h1:i<(ws.map (·.1)).length:=by rw[ui2];exact hi
  have h2:p<(ws.map (·.1)).length:=by rw[ui2];exact hp
  have:(ws.map (·.1))[i]=(ws.map (·.1))[p]:=by rw[List.getElem_map,List.getElem_map];exact z
  have:=(ug4 nd).mp this;lia
 simpa using hne
theorem ON:∀{xs:List D},(∀d∈xs,okD d=true)->oks xs=true
 |[],_=>by rw[oks]
 |d::r,h=>by rw[oks,h d ue2,ON λx m=>h x (ud1 _ m)];rfl
set_option tactic.hygienic true in
theorem Gi:∀(n:Nat) (s:Sh),s.depth<=n->wf s=true->∀v,Aj s v=true->okD v=true
 |0,s,h,_,_,_=>absurd s.depth_pos (by lia)
 |n+1,s,hd,hw,v,h=>by
   cases s with
   |nothing=>cases v<;>first|rfl|(simp[Aj,FN] at h;done)
   |number lo hi=>cases v<;>first|rfl|(simp[Aj] at h;done)
   |text q=>
     simp only[wf,ug9,ug2] at hw
     cases v<;>simp only[Aj,ue7] at h
     simp only[ug9,ug2] at h;rw[okD,ug2];lia
   |list s q=>
     rw[Sh.depth] at hd;simp only[wf,ug9,ug2] at hw
     cases v<;>simp only[Aj,ue7] at h
     simp only[ug9,ug2,uh4] at h;rw[okD];exact ON λd m=>Gi n s (by lia) hw.2 d (h.2 d m)
   |pair a b=>
     rw[Sh.depth] at hd;simp only[wf,ug9] at hw;unfold Aj at h
     split at h
     .rw[ug9] at h;rw[okD,oks,oks,oks,Gi n a (by lia) hw.1 _ h.1,Gi n b (by lia) hw.2 _ h.2];rfl
     .cases h
   |choice ss=>
     rw[Sh.depth] at hd;simp only[wf,ug9,ug2] at hw;unfold Aj at h
     split at h
     .next o k x=>
      simp only[ug9,ug2] at h;have hk:k.toNat<ss.length:=by lia
      have e1:ss[k.toNat]?=some ss[k.toNat]:=ub3 hk;have h2:=h.2;rw[Cj ss _ _ _ e1] at h2;have ho:o=("of":Str):=eq_of_beq h.1.1;have hx:=Gi n _ (ul7 (Cn ss _ _ e1) (by lia)) (DQ hw.2 _ (uh7 hk)) x h2;subst ho;have hl:okD (.str ("of":Str))=true:=by decide +kernel
      rw[okD,oks,oks,oks,oks,hl,hx];rfl
     .cases h
def JC(f:Fn):Prop:=∀(g:List GS) (q p:Nat) (v:D),GOk g->MvOk g q p v->Pure1 f [(Av g q).d,Fc g q p v] (.int p)
theorem Mr{cf:Fn}(hf:FZ cf 3)(hp:Hn cp):JC (fnOf 2 3 (Ed cf cp)):=by
 intro g q p v hg hm S;refine Al rfl ?_;unfold Ed;clear 5(GP hm.pl)side ws e hpl ew;have hgs:=Dg hg hm.lt;have hw:=FR hg hm.lt hm.pl;have hfit:=hm.fit;unfold Fc;rw[e] at hgs⊢;generalize wdAt g q p=w at ew hw hfit⊢;have hov:okD v=true:=Gi 3 w.2.1 hw.dep hw.ok v hfit;show W _ ⟨[vw (.tup [.str side,.lst (ws.map wdD)]),vw (.tup [.str side,.str w.1,v]),none],S⟩ _;right;refine DT (by simp) ?_;right;have hpn:=hp g.length (.st side ws) w.1 hgs;have hidx:((GS.st side ws).ws.findIdx? λx=>x.1==w.1)=some p:=by
  cases hgs with
  |st _ _ _ h4 _=>exact PB h4 ew
 rw[hidx] at hpn;refine hpn.use ?_;show Ei _ _ .next ⟨[vw (.tup [.str side,.lst (ws.map wdD)]),vw (.tup [.str side,.str w.1,v]),vw (.int p)],S⟩;right;refine BR (GF ew) ?_;unfold wdD;right;refine(hf w.2.1 hw.dep v hov).use ?_;rw[hfit];right;exact⟨rfl,rfl⟩
def MF(f:Fn):Prop:=∀(g:List GS) (q p:Nat),GOk g->q<g.length->p<(Av g q).ws.length->Pure1 f [.lst (g.map GS.d),.tup [.int q,.int p]] (.int (nextQ g q p))
theorem Wq:MF (fnOf 2 2 Gx):=by
 intro g q p hg hq hp S;refine Al rfl ?_;unfold Gx;clear 5(GP hp)side ws e hpl ew;have hw:=FR hg hq hp;have hlo:=hw.lo;right;refine BR (C9 hq) ?_;rw[e,GS.d];right;refine BR (GF ew) ?_;unfold wdD;right;refine⟨?_,rfl⟩;unfold nextQ
 congr 1
 lia
abbrev kR:Key:=.inr (Str.ofString "rest")
abbrev kM:Key:=.inr (Str.ofString "mixed")
abbrev kC:Key:=.inr (Str.ofString "count")
abbrev bH(a b c:D):List (Key×D):=[(kR,a),(kM,b),(kC,c)]
def Room(k r:Nat)(S:List Ob):Prop:=∃(a c:Int) (b:Bool),S[k]?=some (.dct (bH (.int a) (.bl b) (.int c)))/\0<=c/\c+r<=1000000000000000000000000000000
theorem A7{k:Nat}{o o':Ob}(h:S[k]?=some o):(S.set k o')[k]?=some o':=V5 h
theorem CP{x:Ob}:(S++[x])[S.length]?=some x:=by simp
noncomputable def cs:Nat->Nat
 |0=>10
 |d+1=>10+3*cs d
structure Drawn(k r:Nat)(dp:Nat)(v:D)(S':List Ob):Prop where
 ex:∃s:Sh,v=s.d/\s.depth<=dp/\wf s=true
 pool:Room k r S'
variable{ss:List Sh}
theorem bP{k:Nat}(h:k<ss.length):atI (shD ss) (k:Int)=some (ss[k]).d:=by
 unfold atI;rw[Em (by lia) (by rw[DO];lia)];show(shD ss)[(k:Int).toNat]?=_;rw[uf5,FY,ub3 h];rfl
noncomputable def vB:Nat->Nat
 |0=>10
 |m+1=>10+vB m*3
structure Val(k r:Nat)(s:Sh)(c:Nat)(v:D)(S':List Ob):Prop where
 fit:Aj s v=true
 len:(AI s v).length<=c
 pool:Room k r S'
def hd1(x:Str):Option Nat:=x.cps.toList.head?
def okB(g:List GS):Nat->List Mv->Prop
 |_,[]=>True
 |q,(p,v)::r=>(AI (wdAt g q p).2.1 v).length<=400/\okB g (nextQ g q p) r
structure TOk(g:List GS)(mv:List Mv):Prop where
 ok:okQ g 0 mv
 bd:okB g 0 mv
 len:mv.length<=60
theorem HS{k:Nat}{h:List D->List D->Option (List D)}{g:M (List D)}(w:W f t λo t1=>o=.obj k/\∃xs0,t1.S[k]?=some (.lst xs0)/\W g t1 λds t2=>∃xs ys,t2.S[k]?=some (.lst xs)/\h xs ds=some ys/\P .non ⟨t2.env,t2.S.set k (.lst ys)⟩):W (objM h f g) t P:=by
 unfold objM;refine W_bnd.mpr (w.mono λo t1 z9=>?_);clear 5 z9 e xs0 e1 w;subst e;clear 5 w ds t2 e2 xs ys e3 e4 p;refine⟨_,_,?_,p⟩;simp only[e1,bnd,e2,e3,e4];rfl
def Ao(g:List GS)(sd:Str):Nat->List Mv->List D
 |_,[]=>[]
 |q,(p,v)::r=>(if (Av g q).side=sd then .int p::AI (wdAt g q p).2.1 v else [])++Ao g sd (nextQ g q p) r
theorem Ek(g:List GS)(sd:Str):∀(q:Nat) (a b:List Mv),Ao g sd q (a++b)=Ao g sd q a++Ao g sd (Ah g q a) b
 |q,[],b=>rfl
 |q,(p,v)::r,b=>by rw[uh8,Ao,Ao,Ah,Ek g sd _ r b,uf7]
abbrev kL:Key:=.inr (Str.ofString "left")
abbrev kRt:Key:=.inr (Str.ofString "right")
theorem kLR:¬kL=kRt:=by intro h;injection h with h;rw[IH] at h;exact absurd h (by decide)
theorem kRL:¬kRt=kL:=λh=>kLR h.symm
theorem sLR:¬Str.ofString "left" = Str.ofString "right":=λh=>kLR (lu Sum.inr h)
theorem We{a b:D}:Be [(kL,a),(kRt,b)] kL=some a:=by simp[Be,ui9]
theorem Wg{a b:D}:Be [(kL,a),(kRt,b)] kRt=some b:=by
 unfold Be;rw[ui9,show decide (kL=kRt)=false from uj5 kLR];simp[ui9]
theorem JP{a b:D}:Dh [(kL,a),(kRt,b)]=[(kL,a),(kRt,b)]:=by
 unfold Dh;simp only[ui7,List.foldl_nil];have e1:BQ [] kL a=[(kL,a)]:=by simp[BQ]
 rw[e1];unfold BQ;rw[lE (by simp only[uk7,List.any_nil,uk5,ug2];exact kLR)];rfl
theorem Wh{a b d:D}:BQ [(kL,a),(kRt,b)] kL d=[(kL,d),(kRt,b)]:=by
 unfold BQ;rw[lD (by simp)];simp only[uk4,um0,ly,lE kRL]
theorem Wi{a b d:D}:BQ [(kL,a),(kRt,b)] kRt d=[(kL,a),(kRt,d)]:=by
 unfold BQ;rw[lD (by simp)];simp only[uk4,um0,ly,lE kLR]
abbrev sL:Str:=Str.ofString "left"
abbrev sR:Str:=Str.ofString "right"
structure Wr(K A B:Nat)(S:List Ob)(xs ys:List D):Prop where
 k:S[K]?=some (.dct [(kL,.obj A),(kRt,.obj B)])
 a:S[A]?=some (.lst xs)
 b:S[B]?=some (.lst ys)
 ab:A≠B
 ka:K≠A
 kb:K≠B
def FrO(F:List (Nat×Ob))(k:Nat)(S:List Ob):Prop:=∀p∈F,p.1≠k/\S[p.1]?=some p.2
def gu(F:List (Nat×Ob))(S:List Ob):Prop:=∀p∈F,S[p.1]?=some p.2
def aU(F:List (Nat×Ob))(k r:Nat)(S:List Ob):Prop:=Room k r S/\FrO F k S
structure ValF(F:List (Nat×Ob))(k r:Nat)(s:Sh)(c:Nat)(v:D)(S':List Ob):Prop where
 fit:Aj s v=true
 len:(AI s v).length<=c
 pool:aU F k r S'
noncomputable def GS.sd:GS->Str
 |.fin=>Str.ofString "end"
 |.st s _=>s
inductive Odd(x:GS):D->Prop
 |non:Odd x .non
 |lst {ds:List D}:Odd x (.lst ds)
 |two {a b:D}:Odd x (.tup [a,b])
 |four {a b c d:D}:Odd x (.tup [a,b,c,d])
 |sideN {b c:D}:Odd x (.tup [.non,b,c])
 |side {s:Str}{b c:D}:¬s=x.sd->Odd x (.tup [.str s,b,c])
 |nmN {s:Str}{c:D}:Odd x (.tup [.str s,.non,c])
 |nmI {s:Str}{i:Int}{c:D}:Odd x (.tup [.str s,.int i,c])
 |nm {s nm:Str}{c:D}:(x.ws.findIdx? λw=>w.1==nm)=none->Odd x (.tup [.str s,.str nm,c])
 |val {s nm:Str}{c:D}{p:Nat}{w:Str×Sh×Int}:(x.ws.findIdx? λw=>w.1==nm)=some p->x.ws[p]?=some w->okD c=true->Aj w.2.1 c=false->Odd x (.tup [.str s,.str nm,c])
def Rq(n:Nat)(d:D):Prop:=∀m,n<=m->eqN m d d=some true
theorem Rq.mono{m:Nat}{d:D}(h:Rq n d)(e:n<=m):Rq m d:=λk hk=>h k (ul7 e hk)
theorem IP{i:Int}:Rq n (.int i):=λm _=>by cases m<;>(show some (i==i)=some true;rw[uh9])
theorem KI{i:Str}:Rq n (.str i):=λm _=>by cases m<;>(show some (i==i)=some true;rw[uh9])
theorem KJ(h:∀x∈xs,Rq n x):Rq (n+1) (.tup xs):=λm hm=>by
 obtain⟨k,rfl⟩:∃k,m=k+1:=jt (by lia);have e:DS (eqN k) xs xs=some true:=Fo λx hx=>h x hx k (by lia);rw[eqN,e];simp
theorem NN(h:∀x∈xs,Rq n x):Rq (n+1) (.lst xs):=λm hm=>by
 obtain⟨k,rfl⟩:∃k,m=k+1:=jt (by lia);rw[eqN,lD rfl];exact Fo λx hx=>h x hx k (by lia)
theorem dC{p:D->Prop}{a:D}(h:p a):∀x∈[a],p x:=λx hx=>by rw[ue8.mp hx];exact h
theorem Pn{p:D->Prop}{a b:D}(h:p a)(h2:p b):∀x∈[a,b],p x:=λx hx=>(uk3.mp hx).elim (λe=>by rw[e];exact h) (dC h2 x)
theorem dD{p:D->Prop}{a b c:D}(h:p a)(h2:p b)(h3:p c):∀x∈[a,b,c],p x:=λx hx=>(uk3.mp hx).elim (λe=>by rw[e];exact h) (Pn h2 h3 x)
def mB:Nat->Nat
 |0=>0
 |m+1=>10+vB m*2+mB m*2
structure Mis(n:Nat)(s:Sh)(v:D):Prop where
 ok:okD v=true
 no:Aj s v=false
 rq:Rq n v
structure Fit(n:Nat)(s:Sh)(v:D):Prop where
 ok:okD v=true
 fit:Aj s v=true
 rq:Rq n v
theorem Yz{s:Sh}(hn:s.depth<=n)(hw:wf s=true)(h:Aj s v=true):Fit n s v:=by
 clear 5(Hb s.depth s (um5 _) hw v h)h1 h2 h3;exact⟨Vj h1,h,λm hm=>h3 m (ul7 hn hm)⟩
def Gr(S S':List Ob):Prop:=S.length<=S'.length/\∀i,i<S.length->S'[i]?=S[i]?
theorem Gr.trans{S S1 S2:List Ob}(a:Gr S S1)(b:Gr S1 S2):Gr S S2:=⟨ul7 a.1 b.1,λi h=>(b.2 i (ue1 h a.1)).trans (a.2 i h)⟩
theorem Gr.app{ex:List Ob}:Gr S (S++ex):=⟨by rw[ue6];lia,λi h=>ub1 h⟩
theorem Gr.set{S S':List Ob}{k:Nat}{o:Ob}(a:Gr S S')(h:S.length<=k):Gr S (S'.set k o):=⟨by rw[uj3];exact a.1,λi hi=>by rw[ud2 (by lia)];exact a.2 i hi⟩
theorem Gr.get{S S':List Ob}{k:Nat}{o:Ob}(a:Gr S S')(h:S[k]?=some o):S'[k]?=some o:=by rw[a.2 k (ub0.mp h).1];exact h
abbrev lr(a b:D):List (Key×D):=[(kL,a),(kRt,b)]
abbrev dP(a b:Nat):List (Key×D):=lr (.int a) (.int b)
noncomputable def onS{α:Type}(s:Str)(a b:α):α:=if s=sL then a else b
variable{s:Str}
theorem YX{a b:D}(h:s=sL\/s=sR):Be (lr a b) (.inr s)=some (onS s a b):=by
 unfold onS;rcases h with rfl|rfl
 .rw[lD rfl];exact We
 .rw[lE (Ne.symm sLR)];exact Wg
theorem YY{a b d:D}(h:s=sL\/s=sR):BQ (lr a b) (.inr s) d=lr (onS s d a) (onS s b d):=by
 unfold onS;rcases h with rfl|rfl
 .rw[lD rfl,lD rfl];exact Wh
 .rw[lE (Ne.symm sLR),lE (Ne.symm sLR)];exact Wi
set_option tactic.hygienic true
inductive Sr where
 |stop
 |brk (k:Nat) (s:Str)
 |next (m:D) (h a b:Nat)
def msgR(side:Str)(ws:List (Str×Sh×Int))(w:List Nat)(p:Nat):RR×Nat:=match w[p]? with
 |none=>(.short,0)
 |some c=>match ws[c]? with
   |none=>(.broken p,0)
   |some wd=>((pSh 3 wd.2.1).run w (p+1),c)
def IF(side:Str)(ws:List (Str×Sh×Int))(w:List Nat)(p:Nat):D:=match msgR side ws w p with
 |(.short,_)=>.non
 |(.broken k,_)=>.exc "Broken" [.int k,.str side]
 |(.told v e,c)=>.tup [.tup [.str side,.str (ws.getD c (Str.ofString "",.nothing,0)).1,v],.int (ws.getD c (Str.ofString "",.nothing,0)).2.2,.int e]
def Fj(g:List GS)(wl wr:List Nat)(h a b:Nat):Sr:=match Av g h with
 |.fin=>.stop
 |.st side ws=>match msgR side ws (onS side wl wr) (onS side a b) with
   |(.short,_)=>.stop
   |(.broken k,_)=>.brk k side
   |(.told v e,c)=>.next (.tup [.str side,.str (ws.getD c (Str.ofString "",.nothing,0)).1,v]) (ws.getD c (Str.ofString "",.nothing,0)).2.2.toNat (onS side e a) (onS side b e)
abbrev Rs:=List D×Nat×Nat×Nat×Option (Nat×Str)
def ED(g:List GS)(wl wr:List Nat):Nat->Nat->Nat->Nat->List D->Rs
 |0,h,a,b,t=>(t,h,a,b,none)
 |f+1,h,a,b,t=>match Fj g wl wr h a b with
   |.stop=>(t,h,a,b,none)
   |.brk k s=>(t,h,a,b,some (k,s))
   |.next m h' a' b'=>ED g wl wr f h' a' b' (t++[m])
structure Pl(g:List GS)(wl wr:List Nat)(h a b:Nat):Prop where
 h:h<g.length
 a:a<=wl.length
 b:b<=wr.length
variable{h:Nat}
theorem Sw{wl wr:List Nat}(hg:GOk g)(p:Pl g wl wr h a b){m:D}{h' a' b':Nat}(e:Fj g wl wr h a b=.next m h' a' b'):Pl g wl wr h' a' b'/\a+b<a'+b':=by
 have hgs:=Dg hg p.h;unfold Fj at e
 cases eg:Av g h with
 |fin=>rw[eg] at e;cases e
 |st side ws=>
   rw[eg] at e hgs
   cases hgs with
   |@st _ _ hs1 hs2 hs3 hs4 hs5=>
   dsimp only at e;unfold msgR at e
   cases hb:(onS side wl wr)[onS side a b]? with
   |none=>rw[hb] at e;cases e
   |some c=>
     rw[hb] at e;dsimp only at e
     cases hw:ws[c]? with
     |none=>rw[hw] at e;cases e
     |some wd=>
       rw[hw] at e;dsimp only at e;obtain⟨hpl,_⟩:=ub0.mp hb;have hwo:=hs5 wd (ud3 hw);have hlo:=hwo.lo;have hhi:=hwo.hi;have hgd:ws.getD c (Str.ofString "",.nothing,0)=wd:=by rw[ua9,hw];rfl
       cases er:(pSh 3 wd.2.1).run (onS side wl wr) (onS side a b+1) with
       |short=>rw[er] at e;cases e
       |broken k=>rw[er] at e;cases e
       |told v x=>
         rw[er] at e;dsimp only at e;rw[hgd] at e;injection e with e1 e2 e3 e4
         clear 5(LF _ _ hpl er)l1 l2;have pa:=p.a;have pb:=p.b;subst e2;unfold onS at e3 e4 l1 l2
         by_cases q:side=sL
         .rw[lD q] at e3 e4 l1 l2;exact⟨⟨by lia,by lia,by lia⟩,by lia⟩
         .rw[lE q] at e3 e4 l1 l2;exact⟨⟨by lia,by lia,by lia⟩,by lia⟩
set_option tactic.hygienic false
theorem aL{x:Str}{neg:Bool}(e:t.S[n]?=some (.dct kvs))(h:P (.bl (if neg then !(Be kvs (.inr x)).isSome else(Be kvs (.inr x)).isSome)) t):W (inS neg (.str x) (.obj n)) t P:=
 ⟨_,_,by simp only[inS,e],h⟩
theorem aG(e:t.S[n]?=some (.dct kvs))(h:P (.obj t.S.length) ⟨t.env,t.S++[.dct kvs]⟩):W (IW [.obj n]) t P:=
 ⟨_,_,by simp only[IW,e],h⟩
theorem t9{a0 a1 a2 a3 a6 e7 e8:Option Sl}{X Y:List D}{x y:D}(h1:X=Y)(h2:x=y):(⟨[a0,a1,a2,a3,some (.own X),vw x,a6,e7,e8],S⟩:T)=⟨[a0,a1,a2,a3,some (.own Y),vw y,a6,e7,e8],S⟩:=by subst h1 h2;rfl
def Wir(S:List Ob)(d:D)(w:List Nat):Prop:=d=.lst (wD w)\/∃k,d=.obj k/\S[k]?=some (.lst (wD w))
def PureS(S:List Ob)(f:Fn)(ds:List D)(r:D):Prop:=Wf f ds S λr' S'=>r'=r/\S'=S
theorem PureS.use{f:Fn}{r:D}(h:PureS S f ds r){P:D->List Ob->Prop}(p:P r S):Wf f ds S P:=h.mono λ_ _ ⟨e1,e2⟩=>by subst e1 e2;exact p
theorem MB{d:D}(h:Wir t.S d w)(p:P (.int (w.length:Nat)) t):W (AY [d]) t P:=by
 rcases h with rfl|⟨k,rfl,e⟩
 .refine Qr ?_;rw[A3];exact p
 .refine GR e ?_;rw[A3];exact p
theorem UQ{d:D}(h:Wir t.S d w)(e:w[a]?=some b)(p:P (.int (b:Int)) t):W (ixD d (.int (a:Int))) t P:=by
 rcases h with rfl|⟨k,rfl,e'⟩
 .exact BR (IV (SJ e)) p
 .exact W_ix_obj.mpr ⟨_,e',_,IV (SJ e),p⟩
def BXw(f:Fn):Prop:=∀(S:List Ob) (wv:D) (w:List Nat) (a:Nat),Wir S wv w->PureS S f [wv,.int (a:Int)] (byX w[a]?)
theorem Ya:BXw (fnOf 2 2 Gq):=by
 intro S wv w a hv;refine Al rfl ?_;unfold Gq;have hl:=A3 w
 cases h:w[a]? with
 |none=>
   have:=jj.mp h;symm;refine MB hv ?_;symm;refine Ev (uk1 (by lia)) ?_;symm;exact⟨rfl,rfl⟩
 |some b=>
   obtain⟨hj,_⟩:=ub0.mp h;symm;refine MB hv ?_;symm;refine DT (uj5 (by lia)) ?_;symm;refine UQ hv h ?_;exact⟨rfl,rfl,rfl⟩
variable{S':List Ob}
theorem Wir.gr{d:D}(h:Wir S d w)(g:Gr S S'):Wir S' d w:=h.imp id λ⟨k,e1,e2⟩=>⟨k,e1,g.get e2⟩
local macro_rules | `(tactic| walk_at"y1")=>`(tactic| walk_at"x1")
def nbD(r:D):Prop:=∀a,r≠exB a
theorem E3:nbD exS:=λa h=>by injection h with h1;revert h1;decide
theorem Nx{i:Int}:nbD (.int i):=λa h=>by cases h
theorem Y7{x:Str}:nbD (.str x):=λa h=>by cases h
theorem IG:nbD (.tup xs):=λa h=>by cases h
def PureB(S:List Ob)(f:Fn)(ds:List D)(r:D):Prop:=nbD r->PureS S f ds r
theorem PureB.use{f:Fn}{ds:List D}{r:D}{S:List Ob}(h:PureB S f ds r)(n:nbD r){P:D->List Ob->Prop}(p:P r S):Wf f ds S P:=PureS.use (h n) p
def UXn(f:Fn):Prop:=∀(S:List Ob) (wv:D) (m:Int) (w:List Nat) (a:Nat),Wir S wv w->PureB S f [.int m,wv,.int (a:Int)] (upX m a w[a]?)
theorem aB(hc:BXw c):UXn (fnOf 3 4 (EY c)):=by
 intro S wv m w a hv hnb;refine Al rfl ?_;unfold EY;have hb:=hc S wv w a hv
 cases h:w[a]? with
 |none=>
   rw[h,byX] at hb;symm;refine hb.use ?_;symm;exact⟨rfl,rfl⟩
 |some b=>
   rw[h,byX] at hb;symm;refine hb.use ?_;symm;rw[h,upX] at hnb;rw[upX]
   by_cases q:(b:Int)<=m
   .rw[lD q];refine DT (uj5 (by lia)) ?_;symm;exact⟨rfl,rfl,rfl⟩
   .rw[lE q] at hnb;exact(hnb _ rfl).elim
def SXn(f:Fn):Prop:=∀(S:List Ob) (wv:D) (w:List Nat) (a:Nat),Wir S wv w->PureB S f [wv,.int (a:Int)] (sgX a w[a]?)
variable{cb:Fn}
theorem aq{cs:Fn}(hs:J8 cs)(hb:BXw cb):SXn (fnOf 2 3 (Gv cs cb)):=by
 intro S wv w a hv hnb;refine Al rfl ?_;unfold Gv;have hb:=hb S wv w a hv
 cases h:w[a]? with
 |none=>
   rw[h,byX] at hb;symm;refine hb.use ?_;symm;exact⟨rfl,rfl⟩
 |some c=>
   rw[h,byX] at hb;symm;rw[h,sgX] at hnb;refine hb.use ?_;symm;refine(hs c).use ?_;rw[sgX]
   by_cases q:BK c=true
   .rw[lD q,q];symm;refine W_ix_str.mpr ⟨by decide +kernel,c,ai q,?_⟩;exact⟨rfl,rfl,rfl⟩
   .have q':BK c=false:=by simpa using q
    rw[lE q] at hnb;exact(hnb _ rfl).elim
theorem Z8(hl:Ic cl)(hb:BXw cb)(hw:J9 cw){lo hi:Int}(hwf:wf (.number lo hi)=true)(w:List Nat)(a:Nat){S:List Ob}{wv:D}(hv:Wir S wv w):PureB S (fnOf 3 7 (Dz cl cb cw)) [(Sh.number lo hi).d,wv,.int (a:Int)] (rrD ((HH lo (hi-lo).toNat (wid (hi-lo).toNat) 0).run w a)):=by
 intro hnb;have hsp:=O6 hwf;have hwd:=IS 9 _ hsp;refine Al rfl ?_;unfold Dz;rw[Sh.d];have em:hi-lo=(((hi-lo).toNat:Nat):Int):=by
  simp only[wf,ug9,ug2] at hwf;lia
 have hww:=λS P p=>(hw (hi-lo).toNat hsp).use (S:=S) (P:=P) p;rw[<-em] at hww;generalize (hi-lo).toNat=M at *;generalize hW:wid M=n at *;symm;refine hww _ _ ?_;rw[em];symm;refine IQ (B9 (by lia) (by lia)) ?_;refine Dl (λr t=>∃(j x:Nat) (e6:Option Sl),j<=n/\r=(Bo 0 ((n:Nat):Int).toNat).drop j/\(HH lo M n 0).run w a=(HH lo M (n-j) x).run w (a+j)/\t=⟨[vw (.tup [.str "number",.int lo,.int hi]),vw wv,vw (.int a),vw (.int M),vw (.int n),vw (.int x),e6],S⟩) _ _ ⟨0,0,none,um6 _,rfl,rfl,rfl⟩ ?_ ?_
 .rintro d r t ⟨j,x,e6,hj,hr,hrun,rfl⟩ _;clear 5(Lw hr)rfl hr' hjn;rw[uf5] at hjn;rw[lh];obtain⟨e,he⟩:∃e,n-j=e+1:=⟨n-j-1,by lia⟩;rw[he,HH] at hrun;have hby:=hb S wv w (a+j) hv;symm;refine Qs (OJ (by decide) (by decide)) ?_;symm;rw[show((a:Int)+(j:Int))=((a+j:Nat):Int) by lia]
  cases h:w[a+j]? with
  |none=>
    rw[h,byX] at hby;rw[Db h] at hrun;refine hby.use ?_;symm;exact⟨by rw[hrun];rfl,rfl⟩
  |some b=>
    rw[h,byX] at hby;rw[BN h] at hrun;refine hby.use ?_;symm;refine⟨rfl,?_⟩;symm;rw[show((n:Int)-1-(j:Int))=((e:Nat):Int) by lia,show((x:Int)*256+(b:Int))=((x*256+b:Nat):Int) by lia];refine(hl M e (by lia)).use ?_;symm
    by_cases q:x*256+b<=M/2 ^ (8*e)
    .rw[lD (uk1 q)] at hrun;refine DT (uj5 (by lia)) ?_;symm;exact⟨j+1,x*256+b,_,hjn,hr',by rw[show n-(j+1)=e by lia,hrun,ul1],rfl⟩
    .rw[lE (by rw[ug2];exact q)] at hrun;rw[hrun] at hnb;exact(hnb _ rfl).elim
 .rintro t ⟨j,x,e6,hj,hr,hrun,rfl⟩;have hj':j=n:=by
   have:=lu List.length hr;rw[uj0,ug8,KH,uf5] at this;lia
  subst hj';rw[um4,HH,Rd.run] at hrun;symm;exact⟨rfl,by rw[hrun];rfl,rfl⟩
variable{cu:Fn}
theorem W4{ca:Fn}(ha:SXn ca)(hu:UXn cu){q:Int}(hwf:wf (.text q)=true)(n:Nat)(w:List Nat)(a:Nat){S:List Ob}{wv:D}(hv:Wir S wv w):PureB S (fnOf 3 7 (Es ca cu)) [(Sh.text q).d,wv,.int (a:Int)] (rrD ((pSh (n+1) (.text q)).run w a)):=by
 intro hnb;have hL:LIM=100000:=rfl;refine Al rfl ?_;unfold Es;rw[Sh.d,pSh];rw[pSh] at hnb;simp only[wf,ug9,ug2] at hwf;have hup:=hu S wv q w a hv;symm
 cases h:w[a]? with
 |none=>
   rw[h,upX] at hup;rw[Db h];refine hup.use E3 ?_;symm;exact⟨rfl,rfl⟩
 |some b=>
   rw[h,upX] at hup;rw[BN h] at hnb⊢
   by_cases hb:(b:Int)<=q
   .rw[lD hb] at hup;rw[lD (uk1 hb)] at hnb⊢;refine hup.use Nx ?_;symm;refine IQ (B9 (by lia) (by lia)) ?_;refine Dl (λr t=>∃(j:Nat) (y:Str) (e6:Option Sl),j<=b/\r=(Bo 0 ((b:Nat):Int).toNat).drop j/\y.cps.toList.length=j/\(IJ b []).run w (a+1)=(IJ (b-j) y.cps.toList).run w (a+1+j)/\t=⟨[vw (.tup [.str "text",.int q]),vw wv,vw (.int a),vw (.int b),vw (.int ((a:Int)+1)),vw (.str y),e6],S⟩) _ _ ⟨0,Str.ofString "",none,um6 _,rfl,by decide +kernel,by rw[Nat.sub_zero,Nat.add_zero,show(Str.ofString "").cps.toList=[] by decide +kernel],rfl⟩ ?_ ?_
    .rintro d r t ⟨j,y,e6,hj,hr,hyl,hrun,rfl⟩ _;clear 5(Lw hr)rfl hr' hjn;rw[uf5] at hjn;rw[lh];obtain⟨e,he⟩:∃e,b-j=e+1:=⟨b-j-1,by lia⟩;rw[he,IJ] at hrun;have hsg:=ha S wv w (a+1+j) hv;symm;rw[show((a:Int)+1+(j:Int))=((a+1+j:Nat):Int) by lia]
     cases h2:w[a+1+j]? with
     |none=>
       rw[h2,sgX] at hsg;rw[Db h2] at hrun;refine hsg.use E3 ?_;symm;exact⟨by rw[hrun];rfl,rfl⟩
     |some c=>
       rw[h2,sgX] at hsg;rw[BN h2] at hrun
       by_cases hc:BK c=true
       .rw[lD hc] at hsg hrun;refine hsg.use Y7 ?_;symm;refine BI (by rw[Fr y,hyl,hL];show j+1<=_;lia) ?_;refine⟨rfl,?_⟩;symm;refine⟨j+1,_,_,hjn,hr',?_,?_,rfl⟩
        .rw[LL,ue6,hyl];rfl
        .rw[hrun,LL,show b-(j+1)=e by lia,ul1 (a+1)]
       .rw[lE hc] at hsg hrun;rw[hrun] at hnb;exact(hnb _ rfl).elim
    .rintro t ⟨j,y,e6,hj,hr,hyl,hrun,rfl⟩;have hj':j=b:=by
      have:=lu List.length hr;rw[uj0,ug8,KH,uf5] at this;lia
     subst hj';rw[um4,IJ,Rd.run] at hrun;have ey:(⟨y.cps.toList.toArray⟩:Str)=y:=Xr (by simp);rw[ey] at hrun;symm;refine⟨rfl,?_,rfl⟩;rw[hrun,rrD,show((a:Int)+1+(j:Int))=((a+1+j:Nat):Int) by lia]
   .rw[lE (by rw[ug2];exact hb)] at hnb;exact(hnb _ rfl).elim
def RXn(c:Fn)(s:Sh)(p:Rd):Prop:=∀(S:List Ob) (wv:D) (w:List Nat) (a:Nat),Wir S wv w->a<=w.length->PureB S c [s.d,wv,.int (a:Int)] (rrD (p.run w a))
theorem WZ{s:Sh}{p:Rd}{q:Int}(hu:UXn cu)(hq2:q<=250)(hc:RXn c s p)(w:List Nat)(a:Nat){S:List Ob}{wv:D}(hv:Wir S wv w):PureB S (fnOf 3 8 (Eo c cu)) [(Sh.list s q).d,wv,.int (a:Int)] (rrD ((Rd.need (λb=>decide ((b:Int)<=q)) λb=>HG p b []).run w a)):=by
 intro hnb;have hL:LIM=100000:=rfl;refine Al rfl ?_;unfold Eo;rw[Sh.d];have hup:=hu S wv q w a hv;symm
 cases h:w[a]? with
 |none=>
   rw[h,upX] at hup;rw[Db h];refine hup.use E3 ?_;symm;exact⟨rfl,rfl⟩
 |some b=>
   have hal:=(ub0.mp h).1;rw[h,upX] at hup;rw[BN h] at hnb⊢
   by_cases hb:(b:Int)<=q
   .rw[lD hb] at hup;rw[lD (uk1 hb)] at hnb⊢;refine hup.use Nx ?_;symm;refine IQ (B9 (by lia) (by lia)) ?_;refine Dl (λr t=>∃(j a':Nat) (ds:List D) (e6 e7:Option Sl),j<=b/\r=(Bo 0 ((b:Nat):Int).toNat).drop j/\ds.length=j/\a'<=w.length/\(HG p b []).run w (a+1)=(HG p (b-j) ds).run w a'/\t=⟨[vw (.tup [.str "list",s.d,.int q]),vw wv,vw (.int a),vw (.int b),vw (.int (a':Int)),some (.own ds),e6,e7],S⟩) _ _ ⟨0,a+1,[],none,none,um6 _,rfl,rfl,hal,rfl,rfl⟩ ?_ ?_
    .rintro d r t ⟨j,a',ds,e6,e7,hj,hr,hdl,ha',hrun,rfl⟩ _;clear 5(Lw hr)rfl hr' hjn;rw[uf5] at hjn;obtain⟨e,he⟩:∃e,b-j=e+1:=⟨b-j-1,by lia⟩;rw[he,HG,Et] at hrun;have hcc:=hc S wv w a' hv ha'
     cases h2:p.run w a' with
     |short=>
       rw[h2] at hrun hcc;symm;refine hcc.use E3 ?_;rw[rrD];symm;exact⟨by rw[hrun];rfl,rfl⟩
     |broken k=>
       rw[h2] at hrun hcc;rw[hrun] at hnb;exact(hnb _ rfl).elim
     |told v a2=>
       have hle:=LF p a' ha' h2;rw[h2] at hrun hcc;symm;refine hcc.use IG ?_;rw[rrD];symm;refine BI (by rw[hdl,hL];lia) ?_;symm;exact⟨j+1,a2,ds++[v],_,_,hjn,hr',by rw[ue6,hdl];rfl,hle.2,by rw[hrun,show b-(j+1)=e by lia];rfl,rfl⟩
    .rintro t ⟨j,a',ds,e6,e7,hj,hr,hdl,ha',hrun,rfl⟩;have hj':j=b:=by
      have:=lu List.length hr;rw[uj0,ug8,KH,uf5] at this;lia
     subst hj';rw[um4,HG,Rd.run] at hrun;symm;exact⟨rfl,by rw[hrun];rfl,rfl⟩
   .rw[lE (by rw[ug2];exact hb)] at hnb;exact(hnb _ rfl).elim
theorem W3{s r:Sh}{p p':Rd}(hs:RXn c s p)(hr:RXn c r p')(w:List Nat)(a:Nat){S:List Ob}{wv:D}(hv:Wir S wv w)(ha:a<=w.length):PureB S (fnOf 3 5 (Ep c)) [(Sh.pair s r).d,wv,.int (a:Int)] (rrD ((p.bnd λv=>p'.bnd λu=>.done (.tup [v,u])).run w a)):=by
 intro hnb;refine Al rfl ?_;unfold Ep;rw[Sh.d,Et];rw[Et] at hnb;have h1:=hs S wv w a hv ha
 cases e1:p.run w a with
 |short=>
   rw[e1] at h1;symm;refine h1.use E3 ?_;rw[rrD];symm;exact⟨rfl,rfl⟩
 |broken k=>
   rw[e1] at hnb;exact(hnb _ rfl).elim
 |told v a'=>
   have hle:=LF p a ha e1;rw[e1] at h1 hnb;have h2:=hr S wv w a' hv hle.2;rw[RR.thn,Et] at hnb⊢;symm;refine h1.use IG ?_;rw[rrD];symm
   cases e2:p'.run w a' with
   |short=>rw[e2] at h2;refine h2.use E3 ?_;rw[rrD];symm;exact⟨rfl,rfl⟩
   |broken k=>rw[e2] at hnb;exact(hnb _ rfl).elim
   |told u a2=>rw[e2] at h2;refine h2.use IG ?_;rw[rrD];symm;exact⟨rfl,rfl,rfl⟩
theorem Se{p:Nat->Rd}(hu:UXn cu)(hc:∀(k:Nat) (h:k<ss.length),RXn c ss[k] (p k))(w:List Nat)(a:Nat){S:List Ob}{wv:D}(hv:Wir S wv w):PureB S (fnOf 3 5 (Dy c cu)) [(Sh.choice ss).d,wv,.int (a:Int)] (rrD ((Rd.need (λb=>decide (b<ss.length)) λb=>(p b).bnd λv=>.done (.tup [.str "of",.int b,v])).run w a)):=by
 intro hnb;refine Al rfl ?_;unfold Dy;rw[Sh.d];have hup:=hu S wv ((ss.length:Int)-1) w a hv;symm;rw[DO]
 cases h:w[a]? with
 |none=>
   rw[h,upX] at hup;rw[Db h];refine hup.use E3 ?_;symm;exact⟨rfl,rfl⟩
 |some b=>
   have hal:=(ub0.mp h).1;rw[h,upX] at hup;rw[BN h] at hnb⊢
   by_cases hb:b<ss.length
   .rw[lD (show(b:Int)<=(ss.length:Int)-1 by lia)] at hup;rw[lD (uk1 hb),Et] at hnb⊢;refine hup.use Nx ?_;have e0:ss[b]?=some ss[b]:=ub3 hb;have hsd:atI (shD ss) (b:Int)=some ss[b].d:=IV (by rw[FY,e0];rfl);have h2:=hc b hb S wv w (a+1) hv hal;symm;refine FH hsd ?_;symm;rw[show((a:Int)+1)=((a+1:Nat):Int) by lia]
    cases e2:(p b).run w (a+1) with
    |short=>rw[e2] at h2;refine h2.use E3 ?_;rw[rrD];symm;exact⟨rfl,rfl⟩
    |broken k=>rw[e2] at hnb;exact(hnb _ rfl).elim
    |told u a2=>rw[e2] at h2;refine h2.use IG ?_;rw[rrD];symm;exact⟨rfl,rfl,rfl⟩
   .rw[lE (by rw[ug2];exact hb)] at hnb;exact(hnb _ rfl).elim
def Ih(f:Fn)(n:Nat):Prop:=∀s:Sh,s.depth<=n->wf s=true->RXn f s (pSh n s)
theorem Sf(hn:∀lo hi,wf (.number lo hi)=true->RXn cn (.number lo hi) (pSh (n+1) (.number lo hi)))(ht:∀q,wf (.text q)=true->RXn ct (.text q) (pSh (n+1) (.text q)))
 (hl:∀s q,q<=250->s.depth<=n->wf s=true->RXn cl (.list s q) (pSh (n+1) (.list s q))) (hp:∀s r,s.depth<=n->r.depth<=n->wf s=true->wf r=true->RXn cp (.pair s r) (pSh (n+1) (.pair s r)))
 (hc:∀ss:List Sh,(∀(k:Nat) (h:k<ss.length),ss[k].depth<=n/\wf ss[k]=true)->RXn cc (.choice ss) (pSh (n+1) (.choice ss))):Ih (fnOf 3 4 (DZ cc cp cl ct cn)) (n+1):=by
 intro s hs hwf S wv w a hv ha hnb;refine Al rfl ?_;unfold DZ
 cases s with
 |nothing=>
   rw[Sh.d,pSh,Rd.run,rrD];symm;exact⟨rfl,rfl,rfl⟩
 |number lo hi=>
   have h:=hn lo hi hwf S wv w a hv ha;rw[Sh.d] at h⊢;symm;exact h.use hnb ⟨rfl,rfl⟩
 |text q=>
   have h:=ht q hwf S wv w a hv ha;rw[Sh.d] at h⊢;symm;exact h.use hnb ⟨rfl,rfl⟩
 |list s q=>
   simp only[wf,ug9,ug2] at hwf;rw[Sh.depth] at hs;have h:=hl s q hwf.1.2 (by lia) hwf.2 S wv w a hv ha;rw[Sh.d] at h⊢;symm;exact h.use hnb ⟨rfl,rfl⟩
 |pair s r=>
   simp only[wf,ug9] at hwf;rw[Sh.depth] at hs;have h:=hp s r (by lia) (by lia) hwf.1 hwf.2 S wv w a hv ha;rw[Sh.d] at h⊢;symm;exact h.use hnb ⟨rfl,rfl⟩
 |choice ss=>
   simp only[wf,ug9,ug2] at hwf;rw[Sh.depth] at hs;have h:=hc ss (λk hk=>⟨ul7 (Cn ss _ _ (ub3 hk)) (by lia),DQ hwf.2 _ (uh7 hk)⟩) S wv w a hv ha;rw[Sh.d] at h⊢;symm;exact h.use hnb ⟨rfl,rfl⟩
theorem Qh{ca cl':Fn}(e1:cc=fnOf 3 5 (Dy c cu))(e2:cp=fnOf 3 5 (Ep c))(e3:cl=fnOf 3 8 (Eo c cu))(e4:ct=fnOf 3 7 (Es ca cu))(e5:cn=fnOf 3 7 (Dz cl' cb cw))
 (hu:UXn cu) (ha:SXn ca) (hl':Ic cl') (hb:BXw cb) (hw:J9 cw) (hc:Ih c n):Ih (fnOf 3 4 (DZ cc cp cl ct cn)) (n+1):=by
 subst e1 e2 e3 e4 e5;refine Sf (λlo hi h S wv w a hv _=>?_) (λq h S wv w a hv _=>W4 ha hu h n w a hv) (λs q h2 hd h S wv w a hv _=>?_) (λs r d1 d2 w1 w2 S wv w a hv ha=>?_) λss h S wv w a hv _=>?_
 .rw[pSh];exact Z8 hl' hb hw h w a hv
 .rw[pSh];exact WZ hu h2 (hc s hd h) w a hv
 .rw[pSh];exact W3 (hc s d1 w1) (hc r d2 w2) w a hv ha
 .rw[pSh];refine Se hu (p:=λb=>pSh n (ss.getD b .nothing)) (λk hk=>?_) w a hv;show RXn c ss[k] (pSh n (ss.getD k .nothing));rw[ua9,ub3 hk,Option.getD_some];exact hc _ (h k hk).1 (h k hk).2
theorem cF{m:Nat}{g:Bool}(e1:t.S[m]?=some (.dct kvs))(e2:t.S[n]?=some (.dct kvs))(h:kvs.all (λkv=>match Be kvs kv.1 with|some e=>alike1 t.S kv.2 e|none=>false)=true)(q:P (.bl g) t):W (Lh g (.obj m) (.obj n)) t P:=
 ⟨_,_,by unfold Lh;dsimp only;rw[e1,e2];dsimp only;rw[lD ⟨rfl,h⟩],q⟩
def isB(l:List D):Prop:=∀d∈l,∃x:Nat,d=.int (x:Int)/\x<256
theorem Rg:∀{l:List D},isB l->∃w:List Nat,l=wD w/\∀x∈w,x<256
 |[],_=>⟨[],rfl,λx z=>nomatch z⟩
 |d::r,h=>by
   clear 5(h d ue2)x rfl hx;obtain⟨w,rfl,hw⟩:=Rg λd m=>h d (ud1 _ m);refine⟨x::w,rfl,λy hy=>?_⟩;rcases uk3.mp hy with rfl|hy
   .exact hx
   .exact hw y hy
theorem Lm{a b:List D}(ha:isB a)(hb:isB b):isB (a++b):=λd h=>(ui0.mp h).elim (ha d) (hb d)
theorem Gm{x:Nat}{b:List D}(hx:x<256)(hb:isB b):isB (.int (x:Int)::b):=λd h=>by
 rcases uk3.mp h with rfl|h
 .exact⟨x,rfl,hx⟩
 .exact hb d h
theorem RC:∀(w n:Nat),isB (nb w n)
 |0,n=>λd h=>nomatch h
 |w+1,n=>Lm (RC w _) (Gm (Nat.mod_lt _ (by decide)) λd h=>nomatch h)
set_option tactic.hygienic true in
theorem F7:∀(n:Nat) (s:Sh),s.depth<=n->wf s=true->∀v,Aj s v=true->isB (AI s v)
 |0,s,h,_,_,_=>absurd s.depth_pos (by lia)
 |n+1,s,hs,hw,v,hf=>by
   cases s with
   |nothing=>rw[AI];exact λd h=>nomatch h
   |number lo hi=>
     cases v<;>simp[Aj] at hf
     rw[AI];exact RC _ _
   |text q=>
     simp only[wf,ug9,ug2] at hw
     cases v<;>simp only[Aj,ue7] at hf
     rename_i x;simp only[ug9,ug2,uh4] at hf;rw[AI];refine Gm (by lia) λd h=>?_;clear 5(um3.mp h)c hc rfl;have:=hf.2 c hc;simp only[BK,ug9,ug2] at this;exact⟨c,rfl,by lia⟩
   |list s q=>
     simp only[wf,ug9,ug2] at hw;rw[Sh.depth] at hs
     cases v<;>simp only[Aj,ue7] at hf
     rename_i ds;simp only[ug9,ug2,uh4] at hf;rw[AI];refine Gm (by lia) λd h=>?_;clear 5(List.mem_flatten.mp h)l hl hd;clear 5(um3.mp hl)e he rfl;exact F7 n s (by lia) hw.2 e (hf.2 e he) d hd
   |pair s r=>
     simp only[wf,ug9] at hw;rw[Sh.depth] at hs;unfold Aj at hf
     split at hf
     .rw[ug9] at hf;rw[AI];exact Lm (F7 n s (by lia) hw.1 _ hf.1) (F7 n r (by lia) hw.2 _ hf.2)
     .cases hf
   |choice ss=>
     simp only[wf,ug9,ug2] at hw;rw[Sh.depth] at hs;unfold Aj at hf
     split at hf
     .next o k x=>
      simp only[ug9,ug2] at hf;clear 5(ub6 hf.1.2.1)j rfl;have hj:j<ss.length:=by have:=hf.1.2.2;lia
      have e1:ss[j]?=some ss[j]:=ub3 hj;have h2:=hf.2;rw[uf5,Cj ss _ _ _ e1] at h2;rw[AI,uf5,EL ss _ _ _ e1];exact Gm (by lia) (F7 n _ (ul7 (Cn ss _ _ e1) (by lia)) (DQ hw.2 _ (uh7 hj)) x h2)
     .cases hf
theorem Ye:Ci (wD w) none (some (a:Int))=wD (w.take a):=by
 unfold Ci;rw[HT.OX,HT.NQ,uk0,Nat.sub_zero];unfold wD;rw[kW];exact(List.take_eq_take_min ..).symm
theorem QP:Ci (wD w) (some (a:Int)) none=wD (w.drop a):=by
 unfold Ci;rw[HT.OX,HT.NQ];unfold wD;rw[List.map_drop,ui2,uc2 (by rw[ug8,ui2];lia)]
 by_cases h:a<=w.length
 .rw[Nat.min_eq_left h]
 .rw[Nat.min_eq_right (by lia),kc (by rw[ui2];lia),kc (by rw[ui2];lia)]
structure Mvs(g:List GS)(wl wr:List Nat)(mv:List Mv)(h a b:Nat)(t:List D):Prop where
 t:t=Bh g 0 mv
 ok:okQ g 0 mv
 h:Ah g 0 mv=h
 a:Ao g sL 0 mv=wD (wl.take a)
 b:Ao g sR 0 mv=wD (wr.take b)
def Agr(c:Nat)(w w2:List Nat):Prop:=∀i,i<c->w2[i]?=w[i]?
def Pe(f:Fn):Prop:=∀(g:List GS) (q p:Nat) (v:D),GOk g->MvOk g q p v->(AI (wdAt g q p).2.1 v).length<=50000->Pure1 f [(Av g q).d,.int p,v] (.lst (.int p::AI (wdAt g q p).2.1 v))
theorem Y1(hc:IT c 3):Pe (fnOf 3 3 (E1 c)):=by
 intro g q p v hg hm hb S;have hL:LIM=100000:=rfl;refine Al rfl ?_;unfold E1;clear 5(GP hm.pl)side ws e hpl ew;have hw:=FR hg hm.lt hm.pl;have hfit:=hm.fit;rw[e,GS.d];right;refine Hl ?_;right;refine BR (GF ew) ?_;unfold wdD;right;refine(hc _ hw.dep hw.ok v hfit (by lia)).use ?_;refine⟨_,rfl,?_⟩;right;refine BI (by rw[hL];show 1+_<=_;lia) ?_;exact⟨rfl,rfl⟩
def At(w:List Nat)(a:Nat)(xs:List D):Prop:=∃p q,wD w=p++(xs++q)/\p.length=a
theorem At.left(h:At w a (xs++ys)):At w a xs:=by
 clear 5 h p q e l;exact⟨p,ys++q,by rw[e,uf7],l⟩
theorem At.right(h:At w a (xs++ys)):At w (a+xs.length) ys:=by
 clear 5 h p q e l;exact⟨p++xs,q,by rw[e,uf7,uf7],by rw[ue6,l]⟩
theorem At.head{c:Nat}(h:At w a (.int (c:Int)::xs)):w[a]?=some c/\At w (a+1) xs:=by
 refine⟨?_,At.right (xs:=[.int (c:Int)]) h⟩;clear 5 h p q e l;have e1:(wD w)[a]?=some (.int (c:Int)):=by rw[e,ua7 (by lia),l,um4];rfl
 unfold wD at e1;rw[uf4] at e1
 cases e2:w[a]? with
 |none=>rw[e2] at e1;cases e1
 |some x=>
   rw[e2] at e1;injection e1 with e1
   injection e1 with e1
   rw[show x=c by lia]
theorem NA{lo:Int}{M:Nat}{w:List Nat}:∀(r x y a:Nat),y/256 ^ r=x->y<=M->At w a (nb r y)->(HH lo M r x).run w a=.told (.int (lo+y)) (a+r)
 |0,x,y,a,hx,hy,h=>by
   rw[ld,Nat.div_one] at hx;subst hx;rfl
 |r+1,x,y,a,hx,hy,h=>by
   rw[OK] at h;clear 5 h.head h1 h2;have e:x*256+y/256 ^ r%256=y/256 ^ r:=by
    rw[<-hx,um2,<-uc3];lia
   rw[HH,BN h1,lD (uk1 (by rw[e,Nat.pow_mul];exact Nat.div_le_div_right hy)),NA r _ y (a+1) e.symm hy h2]
   congr 1
   lia
theorem NU{w:List Nat}:∀(xs cs:List Nat) (a:Nat),(∀c∈xs,BK c=true)->At w a (xs.map λ(n:Nat)=>D.int (n:Int))->(IJ xs.length cs).run w a=.told (.str ⟨(cs++xs).toArray⟩) (a+xs.length)
 |[],cs,a,_,_=>by rw[ui4];rfl
 |x::r,cs,a,hs,h=>by
   clear 5(At.head h)h1 h2;rw[ug5,IJ,BN h1,lD (hs x ue2),NU r (cs++[x]) (a+1) (λc hc=>hs c (ud1 _ hc)) h2,uf7]
   congr 1
   lia
theorem Nr{w:List Nat}{s:Sh}{p:Rd}(hp:∀(v:D) (a:Nat),Aj s v=true->At w a (AI s v)->p.run w a=.told v (a+(AI s v).length)):∀(es ds:List D) (a:Nat),(∀e∈es,Aj s e=true)->At w a (es.map λd=>AI s d).flatten->(HG p es.length ds).run w a=.told (.lst (ds++es)) (a+((es.map λd=>AI s d).flatten).length)
 |[],ds,a,_,_=>by rw[ui4];rfl
 |e::r,ds,a,hf,h=>by
   rw[uk4,uf6] at h;rw[ug5,HG,Et,hp e a (hf e ue2) h.left,RR.thn,Nr hp r (ds++[e]) _ (λx hx=>hf x (ud1 _ hx)) h.right,uf7,uk4,uf6,ue6]
   congr 1
   lia
theorem SL:∀(k n:Nat),wid n<=k->n<256 ^ k
 |0,n,h=>by
   by_cases z:n=0
   .subst z;decide
   .rw[HU (by lia)] at h;lia
 |k+1,n,h=>by
   by_cases z:n=0
   .subst z;exact Nat.pow_pos (by decide)
   .rw[HU (by lia)] at h;have:=SL k (n/256) (by lia);rw[Nat.div_lt_iff_lt_mul (by decide)] at this;rw[um2];exact this
theorem V8{o:Str}(h:HD o=true):o=Str.ofString "of":=by
 unfold HD at h;simpa using h
set_option tactic.hygienic true in
theorem back:∀(n:Nat) (s:Sh),s.depth<=n->wf s=true->∀(w:List Nat) (v:D) (a:Nat),Aj s v=true->At w a (AI s v)->(pSh n s).run w a=.told v (a+(AI s v).length)
 |0,s,hs,_,_,_,_,_,_=>absurd s.depth_pos (by lia)
 |n+1,s,hs,hwf,w,v,a,hf,h=>by
   cases s with
   |nothing=>
     have:v=.non:=by cases v<;>simp[Aj,FN] at hf<;>rfl
     subst this;rfl
   |number lo hi=>
     simp only[wf,ug9,ug2] at hwf
     cases v with
     |int i=>
       simp only[Aj,ug9,ug2] at hf;rw[AI] at h⊢;rw[pSh,NA (wid (hi-lo).toNat) 0 (i-lo).toNat a ?_ (by lia) h,Ny]
       .congr 2;lia
       .exact Nat.div_eq_of_lt (Nat.lt_of_le_of_lt (show(i-lo).toNat<=(hi-lo).toNat by lia) (SL _ _ (um5 _)))
     |_=>simp[Aj] at hf
   |text q=>
     cases v with
     |str x=>
       simp only[Aj,ug9,ug2,uh4] at hf;rw[AI] at h⊢;clear 5(At.head h)h1 h2;rw[pSh,BN h1,lD (uk1 hf.1)];have hl:x.length=x.cps.toList.length:=rfl;rw[hl,NU x.cps.toList [] (a+1) hf.2 h2,ui8,ug5,ui2]
       congr 1
       lia
     |_=>simp[Aj] at hf
   |list s q=>
     simp only[wf,ug9,ug2] at hwf;rw[Sh.depth] at hs
     cases v with
     |lst ds=>
       rw[Aj,ug9,ug2,uh4] at hf;rw[AI] at h⊢;clear 5(At.head h)h1 h2;rw[pSh,BN h1,lD (uk1 hf.1),Nr (λv a=>back n s (by lia) hwf.2 w v a) ds [] (a+1) hf.2 h2,ui8,ug5]
       congr 1
       lia
     |_=>simp[Aj] at hf
   |pair s r=>
     simp only[wf,ug9] at hwf;rw[Sh.depth] at hs;unfold Aj at hf
     split at hf
     .rw[ug9] at hf;rw[AI] at h⊢;rw[pSh,Et,back n s (by lia) hwf.1 w _ a hf.1 h.left,RR.thn,Et,back n r (by lia) hwf.2 w _ _ hf.2 h.right,RR.thn,Rd.run,ue6,ul1]
     .cases hf
   |choice ss=>
     simp only[wf,ug9,ug2] at hwf;rw[Sh.depth] at hs;unfold Aj at hf
     split at hf
     .next o k x=>
      simp only[ug9,ug2] at hf;clear 5(ub6 hf.1.2.1)j rfl;have hj:j<ss.length:=by have:=hf.1.2.2;lia
      have e1:ss[j]?=some ss[j]:=ub3 hj;have h2:=hf.2;rw[uf5,Cj ss _ _ _ e1] at h2;rw[AI,uf5,EL ss _ _ _ e1] at h⊢;clear 5(At.head h)h3 h4;have ho:o=Str.ofString "of":=V8 hf.1.1;subst ho;rw[pSh,BN h3,lD (uk1 hj),ua9,e1,Option.getD_some,Et,back n _ (ul7 (Cn ss _ _ e1) (by lia)) (DQ hwf.2 _ (uh7 hj)) w x (a+1) h2 h4,RR.thn,Rd.run,ug5]
      congr 1
      lia
     .cases hf
theorem UJ{c:Nat}:∀(p:Rd) (a:Nat),p.run w a=.told v b->a<=c->c<b->p.run (w.take c) a=.short:=by
 intro p
 induction p with
 |done v'=>intro a h h1 h2;rw[Rd.run] at h;cases h;lia
 |need ok nx ih=>
   intro a h h1 h2
   cases e:w[a]? with
   |none=>rw[Db e] at h;cases h
   |some x=>
     rw[BN e] at h
     by_cases q:ok x=true
     .rw[lD q] at h
      by_cases hac:a<c
      .rw[BN (b:=x) (by rw[uf0,lD hac];exact e),lD q];exact ih x (a+1) h hac h2
      .exact Db (by rw[uf0,lE hac])
     .rw[lE q] at h;cases h
theorem IR{wl wr:List Nat}{t:List D}(e:Fj g wl wr h a b=.stop):∀F,ED g wl wr F h a b t=(t,h,a,b,none)
 |0=>rfl
 |F+1=>by unfold ED;rw[e]
abbrev Fu(wl wr:List Nat):Nat:=wl.length+wr.length+1
def Rch(g:List GS)(vl vr:List Nat)(tk:List D)(h a b:Nat):Prop:=Pl g vl vr h a b/\∀xl xr:List Nat,ED g (vl++xl) (vr++xr) (Fu (vl++xl) (vr++xr)) 0 0 0 []=ED g (vl++xl) (vr++xr) (Fu (vl++xl) (vr++xr)) h a b tk
def Fed(g:List GS)(vl vr:List Nat)(tk:List D)(h a b:Nat)(fl:D):Prop:=Rch g vl vr tk h a b/\match ED g vl vr (Fu vl vr) 0 0 0 [] with
 |(t',h',a',b',none)=>tk=t'/\h=h'/\a=a'/\b=b'/\fl=.non
 |(_,_,_,_,some (k,s))=>fl=.tup [.int (k:Nat),.str s]
section
variable{f:Str}{t:T}{P:D->T->Prop}{O:Out->T->Prop}{k:Nat}{n:Str}{fs:List (Str×D)}{v:D}
def Tr(f:Str)(d:D):M D:=Gk d λ_ _ fs t=>(fs.lookup f).map λv=>(v,t)
def LC(f:Str)(v d:D):M Out:=Gk d λk n fs t=>if fs.length<1000 then some (.next,{t with S:=t.S.set k (.ins n (Gz f v fs))}) else none
theorem UO{a:M D}(h:W a t λd t1=>W (Tr f d) t1 P):W (Bq f a) t P:=Co h
theorem AO(e:t.S[k]?=some (.ins n fs))(l:fs.lookup f=some v)(h:P v t):W (Tr f (.obj k)) t P:=⟨_,_,by simp only[Tr,Gk,e,l];rfl,h⟩
theorem LI{gv ga:M D}(h:W gv t λv t1=>W ga t1 λd t2=>W (LC f v d) t2 O):W (C3 f gv ga) t O:=Co (h.mono λ_ _ z=>Co z)
theorem CJ(e:t.S[k]?=some (.ins n fs))(l:fs.length<1000)(h:O .next ⟨t.env,t.S.set k (.ins n (Gz f v fs))⟩):W (LC f v (.obj k)) t O:=⟨_,_,by simp only[LC,Gk,e,lD l],h⟩
theorem Vp{g:Fn}{fl:M (List D)}(h:W fl t λds t1=>Wf g (.obj t1.S.length::ds) (t1.S++[.ins n []]) λr S'=>r=.non/\P (.obj t1.S.length) ⟨t1.env,S'⟩):W (Hv n g fl) t P:=
 Co (h.mono λds t1 ⟨r,S',e,e2,p⟩=>by subst e2;exact⟨_,_,by simp only[e],p⟩)
theorem Vq{g:Fn}{o:M D}{fl:M (List D)}(h:W o t λd t1=>∃k fs,d=.obj k/\t1.S[k]?=some (.ins n fs)/\W fl t1 λds t2=>Wf g (d::ds) t2.S λr S'=>P r ⟨t2.env,S'⟩):W (AT n g o fl) t P:=by
 refine Co (h.mono λd t1 z=>?_);clear 5 z k fs e1 e2 w;subst e1;clear 5 w ds t2 w1 r S' w2 p;refine⟨r,_,?_,p⟩;simp only[Gk,e2,lD,bnd,w1,w2]
theorem SK(h:P (.obj t.S.length) ⟨t.env,t.S++[.dct []]⟩):W (Fq []) t P:=by
 refine⟨_,_,?_,h⟩;simp[Fq,IZ,bnd,L2.ret,FT,Dh]
end
local macro_rules | `(tactic| walk_at"y1")=>`(tactic| first
 |walk_at"x1" |clear 31 UO LI SK N1)
abbrev rdF(g:List GS)(h W P:Nat):List (Str×D):=[("grammar",.lst (g.map GS.d)),("standing",.int (h:Nat)),("wires",.obj W),("places",.obj P)]
structure Rdr(n0:Nat)(S:List Ob)(k:Nat)(g:List GS)(vl vr:List Nat)(h a b W P l r:Nat):Prop where
 k0:n0<=k
 l0:n0<=l
 r0:n0<=r
 ne:l≠r
 k:S[k]?=some (.ins "Reader" (rdF g h W P))
 w:S[W]?=some (.dct (lr (.obj l) (.obj r)))
 p:S[P]?=some (.dct (dP a b))
 l:S[l]?=some (.lst (wD vl))
 r:S[r]?=some (.lst (wD vr))
def Low(n0:Nat)(S S':List Ob):Prop:=n0<=S'.length/\∀i,i<n0->S'[i]?=S[i]?
variable{u:Ob}
theorem Ae{o:Ob}(h:S[i]?=some u)(n:j≠i):(S.set j o)[i]?=some u:=by rw[ud2 n];exact h
theorem Ag{o:Ob}(h:S[i]?=some o)(h':S[j]?=some u)(n:o≠u):i≠j:=λe=>by subst e;rw[h] at h';exact n (ui1 h')
def Kp(k:Nat)(S S':List Ob):Prop:=S.length<=S'.length/\∀i,i<S.length->i≠k->S'[i]?=S[i]?
theorem Kp.refl{k:Nat}:Kp k S S:=⟨um5 _,λ_ _ _=>rfl⟩
theorem Kp.setk{k:Nat}{o:Ob}(a:Kp k S S'):Kp k S (S'.set k o):=⟨by rw[uj3];exact a.1,λi h n=>by rw[ud2 (Ne.symm n)];exact a.2 i h n⟩
theorem Kp.set{k j:Nat}{S S':List Ob}{o:Ob}(a:Kp k S S')(h:S.length<=j):Kp k S (S'.set j o):=⟨by rw[uj3];exact a.1,λi hi n=>by rw[ud2 (by lia)];exact a.2 i hi n⟩
theorem Kp.app{k:Nat}{o:Ob}(a:Kp k S S'):Kp k S (S'++[o]):=⟨by rw[ue6];exact ul7 a.1 (uh3 _ _),λi hi n=>by rw[ub1 (ue1 hi a.1)];exact a.2 i hi n⟩
theorem Bl{o:Ob}(h:S[i]?=some u):(S++[o])[i]?=some u:=by rw[ub1 (ub0.mp h).1];exact h
theorem Bm(h:S[i]?=some u):i<S.length:=(ub0.mp h).1
local macro_rules | `(tactic| walk_at"y1")=>`(tactic| first
 |walk_at"x1" |clear 31 UO LI SK N1 Vq Vp)
section
variable{n0:Nat}{S:List Ob}{k:Nat}{g:List GS}{vl vr:List Nat}{h a b W P l r:Nat}
end
mutual
noncomputable def BP:Sh->Bool
 |.number lo hi=>decide (hi-lo<1000000000)
 |.list s _=>BP s
 |.pair s r=>BP s&&BP r
 |.choice ss=>He ss
 |_=>true
noncomputable def He:List Sh->Bool
 |[]=>true
 |s::r=>BP s&&He r
end
theorem G6:∀{ss:List Sh},He ss=true->∀s∈ss,BP s=true
 |x::r,h,s,m=>by
   rw[He,ug9] at h;rcases uk3.mp m with e|m
   .subst e;exact h.1
   .exact G6 h.2 s m
mutual
noncomputable def DF:Sh->Bool
 |.text m=>decide (m<=3)
 |.list s m=>decide (m<=3)&&DF s
 |.pair s r=>DF s&&DF r
 |.choice ss=>KO ss
 |_=>true
noncomputable def KO:List Sh->Bool
 |[]=>true
 |s::r=>DF s&&KO r
end
theorem Mh:∀{ss:List Sh},KO ss=true->∀s∈ss,DF s=true
 |x::r,h,s,m=>by
   rw[KO,ug9] at h;rcases uk3.mp m with e|m
   .subst e;exact h.1
   .exact Mh h.2 s m
noncomputable def bt:Nat->Nat
 |0=>4
 |d+1=>1+3*bt d
theorem MO:∀d,4<=bt d
 |0=>um5 _
 |d+1=>by have:=MO d;rw[bt];lia
structure Dr(d:Nat)(s:Sh):Prop where
 ok:wf s=true
 dep:s.depth<=d+1
 nar:BP s=true
 tin:DF s=true
 few:∀v,Aj s v=true->(AI s v).length<=bt d
theorem Dr.nothing{d:Nat}:Dr d .nothing:=⟨rfl,by rw[Sh.depth];lia,rfl,rfl,λv h=>by
 have:v=.non:=by cases v<;>simp[Aj,FN] at h<;>rfl
 subst this;exact um6 _⟩
theorem Dr.number{d:Nat}{lo w:Int}(h1 : -4<=lo)(h2:lo<=4)(h3:0<=w)(h4:w<=70000):Dr d (.number lo (lo+w)):=by
 refine⟨?_,by rw[Sh.depth];lia,?_,rfl,λv h=>?_⟩
 .simp only[wf,ug9,ug2];lia
 .simp only[BP,ug2];lia
 .have hb:=MO d;have hw:=IS 3 (lo+w-lo).toNat (by show _<16777216;lia)
  cases v with
  |int i=>rw[AI,Ny];lia
  |_=>simp[Aj] at h
theorem Dr.text{d:Nat}{m:Int}(h1:0<=m)(h2:m<=3):Dr d (.text m):=by
 refine⟨?_,by rw[Sh.depth];lia,rfl,?_,λv h=>?_⟩
 .simp only[wf,ug9,ug2];lia
 .simp only[DF,ug2];lia
 .have hb:=MO d
  cases v with
  |str x=>
    simp only[Aj,ug9,ug2] at h;have h:=h.1;rw[Fr] at h;rw[AI,ug5,ui2];lia
  |_=>simp[Aj] at h
theorem Ox{s:Sh}{n:Nat}:∀(ds:List D),(∀d∈ds,(AI s d).length<=n)->((ds.map λd=>AI s d).flatten).length<=ds.length*n
 |[],_=>um6 _
 |d::r,h=>by
   have h1:=Ox r λx m=>h x (ud1 _ m);have h2:=h d ue2;rw[uk4,uf6,ue6,ug5,Nat.add_mul,Nat.one_mul];lia
theorem Dr.list{d:Nat}{s:Sh}{m:Int}(h:Dr d s)(h1:0<=m)(h2:m<=3):Dr (d+1) (.list s m):=by
 have:=h.dep;refine⟨?_,by rw[Sh.depth];lia,by rw[BP];exact h.nar,?_,λv hf=>?_⟩
 .simp only[wf,ug9,ug2,h.ok];exact⟨⟨by lia,by lia⟩,trivial⟩
 .simp only[DF,h.tin,uk9,ug2];lia
 .cases v with
  |lst ds=>
    rw[Aj,ug9,ug2,uh4] at hf;have h3:=Ox ds λx m=>h.few x (hf.2 x m);have h4:ds.length*bt d<=3*bt d:=Nat.mul_le_mul_right _ (by lia);rw[AI,ug5,bt];lia
  |_=>simp[Aj] at hf
theorem Dr.pair{d:Nat}{s r:Sh}(h:Dr d s)(h':Dr d r):Dr (d+1) (.pair s r):=by
 have:=h.dep;have:=h'.dep;refine⟨by simp only[wf,h.ok,h'.ok,ul2],by rw[Sh.depth];lia,by simp only[BP,h.nar,h'.nar,ul2],by simp only[DF,h.tin,h'.tin,ul2],λv hf=>?_⟩;unfold Aj at hf
 split at hf
 .rw[ug9] at hf;have h1:=h.few _ hf.1;have h2:=h'.few _ hf.2;rw[AI,ue6,bt];lia
 .cases hf
set_option tactic.hygienic true in
theorem Dr.choice{d:Nat}{s r:Sh}(h:Dr d s)(h':Dr d r):Dr (d+1) (.choice [s,r]):=by
 have:=h.dep;have:=h'.dep;refine⟨?_,?_,by simp only[BP,He,h.nar,h'.nar,ul2],by simp only[DF,KO,h.tin,h'.tin,ul2],λv hf=>?_⟩
 .simp only[wf,wfs,h.ok,h'.ok,ul2,uk9,ug9,ug2,ug5,uj0];lia
 .rw[Sh.depth,FQ,FQ,FQ];lia
 .unfold Aj at hf
  split at hf
  .next o k x=>
   simp only[ug9,ug2] at hf;clear 5(ub6 hf.1.2.1)j rfl;have hj:j < [s,r].length:=by have:=hf.1.2.2;lia
   have e1:[s,r][j]?=some [s,r][j]:=ub3 hj;have h2:=hf.2;rw[uf5,Cj [s,r] _ _ _ e1] at h2;rw[AI,uf5,EL [s,r] _ _ _ e1,ug5,bt];have hm:[s,r][j]=s\/[s,r][j]=r:=by
    match j,hj with
    |0,_=>exact .inl rfl
    |1,_=>exact .inr rfl
   rcases hm with e|e
   .rw[e] at h2⊢;have:=h.few x h2;lia
   .rw[e] at h2⊢;have:=h'.few x h2;lia
  .cases hf
theorem Y0(c:Int):c%7=0\/c%7=1\/c%7=2\/c%7=3\/c%7=4\/c%7=5\/c%7=6:=by lia
noncomputable def p4(k:Int):Int:=if k=0 then 1 else if k=1 then 4 else 16
theorem aN{x:Str}{i:Int}(h:x.length<=LIM)(e:atI x.cps.toList i=some n)(p:P (.str ⟨#[n]⟩) t):W (ixD (.str x) (.int i)) t P:=W_ix_str.mpr ⟨h,n,e,p⟩
theorem W0{d:D}(h:d∈Bo 0 n):∃k:Int,d=.int k/\0<=k/\k<n:=by
 clear 5(List.getElem_of_mem h)j hj e;have e1:d::(Bo 0 n).drop (j+1)=(Bo 0 n).drop j:=by rw[<-e];exact(ub2 hj).symm
 obtain⟨rfl,_,hlt⟩:=GB e1;exact⟨0+j,rfl,by lia,by lia⟩
theorem Fk{i j:Int}(h1 : -18446744073709551616<j)(h2:j<18446744073709551616)(h:P (.int (i*j)) t):W (CN (.int i) (.int j)) t P:=Qs (OJ h1 h2) h
def Tin(x:GS):Prop:=∀w∈x.ws,Dr 2 w.2.1
theorem bQ(i:Int):∃s:Str,atI [D.str (Str.ofString "left"),.str (Str.ofString "right")] (i%2)=some (.str s)/\(s=Str.ofString "left"\/s=Str.ofString "right"):=by
 have:i%2=0\/i%2=1:=by lia
 rcases this with h|h<;>rw[h]
 .exact⟨_,rfl,.inl rfl⟩
 .exact⟨_,rfl,.inr rfl⟩
theorem HA(hq:q<g.length):Av g q∈g:=by
 unfold Av;rw[ua9,ub3 hq];exact uh7 hq
theorem Mj{g:List GS}(hg:GOk g)(sd:Str):∀(q:Nat) (mv:List Mv),okQ g q mv->isB (Ao g sd q mv)
 |_,[],_=>λd h=>nomatch h
 |q,(p,v)::r,h=>by
   rw[okQ] at h;have hw:=FR hg h.1.lt h.1.pl;have hgs:=Dg hg h.1.lt;have hp:=h.1.pl;have hp9:p<256:=by
    cases e:Av g q with
    |fin=>rw[e] at hp;exact absurd hp (Nat.not_lt_zero _)
    |st s ws=>
      rw[e] at hp hgs
      cases hgs with
      |st _ _ h3 _ _=>exact ue1 hp (ul7 h3 (by decide))
   rw[Ao];refine Lm ?_ (Mj hg sd _ r h.2)
   split
   .exact Gm hp9 (F7 3 _ hw.dep hw.ok v h.1.fit)
   .exact λd h=>nomatch h
section
variable{α:Type}{o:Str}{x y z:α}
theorem Lp:onS o (onS o x y) (onS o y x)=x:=by unfold onS;split<;>rfl
theorem Ze:onS o x (onS o y z)=onS o x z:=by unfold onS;split<;>rfl
theorem Zf:onS o (onS o y z) x=onS o y x:=by unfold onS;split<;>rfl
theorem dY(hs:s=sL\/s=sR)(ho:o=sL\/o=sR)(n:s≠o):onS s (onS o x y) (onS o y x)=y:=by
 unfold onS;rcases hs with rfl|rfl<;>rcases ho with rfl|rfl
 .exact absurd rfl n
 .rw[lD rfl,lE (Ne.symm sLR)]
 .rw[lE (Ne.symm sLR),lD rfl]
 .exact absurd rfl n
end
abbrev w1(g:List GS)(o:Str)(w:List Nat)(F h a:Nat)(t:List D):Rs:=ED g (onS o w []) (onS o [] w) F h (onS o a 0) (onS o 0 a) t
abbrev s1(g:List GS)(o:Str)(w:List Nat)(h a:Nat):Sr:=Fj g (onS o w []) (onS o [] w) h (onS o a 0) (onS o 0 a)
theorem NP(hg:GOk g){o:Str}(ho:o=sL\/o=sR){w:List Nat}{h a:Nat}(hh:h<g.length)(n:(Av g h).side≠o):s1 g o w h a=.stop:=by
 have hgs:=Dg hg hh;unfold s1 Fj
 cases e:Av g h with
 |fin=>rfl
 |st side ws=>
   rw[e] at hgs n;have hs:side=sL\/side=sR:=by cases hgs with|st hs1 _ _ _ _=>exact hs1
   dsimp only;rw[dY hs ho n];rfl
set_option tactic.hygienic true in
theorem KK{o:Str}{ws:List (Str×Sh×Int)}(e:Av g h=.st o ws):s1 g o w h a=match msgR o ws w a with
 |(.short,_)=>.stop
 |(.broken k,_)=>.brk k o
 |(.told v e,c)=>.next (.tup [.str o,.str (ws.getD c (Str.ofString "",.nothing,0)).1,v]) (ws.getD c (Str.ofString "",.nothing,0)).2.2.toNat (onS o e 0) (onS o 0 e):=by
 unfold s1 Fj;rw[e];dsimp only;rw[Lp,Lp];generalize msgR o ws w a=m;clear 5 m r c
 cases r<;>dsimp only
 rw[Ze,Zf]
theorem aa(hg:GOk g){o:Str}(ho:o=sL\/o=sR){w:List Nat}{h a:Nat}(hh:h<g.length)(ha:w.length<=a):s1 g o w h a=.stop:=by
 by_cases n:(Av g h).side=o
 .cases e:Av g h with
  |fin=>unfold s1 Fj;rw[e]
  |st side ws=>
    rw[e] at n;have n:side=o:=n;subst n;rw[KK e];unfold msgR;rw[ud0 ha]
 .exact NP hg ho hh n
theorem At.take{w:List Nat}{a c:Nat}{xs:List D}(h:At w a xs)(l:a+xs.length<=c):At (w.take c) a xs:=by
 clear 5 h p q e rfl;refine⟨p,q.take (c-(p.length+xs.length)),?_,rfl⟩;have:wD (w.take c)=(wD w).take c:=by unfold wD;rw[kW]
 rw[this,e,<-uf7,List.take_append,uc2 (by rw[ue6];exact l),ue6,uf7]
abbrev mbQ(g:List GS)(q p:Nat)(v:D):List D:=.int (p:Int)::AI (wdAt g q p).2.1 v
def Fw(g:List GS)(o:Str):Nat->List Mv->Prop
 |_,[]=>True
 |q,(p,_)::r=>(Av g q).side=o/\Fw g o (nextQ g q p) r
theorem F6{g:List GS}{o:Str}:∀(q:Nat) (a b:List Mv),Fw g o q (a++b)↔Fw g o q a/\Fw g o (Ah g q a) b
 |q,[],b=>by simp[Fw,Ah]
 |q,(p,v)::r,b=>by rw[uh8,Fw,Fw,Ah,F6 _ r b,and_assoc]
def ME(g:List GS)(q a tk:Nat):List Mv->Prop
 |[]=>True
 |(p,v)::_=>tk<a+(mbQ g q p v).length
theorem TW(hg:GOk g){q p:Nat}{v:D}{ws:List (Str×Sh×Int)}{o:Str}(hm:MvOk g q p v)(e:Av g q=.st o ws){w:List Nat}{c:Nat}(h:At w c (mbQ g q p v)):msgR o ws w c=(.told v (c+(mbQ g q p v).length),p)/\ws.getD p (Str.ofString "",.nothing,0)=wdAt g q p:=by
 have hw:=FR hg hm.lt hm.pl;clear 5(GP hm.pl)side ws' e' hpl ew;rw[e] at e'
 cases e'
 refine⟨?_,by rw[ua9,ew];rfl⟩;clear 5(At.head h)h1 h2;unfold msgR;rw[h1];dsimp only;rw[ew];dsimp only;rw[back 3 _ hw.dep hw.ok w v (c+1) hm.fit h2,ug5]
 congr 2
 lia
theorem Rw(hg:GOk g){q p:Nat}{v:D}{ws:List (Str×Sh×Int)}{o:Str}(hm:MvOk g q p v)(e:Av g q=.st o ws){w:List Nat}{c tk:Nat}(h:At w c (mbQ g q p v))(h1:c<=tk)(h2:tk<c+(mbQ g q p v).length):(msgR o ws (w.take tk) c).1=.short:=by
 have hw:=FR hg hm.lt hm.pl;clear 5(GP hm.pl)side ws' e' hpl ew;rw[e] at e'
 cases e'
 clear 5(At.head h)h3 h4;unfold msgR
 by_cases z:c<tk
 .rw[uf0,lD z,h3];dsimp only;rw[ew];dsimp only;have hb:=back 3 _ hw.dep hw.ok w v (c+1) hm.fit h4;rw[ug5] at h2;exact UJ _ _ hb z (by lia)
 .rw[uf0,lE z]
theorem O8{g:List GS}(hg:GOk g){o:Str}(ho:o=sL\/o=sR){w:List Nat}{tk:Nat}(htl:tk<=w.length):∀(mv:List Mv) (q a F:Nat) (t:List D),q<g.length->okQ g q mv->Fw g o q mv->At w a (Ao g o q mv)->a+(Ao g o q mv).length=w.length->a<=tk->tk+1<=F+a->
 ∃m1 m2,mv=m1++m2/\a+(Ao g o q m1).length<=tk/\ME g (Ah g q m1) (a+(Ao g o q m1).length) tk m2/\w1 g o (w.take tk) F q a t=(t++Bh g q m1,Ah g q m1,onS o (a+(Ao g o q m1).length) 0,onS o 0 (a+(Ao g o q m1).length),none)
 |[],q,a,F,t,hq,_,_,_,hl,ha,_=>by
   have hl:a=w.length:=hl;refine⟨[],[],rfl,ha,trivial,?_⟩;rw[Bh,ui4];exact IR (aa hg ho hq (by rw[ug7];lia)) F
 |(p,v)::r,q,a,F,t,hq,hk,hA,hat,hl,ha,hF=>by
   rw[okQ] at hk;rw[Fw] at hA;rw[Ao,lD hA.1] at hat hl;have hat1:At w a (mbQ g q p v):=hat.left;obtain⟨ws,e⟩:∃ws,Av g q=.st o ws:=by
    obtain⟨side,ws,e,_,_⟩:=GP hk.1.pl;refine⟨ws,?_⟩;have h:=hA.1;rw[e] at h⊢;rw[<-show side=o from h]
   by_cases z:a+(mbQ g q p v).length<=tk
   .have hpos:0<(mbQ g q p v).length:=by rw[ug5];lia
    obtain⟨F',rfl⟩:∃F',F=F'+1:=⟨F-1,by lia⟩;clear 5(O8 hg ho htl r (nextQ g q p) (a+(mbQ g q p v).length) F' (t++[Fc g q p v]) (OL hg hq hk.1.pl) hk.2 hA.2 hat.right (by have hl2:a+(mbQ g q p v++Ao g o (nextQ g q p) r).length=w.length:=hl;rw[ue6] at hl2;lia) z (by lia))m1 m2 em hle hcut hw;clear 5(TW hg hk.1 e (hat1.take z))hb1 hb2;have ewq:(Ao g o q ((p,v)::m1)).length=(mbQ g q p v).length+(Ao g o (nextQ g q p) m1).length:=by rw[Ao,lD hA.1,ue6]
    refine⟨(p,v)::m1,m2,by rw[em];rfl,by lia,by rw[Ah,ewq,<-ul1];exact hcut,?_⟩;rw[ewq,<-ul1,Ah,Bh,List.append_cons,<-hw];show ED g _ _ (F'+1) q _ _ t=_;rw[ED,show Fj g (onS o (w.take tk) []) (onS o [] (w.take tk)) q (onS o a 0) (onS o 0 a)=_ from KK e,hb1];dsimp only;rw[hb2];unfold Fc;rw[e];rfl
   .refine⟨[],(p,v)::r,rfl,ha,by show tk<a+0+(mbQ g q p v).length;lia,?_⟩;rw[Bh,ui4];refine IR (?_:s1 g o (w.take tk) q a=.stop) F;rw[KK e];have hs:=Rw hg hk.1 e hat1 ha (by lia);generalize msgR o ws (w.take tk) a=m at hs⊢;clear 5 m r0 c0;have hs:r0=.short:=hs;subst hs;rfl
abbrev d1(o:Str)(d:D):List (Key×D):=[(.inr o,d)]
theorem G9{o:Str}{d:D}:Be (d1 o d) (.inr o)=some d:=by simp[Be,ui9]
theorem Yg{o:Str}{d:D}(n:s≠o):Be (d1 o d) (.inr s)=none:=by
 unfold Be;rw[ui9,show decide ((Sum.inr o:Key)=.inr s)=false from uj5 λh=>n (Sum.inr.inj h).symm];rfl
theorem Yh{o:Str}{d e:D}:BQ (d1 o d) (.inr o) e=d1 o e:=by
 unfold BQ;rw[lD (by simp)];simp only[uk4,um0,ly]
def SQ(f:Fn):Prop:=∀(S:List Ob) (wv:D) (n:Int) (side:Str) (ws:List (Str×Sh×Int)) (w:List Nat) (p:Nat),Wir S wv w->GSOk n (.st side ws)->p<=w.length->w.length<=50000->(∀j c,msgR side ws w p≠(.broken j,c))->PureS S f [(GS.st side ws).d,wv,.int p] (IF side ws w p)
theorem Wl(hc:Ih c 3):SQ (fnOf 3 6 (Ew c)):=by
 intro S wv n side ws w p hv hgs hp hwl hnb
 cases hgs with
 |@st _ _ hs1 hs2 hs3 hs4 hs5=>
 refine Al rfl ?_;unfold Ew;rw[GS.d]
 cases hb:w[p]? with
 |none=>
   have hpl:¬p<w.length:=by rw[jj] at hb;lia
   rw[show IF side ws w p=.non by unfold IF msgR;rw[hb]];symm;refine MB hv ?_;symm;refine Ev (by simp;lia) ?_;symm;exact⟨rfl,rfl⟩
 |some cc=>
   obtain⟨hpl,_⟩:=ub0.mp hb;symm;refine MB hv ?_;symm;refine DT (by simp;lia) ?_;symm;refine UQ hv hb ?_;symm;rw[ui2]
   cases hw:ws[cc]? with
   |none=>exact(hnb p 0 (by unfold msgR;simp only[hb,hw])).elim
   |some wd=>
     obtain⟨hcl,_⟩:=ub0.mp hw;have hwo:=hs5 wd (ud3 hw);have hgd:ws.getD cc (Str.ofString "",.nothing,0)=wd:=by rw[ua9,hw];rfl
     have hrd:=hc wd.2.1 hwo.dep hwo.ok S wv w (p+1) hv hpl;refine DT (by simp;lia) ?_;symm;refine UQ hv hb ?_;symm;refine BR (GF hw) ?_;unfold wdD;dsimp only;symm
     cases e:(pSh 3 wd.2.1).run w (p+1) with
     |told v b=>
       rw[show IF side ws w p=.tup [.tup [.str side,.str wd.1,v],.int wd.2.2,.int b] by unfold IF msgR;simp only[hb,hw,e,hgd]];rw[e,rrD] at hrd;refine hrd.use IG ?_;symm;exact⟨rfl,rfl⟩
     |short=>
       rw[show IF side ws w p=.non by unfold IF msgR;simp only[hb,hw,e]];rw[e,rrD] at hrd;refine hrd.use E3 ?_;symm;exact⟨rfl,rfl⟩
     |broken k=>exact(hnb k cc (by unfold msgR;simp only[hb,hw,e])).elim
def JD(f:Fn):Prop:=∀(g:List GS) (o:Str) (w:List Nat) (dw:D) (h a W P:Nat) (S:List Ob) (t0:List D) (h0 a0 b0:Nat),GOk g->(o=sL\/o=sR)->h<g.length->a<=w.length->w.length<=25000->Wir S dw w->S[W]?=some (.dct (d1 o dw))->S[P]?=some (.dct (d1 o (.int (a:Nat))))->w1 g o w (w.length+1) h a []=(t0,h0,a0,b0,none)->
 Wf f [.lst (g.map GS.d),.int (h:Nat),.obj W,.obj P] S λr S'=>Gr S S'/\∃K,S.length<=K/\r=.tup [.lst t0,.int (h0:Nat),.obj K]/\S'[K]?=some (.dct (d1 o (.int (onS o a0 b0:Nat))))
set_option tactic.hygienic true in
theorem NL(hc:SQ c):JD (fnOf 4 9 (Gu c)):=by
 intro g o w dw h a W P S t0 h0 a0 b0 hg ho hh ha hl hv hW hP hR;have hL:LIM=100000:=rfl;refine Al rfl ?_;unfold Gu;symm;refine aG hP ?_;symm;obtain⟨R,hRe⟩:∃R:Rs,R=(t0,h0,a0,b0,none):=⟨_,rfl⟩;rw[<-hRe] at hR;obtain⟨K,hK⟩:∃K,K=S.length:=⟨_,rfl⟩;rw[<-hK];obtain⟨I,hI⟩:∃I:Nat->T->Prop,∀n t,I n t↔∃(h' a':Nat) (tk:List D) (S':List Ob) (e7 e8:Option Sl),h'<g.length/\a'<=w.length/\w.length+1<=n+a'/\tk.length+n<=w.length+1/\w1 g o w n h' a' tk=R/\Gr S S'/\S'[K]?=some (.dct (d1 o (.int (a':Nat))))/\t=⟨[vw (.lst (g.map GS.d)),vw (.int h),vw (.obj W),vw (.obj P),some (.own tk),vw (.int h'),vw (.obj K),e7,e8],S'⟩:=⟨_,λ_ _=>.rfl⟩;refine F5 I ?_ Ho (w.length+1) _ ?_ ?_
 .rintro n t h9;obtain⟨h',a',tk,S',e7,e8,hh',ha',hn,ht,hR',hG,hK',rfl⟩:=(hI _ _).mp h9;obtain⟨m,rfl⟩:∃m,n=m+1:=jt (by lia);have hgs:=Dg hg hh';have hix:=C9 hh';have hW':=hG.get hW
  by_cases z:(Av g h').side=o
  .cases eg:Av g h' with
   |fin=>
     rw[eg] at z;rcases ho with rfl|rfl<;>exact absurd z (by decide +kernel)
   |st side ws=>
     rw[eg] at z;have z:side=o:=z;subst z;rw[eg] at hix hgs;have hix2:=hix;rw[GS.d] at hix2;symm;refine BR hix2 ?_;symm;refine aL hW' ?_;rw[G9];symm;refine⟨m,rfl,?_⟩;symm;refine BR hix2 ?_;symm;refine BR hix ?_;symm;refine Aw hW' G9 ?_;symm;refine Aw hK' G9 ?_;symm;have hst:s1 g side w h' a'=_:=KK eg;have hms:=hc S' dw g.length side ws w a' (hv.gr hG) hgs ha' (by lia);have hR2:ED g (onS side w []) (onS side [] w) (m+1) h' (onS side a' 0) (onS side 0 a') tk=R:=hR';rw[ED,show Fj g (onS side w []) (onS side [] w) h' (onS side a' 0) (onS side 0 a')=_ from hst] at hR2;unfold IF at hms;generalize hmr:msgR side ws w a'=mr at hms hR2 hst;clear 5 mr r0 c0
     cases r0 with
     |short=>
       have hms:=hms λ_ _ h=>by cases h
       dsimp only at hms hR2;refine hms.use ?_;symm;refine W_ret.mpr ?_;show Ei _ _ Out.next _;symm;subst hR2;simp only[Prod.mk.injEq] at hRe;obtain⟨rfl,rfl,rfl,rfl,_⟩:=hRe;exact⟨hG,K,by lia,rfl,by rw[Lp];exact hK'⟩
     |broken k=>
       dsimp only at hR2;subst hR2
       cases hRe
     |told v e=>
       have hms:=hms λ_ _ h=>by cases h
       dsimp only at hms hR2 hst;have pl:Pl g (onS side w []) (onS side [] w) h' (onS side a' 0) (onS side 0 a'):=⟨hh',by unfold onS;split<;>first|exact ha'|exact um6 _,by unfold onS;split<;>first|exact ha'|exact um6 _⟩
       clear 5(Sw hg pl hst)p2 hlt;have hae:a'<e:=by unfold onS at hlt;split at hlt<;>lia
       have hel:e<=w.length:=by
        have h1:=p2.a;have h2:=p2.b;unfold onS at h1 h2
        split at h1
        .exact h1
        .next q=>simp only[lE q] at h2;exact h2
       refine hms.use ?_;symm;refine BI (by rw[hL];lia) ?_;symm;refine Cy hK' (by show 1<100000;decide) ?_;rw[Yh];have hwl:(0:Int)<=(ws.getD c0 (Str.ofString "",.nothing,0)).2.2:=by
        cases hgs with
        |st _ h2 _ _ h5=>
          cases hq:ws[c0]? with
          |none=>rw[ua9,hq];exact Int.le_refl _
          |some wd=>rw[ua9,hq];exact(h5 wd (ud3 hq)).lo
       exact(hI _ _).mpr ⟨_,e,tk++[_],_,_,_,p2.h,hel,by lia,by rw[ue6,ke];lia,hR2,hG.set (by lia),A7 hK',t9 rfl (lu D.int (ue0 hwl).symm)⟩
  .have hR2:R=(tk,h',onS o a' 0,onS o 0 a',none):=by rw[<-hR'];exact IR (NP hg ho hh' z) _
   have hsd:atI [(D.str (Av g h').side)] 0=some (.str (Av g h').side):=rfl;have fin:∀(t:T) (Q:D->T->Prop),Q (.str (Av g h').side) t->L2.W (ixD (Av g h').d (.int 0)) t Q:=λt Q h=>by
    cases e:Av g h' with
    |fin=>rw[e] at h;rw[GS.d];exact FH GJ h
    |st s w=>rw[e] at h;rw[GS.d];exact FH GJ h
   symm;refine BR hix ?_;symm;refine fin _ _ ?_;symm;refine aL hW' ?_;rw[Yg z];symm;show Ei _ _ Out.next _;symm;subst hR2;simp only[Prod.mk.injEq] at hRe;obtain⟨rfl,rfl,rfl,rfl,_⟩:=hRe;exact⟨hG,K,by lia,rfl,by rw[Lp];exact hK'⟩
 .show _<1000000;lia
 .exact(hI _ _).mpr ⟨h,a,[],_,none,none,hh,ha,by lia,by simp,hR,Gr.app,by rw[hK];exact CP,rfl⟩
def Kx(F:List Nat)(S S':List Ob):Prop:=S.length<=S'.length/\∀i,i<S.length->i∉F->S'[i]?=S[i]?
section
variable{F:List Nat}{S S1 S2:List Ob}{k:Nat}{o:Ob}
theorem Kx.refl:Kx F S S:=⟨um5 _,λ_ _ _=>rfl⟩
theorem Kx.set(a:Kx F S S1)(h:k∈F):Kx F S (S1.set k o):=⟨by rw[uj3];exact a.1,λi hi n=>by rw[ud2 (λe=>n (by rw[<-e];exact h))];exact a.2 i hi n⟩
theorem Kx.gr(a:Kx F S S1)(b:Gr S1 S2):Kx F S S2:=⟨ul7 a.1 b.1,λi h n=>(b.2 i (ue1 h a.1)).trans (a.2 i h n)⟩
theorem Kx.get(a:Kx F S S1)(n:k∉F)(h:S[k]?=some o):S1[k]?=some o:=by rw[a.2 k (Bm h) n];exact h
end
abbrev lsF(g:List GS)(x:Str)(h tk hd W P q:Nat):List (Str×D):=[("grammar",.lst (g.map GS.d)),("standing",.int (h:Nat)),("wires",.obj W),("places",.obj P),("side",.str x),("said",.obj q),("taken",.int (tk:Nat)),("handed",.int (hd:Nat))]
structure Lst(S:List Ob)(g:List GS)(x o:Str)(h a tk hd:Nat)(w sd:List Nat)(k l q W P:Nat):Prop where
 ik:S[k]?=some (.ins "Lasting" (lsF g x h tk hd W P q))
 iw:S[W]?=some (.dct (d1 o (.obj l)))
 ip:S[P]?=some (.dct (d1 o (.int (a:Nat))))
 il:S[l]?=some (.lst (wD w))
 iq:S[q]?=some (.lst (wD sd))
 ne:l≠q
section
variable{S S':List Ob}{g:List GS}{x o:Str}{h a tk hd:Nat}{w sd:List Nat}{k l q W P:Nat}
end
def Two(x o:Str):Prop:=(x=sL/\o=sR)\/(x=sR/\o=sL)
theorem Two.swap{x o:Str}(h:Two x o):Two o x:=h.elim (λh=>.inr ⟨h.2,h.1⟩) λh=>.inl ⟨h.2,h.1⟩
theorem Two.x{x o:Str}(h:Two x o):x=sL\/x=sR:=h.imp (·.1) (·.1)
theorem Two.o{x o:Str}(h:Two x o):o=sL\/o=sR:=h.swap.x
theorem Two.ne{x o:Str}(h:Two x o):x≠o:=by
 rcases h with⟨rfl,rfl⟩|⟨rfl,rfl⟩
 .exact sLR
 .exact Ne.symm sLR
def Cp(f:Fn):Prop:=∀x o:Str,Two x o->Pure1 f [.str x] (.str o)
theorem Zp:Cp (fnOf 1 1 Gs):=by
 intro x o h S;refine Al rfl ?_;unfold Gs;rcases h with⟨rfl,rfl⟩|⟨rfl,rfl⟩
 .symm;exact⟨rfl,rfl⟩
 .symm;exact⟨rfl,rfl⟩
theorem aP{k:Nat}{lo hi:Option Int}(e:t.S[k]?=some (.lst ds))(h:P (.lst (Ci ds lo hi)) t):W (LD (.obj k) lo hi) t P:=⟨_,_,by simp only[LD,e],h⟩
abbrev heF(g:List GS)(W P:Nat):List (Str×D):=[("grammar",.lst (g.map GS.d)),("standing",.int (0:Nat)),("wires",.obj W),("places",.obj P)]
structure Hea(S S':List Ob)(k W P l:Nat)(o:Str)(fs:List (Str×D)):Prop where
 kp:Kp k S S'
 ik:S'[k]?=some (.ins "Lasting" fs)
 iw:S'[W]?=some (.dct (d1 o (.obj l)))
 ip:S'[P]?=some (.dct (d1 o (.int (0:Nat))))
 il:S'[l]?=some (.lst [])
 gw:S.length<=W
 gp:S.length<=P
 gl:S.length<=l
def Gw(S S':List Ob):Prop:=S.length<=S'.length/\∀i,i<S.length->S'[i]?=S[i]?
mutual
inductive Ow(S:List Ob):D->D->List Nat->Prop
 |non:Ow S .non .non []
 |int (i:Int):Ow S (.int i) (.int i) []
 |str (x:Str):Ow S (.str x) (.str x) []
 |tup {ds vs:List D}{fp:List Nat}:Ows S ds vs fp->Ow S (.tup ds) (.tup vs) fp
 |obj {k:Nat}{ds vs:List D}{fp:List Nat}:S[k]?=some (.lst ds)->Ows S ds vs fp->k∉fp->Ow S (.obj k) (.lst vs) (k::fp)
inductive Ows(S:List Ob):List D->List D->List Nat->Prop
 |nil:Ows S [] [] []
 |cons {d v:D}{fp fp':List Nat}{ds vs:List D}:Ow S d v fp->Ows S ds vs fp'->(∀k∈fp,k∉fp')->Ows S (d::ds) (v::vs) (fp++fp')
end
variable{tst:M Bool}
theorem Ju{g:Gd}{st:D->M Unit}{P:List D->T->Prop}(h:Gon g t.S)(q:P [] t):W (compG g st tst elt []) t P:=by
 unfold compG;exact W_bnd.mpr ⟨_,_,Kl h,W_ret.mpr q⟩
set_option tactic.hygienic true in
theorem F3{g:Gd}{st:D->M Unit}{d:D}{P:List D->T->Prop}(h:Gon g t.S)(q:W (st d) t λ_ t1=>W tst t1 λk t2=>
 if k=true then W elt t2 λx t3=>W (compG g st tst elt r) t3 λxs t4=>P (x::xs) t4 else W (compG g st tst elt r) t2 P):W (compG g st tst elt (d::r)) t P:=by
 rw[compG];refine W_bnd.mpr ⟨_,_,Kl h,W_bnd.mpr (q.mono λ_ t1 q=>W_bnd.mpr (q.mono λk t2 q=>?_))⟩
 split
 .next hk=>
  rw[lD hk] at q;exact W_bnd.mpr (q.mono λx t3 q=>W_bnd.mpr (q.mono λxs t4 q=>W_ret.mpr q))
 .next hk=>
  rw[lE hk] at q;exact q
theorem SI{fr:List Nat}{f:M (Gd×List D)}{st:D->M Unit}{P:List D->T->Prop}(h:W f t λp t1=>W (compG p.1 st tst elt p.2) ⟨cenv n fr t1.env,t1.S⟩ λxs t2=>HE xs.length (P xs {t1 with S:=t2.S})):W (Gf n fr f st tst elt) t P:=by
 refine W_bnd.mpr (h.mono λp t1 h=>?_);clear 5 h xs t2 e l q;refine⟨xs,_,?_,q⟩;simp only[e,lD l]
theorem JN{k:Nat}(h:S[k]?=some (.lst xs)):Gon (some (k,xs)) S:=λ_ _ z=>by cases z;exact h
variable{Q:List D->T->Prop}
theorem cM{k:Nat}(e:t.S[k]?=some (.lst ds))(h:Q ds t):W (Gp [.obj k]) t Q:=⟨_,_,by simp only[Gp,e],h⟩
def prt(g:List GS)(mv:List Mv)(i:Nat):List D:=match mv[i]? with
 |some (p,v)=>.int (p:Int)::AI (wdAt g (Ah g 0 (mv.take i)) p).2.1 v
 |none=>[]
structure Due(g:List GS)(mv:List Mv)(rl rr k:Nat):Prop where
 le:k<=mv.length
 a:(Ao g sL 0 (mv.take k)).length<=rl
 b:(Ao g sR 0 (mv.take k)).length<=rr
 z:k=mv.length\/(k<mv.length/\onS (Av g (Ah g 0 (mv.take k))).side rl rr<onS (Av g (Ah g 0 (mv.take k))).side (Ao g sL 0 (mv.take k)).length (Ao g sR 0 (mv.take k)).length+(prt g mv k).length)
noncomputable def nvO:Nat->D->Bool
 |_,.non=>true
 |_,.int _=>true
 |_,.str _=>true
 |n+1,.lst xs=>decide (xs.length<=1000)&&xs.all (nvO n)
 |n+1,.tup xs=>decide (xs.length<=1000)&&xs.all (nvO n)
 |_,_=>false
set_option tactic.hygienic true in
theorem Gh:∀(n:Nat) (s:Sh),s.depth<=n->wf s=true->∀v,Aj s v=true->nvO n v=true
 |0,s,h,_,_,_=>absurd s.depth_pos (by lia)
 |n+1,s,hs,hw,v,hf=>by
   cases s with
   |nothing=>cases v<;>simp[Aj,FN] at hf;rfl
   |number lo hi=>cases v<;>simp[Aj] at hf;rfl
   |text q=>cases v<;>simp only[Aj,ue7] at hf;rfl
   |list s q=>
     simp only[wf,ug9,ug2] at hw;rw[Sh.depth] at hs
     cases v<;>simp only[Aj,ue7] at hf
     rename_i ds;simp only[ug9,ug2,uh4] at hf;rw[nvO,ug9,ug2,uh4];exact⟨by lia,λd hd=>Gh n s (by lia) hw.2 d (hf.2 d hd)⟩
   |pair s r=>
     simp only[wf,ug9] at hw;rw[Sh.depth] at hs;unfold Aj at hf
     split at hf
     .rw[ug9] at hf;have h1:=Gh n s (by lia) hw.1 _ hf.1;have h2:=Gh n r (by lia) hw.2 _ hf.2;simp[nvO,h1,h2]
     .cases hf
   |choice ss=>
     simp only[wf,ug9,ug2] at hw;rw[Sh.depth] at hs;unfold Aj at hf
     split at hf
     .next o k x=>
      simp only[ug9,ug2] at hf;clear 5(ub6 hf.1.2.1)j rfl;have hj:j<ss.length:=by have:=hf.1.2.2;lia
      have e1:ss[j]?=some ss[j]:=ub3 hj;have h2:=hf.2;rw[uf5,Cj ss _ _ _ e1] at h2;have h3:=Gh n _ (ul7 (Cn ss _ _ e1) (by lia)) (DQ hw.2 _ (uh7 hj)) x h2;have g1:∀o:Str,nvO n (.str o)=true:=λo=>by cases n<;>rfl
      have g2:∀i:Int,nvO n (.int i)=true:=λo=>by cases n<;>rfl
      simp[nvO,h3,g1,g2]
     .cases hf
theorem OS:∀{xs:List D},(∀x∈xs,Cr x=true)->FD xs=true
 |[],_=>rfl
 |x::r,h=>by rw[FD,h x ue2,OS λy m=>h y (ud1 _ m)];rfl
theorem NI:∀(n:Nat) (v:D),nvO n v=true->Cr v=true
 |0,v,h=>by cases v<;>first|rfl|(simp[nvO] at h;done)
 |n+1,v,h=>by
   cases v<;>first|rfl|(simp[nvO] at h;done)|skip
   all_goals
    rw[nvO,ug9,uh4] at h;rw[Cr];exact OS λx hx=>NI n x (h.2 x hx)
theorem UP{P:Gd×List D->T->Prop}(h:W f t λd t1=>W (Iy d) t1 P):W (Li f) t P:=W_bnd.mpr h
theorem Qq{k:Nat}{P:Gd×List D->T->Prop}(e:t.S[k]?=some (.lst ds))(h:P (some (k,ds),ds) t):W (Iy (.obj k)) t P:=⟨_,_,by simp only[Iy,e],h⟩
theorem N6(h:Aj .nothing v=true):v=.non:=by cases v<;>simp[Aj,FN] at h<;>rfl
theorem PD{lo hi:Int}(h:Aj (.number lo hi) v=true):∃i,v=.int i/\lo<=i/\i<=hi:=by
 cases v<;>simp[Aj] at h
 exact⟨_,rfl,h⟩
theorem Tq{a b:Sh}(h:Aj (.pair a b) v=true):∃x y,v=.tup [x,y]/\Aj a x=true/\Aj b y=true:=by
 unfold Aj at h
 split at h
 .rw[ug9] at h;exact⟨_,_,rfl,h.1,h.2⟩
 .cases h
set_option tactic.hygienic true
theorem PC(h:Aj (.choice ss) v=true):∃(k:Nat) (x:D) (hk:k<ss.length),v=.tup [.str ("of":Str),.int (k:Nat),x]/\Aj ss[k] x=true:=by
 unfold Aj at h
 split at h
 .next o k x=>
  simp only[ug9,ug2] at h;have hk:k.toNat<ss.length:=by lia
  have h2:=h.2;rw[Cj ss _ _ _ (ub3 hk)] at h2;have ho:o=("of":Str):=eq_of_beq h.1.1;subst ho;exact⟨k.toNat,x,hk,by rw[ue0 h.1.2.1],h2⟩
 .cases h
theorem Pj{g:Gd}{st:D->M Unit}{b:M Out}{P:Out->T->Prop}(h:Gon g t.S)(q:P .next t):W (forG g st b []) t P:=by
 unfold forG;exact W_bnd.mpr ⟨_,_,Kl h,W_ret.mpr q⟩
abbrev PureO(S:List Ob)(f:Fn)(ds:List D)(r:D):Prop:=Wf f ds S λx S'=>x=r/\S'=S
set_option tactic.hygienic false
theorem PureO.use{f:Fn}{r:D}(h:PureO S f ds r){P:D->List Ob->Prop}(p:P r S):Wf f ds S P:=Wf.mono h λ_ _ ⟨e1,e2⟩=>by subst e1 e2;exact p
set_option tactic.hygienic true in
theorem KY{g:Gd}{st:D->M Unit}{b:M Out}{P:Out->T->Prop}(I:List D->T->Prop)(hg:∀r t,I r t->Gon g t.S):∀(ds:List D) (t:T),I ds t->
 (∀d r t,I (d :: r) t->W (st d) t λ_ t1=>W b t1 λo t2=>match o with
   |.next=>I r t2
   |.cont=>I r t2
   |.brk=>P .next t2
   |.ret x=>P (.ret x) t2)->(∀t,I [] t->P .next t)->W (forG g st b ds) t P
 |[],t,h,_,fin=>Pj (hg _ _ h) (fin t h)
 |d::r,t,h,turn,fin=>by
   rw[forG];refine W_bnd.mpr ⟨_,_,Kl (hg _ _ h),W_bnd.mpr ((turn d r t h).mono λ_ t1 q=>W_bnd.mpr (q.mono λo t2 q=>?_))⟩
   cases o with
   |next=>exact KY I hg r t2 q turn fin
   |cont=>exact KY I hg r t2 q turn fin
   |brk=>exact W_ret.mpr q
   |ret x=>exact W_ret.mpr q
theorem aK{f:M (Gd×List D)}{st:D->M Unit}{b:M Out}{P:Out->T->Prop}(h:W f t λp t1=>W (forG p.1 st b p.2) t1 P):W (Kw f st b) t P:=W_bnd.mpr h
noncomputable def eK:List D->Bool
 |[_,_]=>true
 |[.str _,.int _,_]=>true
 |_=>false
mutual
def tm:D->Bool
 |.non=>true
 |.int _=>true
 |.str x=>decide (x.length<=90000)
 |.lst xs=>decide (xs.length<=1000)&&tms xs
 |.tup xs=>tms xs&&eK xs
 |_=>false
def tms:List D->Bool
 |[]=>true
 |d::r=>tm d&&tms r
end
abbrev bsF(g:List GS)(x:Str)(h W P:Nat)(E:List (Str×D)):List (Str×D):=("grammar",.lst (g.map GS.d))::("standing",.int (h:Nat))::("wires",.obj W)::("places",.obj P)::("side",.str x)::E
structure Ins(S:List Ob)(n:Str)(E:List (Str×D))(g:List GS)(x o:Str)(h a:Nat)(w:List Nat)(k l W P:Nat):Prop where
 ik:S[k]?=some (.ins n (bsF g x h W P E))
 iw:S[W]?=some (.dct (d1 o (.obj l)))
 ip:S[P]?=some (.dct (d1 o (.int (a:Nat))))
 il:S[l]?=some (.lst (wD w))
 el:E.length<=100
variable{F:List Nat}
section
variable{S S':List Ob}{n:Str}{E:List (Str×D)}{g:List GS}{x o:Str}{h a:Nat}{w:List Nat}{k l W P:Nat}
theorem Ins.keep(R:Ins S n E g x o h a w k l W P)(K:Kx F S S')(n1:k∉F)(n2:l∉F)(n4:W∉F)(n5:P∉F):Ins S' n E g x o h a w k l W P:=
 ⟨K.get n1 R.ik,K.get n4 R.iw,K.get n5 R.ip,K.get n2 R.il,R.el⟩
theorem Ins.gr(R:Ins S n E g x o h a w k l W P)(G:Gr S S'):Ins S' n E g x o h a w k l W P:=⟨G.get R.ik,G.get R.iw,G.get R.ip,G.get R.il,R.el⟩
theorem Ins.ext(R:Ins S n E g x o h a w k l W P)(y:List Nat):Ins (S.set l (.lst (wD w++wD y))) n E g x o h a (w++y) k l W P:=
 ⟨Ae R.ik (Ag R.il R.ik (by simp)),Ae R.iw (Ag R.il R.iw (by simp)),Ae R.ip (Ag R.il R.ip (by simp)),by rw[<-KR];exact A7 R.il,R.el⟩
theorem Ins.put{h' a' Q:Nat}{E':List (Str×D)}(R:Ins S n E g x o h a w k l W P)(e:S[Q]?=some (.dct (d1 o (.int (a':Nat)))))(l':E'.length<=100):Ins (S.set k (.ins n (bsF g x h' W Q E'))) n E' g x o h' a' w k l W Q:=
 ⟨A7 R.ik,Ae R.iw (Ag R.ik R.iw (by simp)),Ae e (Ag R.ik e (by simp)),Ae R.il (Ag R.ik R.il (by simp)),l'⟩
theorem Ins.fl(R:Ins S n E g x o h a w k l W P):(bsF g x h W P E).length<1000:=by
 have:=R.el;show E.length+1+1+1+1+1<1000;lia
end
structure HeaG(n:Str)(S S':List Ob)(k W P l:Nat)(o:Str)(fs:List (Str×D)):Prop where
 kp:Kp k S S'
 ik:S'[k]?=some (.ins n fs)
 iw:S'[W]?=some (.dct (d1 o (.obj l)))
 ip:S'[P]?=some (.dct (d1 o (.int (0:Nat))))
 il:S'[l]?=some (.lst [])
 gw:S.length<=W
 gp:S.length<=P
 gl:S.length<=l
variable{l:Nat}
theorem HeaG.put{n:Str}{k W P:Nat}{o:Str}{fs fs':List (Str×D)}(R:HeaG n S S' k W P l o fs):HeaG n S (S'.set k (.ins n fs')) k W P l o fs':=
 ⟨R.kp.setk,A7 R.ik,Ae R.iw (Ag R.ik R.iw (by simp)),Ae R.ip (Ag R.ik R.ip (by simp)),Ae R.il (Ag R.ik R.il (by simp)),R.gw,R.gp,R.gl⟩
theorem cZ{l u:M (Option Int)}(h:L2.W f t λd t1=>L2.W l t1 λa t2=>L2.W u t2 λb t3=>L2.W (slF d a b) t3 Q):L2.W (Pv f l u) t Q:=Co (h.mono λ_ _ h=>Co (h.mono λ_ _ h=>Co h))
theorem c6{k:Nat}{lo hi:Option Int}(e:t.S[k]?=some (.lst ds))(h:Q (Ci ds lo hi) t):L2.W (slF (.obj k) lo hi) t Q:=⟨_,_,by simp only[slF,e],h⟩
theorem YS{b:Bool}{m1 m2:M Out}{K:Out->T->Prop}(Pm:Out->T->Prop)(h1:b=true->L2.W m1 t Pm)(h2:b=false->L2.W m2 t Pm)(h:∀o t',Pm o t'->K o t'):EX b (L2.W m1 t K) (L2.W m2 t K):=Eu (λz=>(h1 z).mono h) λz=>(h2 z).mono h
def Nop(g:List GS)(q:Nat)(x nm:Str)(v:D):Prop:=match Av g q with
 |.fin=>True
 |.st side ws=>x≠side\/match ws.findIdx? (λw=>w.1==nm) with
   |none=>True
   |some p=>∀w,ws[p]?=some w->Aj w.2.1 v=false
variable{E:List (Str×D)}
theorem Ins.setL{n:Str}{x o:Str}{k W P:Nat}{b:Ob}{d:List D}(R:Ins S n E g x o h a w k l W P)(e:S[j]?=some (.lst d))(n1:j≠l):Ins (S.set j b) n E g x o h a w k l W P:=
 ⟨Ae R.ik (Ag e R.ik (by simp)),Ae R.iw (Ag e R.iw (by simp)),Ae R.ip (Ag e R.ip (by simp)),Ae R.il n1,R.el⟩
theorem Kx.sub{F':List Nat}(a:Kx F S S')(h:∀i∈F,i∈F'):Kx F' S S':=⟨a.1,λi hi n=>a.2 i hi λz=>n (h i z)⟩
theorem Rv(ht:∀x∈g,Tin x){q p:Nat}{v:D}(hm:MvOk g q p v):(mbQ g q p v).length<=41:=by
 have h1:=ht _ (HA hm.lt);clear 5(GP hm.pl)side ws e hpl ew;have h2:wdAt g q p∈(Av g q).ws:=by rw[e];exact ud3 ew
 have h3:=(h1 _ h2).few v hm.fit;rw[ug5];exact uh0 h3
theorem Kz{x:GS}(h:P (.str x.side) t):W (ixD x.d (.int 0)) t P:=by
 cases x with
 |fin=>rw[GS.d];exact FH GJ h
 |st s w=>rw[GS.d];exact FH GJ h
def Ii(f:Fn)(d:Nat):Prop:=∀(cell:Int) (S:List Ob),Wf f [.int cell,.int d] S λr S'=>S'=S/\∃(s:Sh) (l:Int),r=.lst [s.d,.int l]/\Dr d s
theorem w6(i:Int):∃w:Int,atI [D.int 0,.int 1,.int 255,.int 256,.int 300,.int 70000] (i%6)=some (.int w)/\0<=w/\w<=70000:=by
 have:i%6=0\/i%6=1\/i%6=2\/i%6=3\/i%6=4\/i%6=5:=by lia
 rcases this with h|h|h|h|h|h<;>rw[h]<;>exact⟨_,rfl,by decide,by decide⟩
theorem UC:Ii (fnOf 2 6 (CG c)) 0:=by
 intro cell S;refine Al rfl ?_;unfold CG;clear 5(w6 (cell/7/9))w hw w0 w1;have num:Dr 0 (.number (cell/7%9-4) (cell/7%9-4+w)):=.number (by lia) (by lia) w0 w1;rcases Y0 cell with h|h|h|h|h|h|h <;>
  (right
   rw[h];right;refine BR hw ?_;right;exact⟨rfl,_,_,rfl,num⟩)
theorem UD{d:Nat}(hc:Ii c d):Ii (fnOf 2 6 (CG c)) (d+1):=by
 intro cell S;refine Al rfl ?_;unfold CG;clear 5(w6 (cell/7/9))w hw w0 w1;have num:Dr (d+1) (.number (cell/7%9-4) (cell/7%9-4+w)):=.number (by lia) (by lia) w0 w1;have hd0:(((d+1:Nat):Int)==0)=false:=by rw[kl];lia
 have hd1:((d+1:Nat):Int)-1=(d:Nat):=by lia
 rcases Y0 cell with h|h|h|h|h|h|h
 .right;rw[h];right;refine BR hw ?_;right;exact⟨rfl,_,_,rfl,num⟩
 .right;rw[h];right;refine BR hw ?_;right;exact⟨rfl,_,_,rfl,num⟩
 .right;rw[h];right;exact⟨rfl,.nothing,_,rfl,.nothing⟩
 .right;rw[h];right;exact⟨rfl,.text (cell/7%4),_,rfl,.text (by lia) (by lia)⟩
 .right;rw[h];right;rw[hd1];refine(hc _ S).mono λr S' z9=>?_;clear 5 z9 e s l er hs;subst e er;right;exact⟨rfl,.list s (l%4),_,rfl,hs.list (by lia) (by lia)⟩
 .right;rw[h];right;rw[hd1];refine(hc _ S).mono λr S' z9=>?_;clear 5 z9 e s l er hs;subst e er;right;rw[hd1];refine(hc _ _).mono λr S' z9=>?_;clear 5 z9 e s2 l2 er hs2;subst e er;right;exact⟨rfl,.pair s s2,_,rfl,hs.pair hs2⟩
 .right;rw[h];right;rw[hd1];refine(hc _ S).mono λr S' z9=>?_;clear 5 z9 e s l er hs;subst e er;right;rw[hd1];refine(hc _ _).mono λr S' z9=>?_;clear 5 z9 e s2 l2 er hs2;subst e er;right;exact⟨rfl,.choice [s,s2],_,rfl,hs.choice hs2⟩
def JE(f:Fn)(n:Nat):Prop:=∀(s:Sh),s.depth<=n->wf s=true->BP s=true->DF s=true->∀(cell:Int) (S:List Ob),Wf f [s.d,.int cell] S λr S'=>S'=S/\∃(v:D) (l:Int),r=.lst [v,.int l]/\Aj s v=true
theorem ah(i:Int):∃n,atI (Str.ofString " az~Q0").cps.toList (i%6)=some n/\BK n=true:=by
 have e:(Str.ofString " az~Q0").cps.toList=[32,97,122,126,81,48]:=by decide +kernel
 rw[e];have:i%6=0\/i%6=1\/i%6=2\/i%6=3\/i%6=4\/i%6=5:=by lia
 rcases this with h|h|h|h|h|h<;>rw[h]<;>exact⟨_,rfl,by decide⟩
theorem SH{f:Fn}:JE f 0:=λs h=>absurd s.depth_pos (by lia)
theorem Xw(hc:JE c n):JE (fnOf 2 10 (EI c)) (n+1):=by
 intro s hs hw hn ht cell S;have hL:LIM=100000:=rfl;refine Al rfl ?_;unfold EI
 cases s with
 |nothing=>
   rw[Sh.d];right;exact⟨rfl,_,_,rfl,rfl⟩
 |number lo hi=>
   simp only[wf,ug9,ug2] at hw;simp only[BP,ug2] at hn;rw[Sh.d];right;refine HR (by lia) ?_;right;refine LH (by lia) (by lia) ?_;right;refine⟨rfl,_,_,rfl,?_⟩;have h1:=uj4 cell (b:=hi-lo+1) (by lia);have h2:=uf1 cell (b:=hi-lo+1) (by lia);simp only[Aj,ug9,ug2];lia
 |text m=>
   simp only[wf,ug9,ug2] at hw;simp only[DF,ug2] at ht;rw[Sh.d];right;refine HR (by lia) ?_;have h1:=uj4 cell (b:=m+1) (by lia);have h2:=uf1 cell (b:=m+1) (by lia);clear 5(ah (cell/7))z hz hsg;right;refine aN (by decide +kernel) hz ?_;right;refine Vr ⟨B9 (by lia) (by lia),by show 1*_<=_;lia,by lia,by show 1<=_;lia⟩ ?_;right;refine LH (by lia) (by lia) ?_;right;refine⟨rfl,_,_,rfl,?_⟩;simp only[Aj,ug9,ug2];exact⟨by rw[No];lia,SU hsg⟩
 |list s m=>
   rw[Sh.depth] at hs;simp only[wf,ug9,ug2] at hw;rw[BP] at hn;simp only[DF,ug9,ug2] at ht;rw[Sh.d];right;refine HR (by lia) ?_;have h1:=uj4 cell (b:=m+1) (by lia);have h2:=uf1 cell (b:=m+1) (by lia);right;refine LH (by lia) (by lia) ?_;right;refine IQ (B9 (by lia) (by lia)) ?_;obtain⟨I,hI⟩:∃I:List D->T->Prop,∀r t,I r t↔∃(l:Int) (ds:List D) (e7 e8 e9:Option Sl),(∃j,r=(Bo 0 (cell%(m+1)).toNat).drop j)/\ds.length+r.length=(cell%(m+1)).toNat/\(∀d∈ds,Aj s d=true)/\t=⟨[vw (.tup [.str "list",s.d,.int m]),vw (.int l),vw (.str "list"),none,vw (.int (cell%(m+1))),none,some (.own ds),e7,e8,e9],S⟩:=⟨_,λ_ _=>.rfl⟩;refine Dl I _ _ ((hI _ _).mpr ⟨_,[],none,none,none,⟨0,rfl⟩,by rw[Eh];simp,by simp,rfl⟩) ?_ ?_
   .rintro d r t h9 _;obtain⟨l,ds,e7,e8,e9,⟨j,hj⟩,hl,hf,rfl⟩:=(hI _ _).mp h9;obtain⟨rfl,hj2,_⟩:=GB hj;rw[ug5] at hl;right;refine(hc s (by lia) hw.2 hn ht.2 _ S).mono λr' S' z9=>?_;clear 5 z9 e v l2 er hv;subst e er;right;refine BI (by rw[hL];lia) ?_;refine(hI _ _).mpr ⟨l2,ds++[v],_,_,_,⟨j+1,hj2⟩,by rw[ue6];simp only[ug5,uj0];lia,?_,rfl⟩;intro d hd;rcases ui0.mp hd with h|h
    .exact hf d h
    .rw[ue8] at h;subst h;exact hv
   .rintro t h9;obtain⟨l,ds,e7,e8,e9,_,hl,hf,rfl⟩:=(hI _ _).mp h9;rw[uj0] at hl;right;refine⟨rfl,_,_,rfl,?_⟩;simp only[Aj,ug9,ug2,uh4];exact⟨by lia,hf⟩
 |pair s r=>
   rw[Sh.depth] at hs;simp only[wf,ug9] at hw;simp only[BP,ug9] at hn;simp only[DF,ug9] at ht;rw[Sh.d];right;refine(hc s (by lia) hw.1 hn.1 ht.1 cell S).mono λr' S' z9=>?_;clear 5 z9 e v l2 er hv;subst e er;right;refine(hc r (by lia) hw.2 hn.2 ht.2 l2 _).mono λr' S' z9=>?_;clear 5 z9 e v' l3 er hv';subst e er;right;exact⟨rfl,_,_,rfl,by rw[Aj,hv,hv'];rfl⟩
 |choice ss=>
   rw[Sh.depth] at hs;simp only[wf,ug9,ug2] at hw;rw[BP] at hn;rw[DF] at ht;have h1:=uj4 cell (b:=(ss.length:Int)) (by lia);have h2:=uf1 cell (b:=(ss.length:Int)) (by lia);have hk:(cell%(ss.length:Int)).toNat<ss.length:=by lia
   have e1:ss[(cell%(ss.length:Int)).toNat]?=some ss[(cell%(ss.length:Int)).toNat]:=ub3 hk;have ea:atI (shD ss) (cell%(ss.length:Int))=some (ss[(cell%(ss.length:Int)).toNat]).d:=by
    unfold atI;rw[Em h1 (by rw[DO];exact h2)];show(shD ss)[(cell%(ss.length:Int)).toNat]?=_;rw[FY,e1];rfl
   rw[Sh.d];right;rw[DO];refine HR (by lia) ?_;right;refine FH ea ?_;right;rw[DO];refine LH (by lia) (by lia) ?_;right;refine(hc _ (ul7 (Cn ss _ _ e1) (by lia)) (DQ hw.2 _ (uh7 hk)) (G6 hn _ (uh7 hk)) (Mh ht _ (uh7 hk)) _ _).mono λr' S' z9=>?_;clear 5 z9 e v l2 er hv;subst e er;right;have ho:HD (Str.ofString "of")=true:=by decide +kernel
   exact⟨rfl,_,_,rfl,by simp only[Aj,ho,h1,h2,decide_true,ul2,ul0,Cj ss _ _ _ e1,hv]⟩
theorem cU(h:Q ds.reverse t):W (Lx [.lst ds]) t Q:=⟨_,_,rfl,h⟩
theorem aJ{g:M (List D)}{Q:D->T->Prop}(h:W f t λo t1=>W g t1 λas t2=>∃z y:Str,o=.str z/\as=[.str y]/\Q (.int (Txt.find z y)) t2):W (findM f g) t Q:=by
 refine Co (h.mono λo t1 h=>Co (h.mono λas t2 h=>?_));clear 5 h z y rfl rfl h;exact⟨_,_,rfl,h⟩
def NbN(f:Fn):Prop:=∀(n m:Nat),m<256 ^ 9->Pure1 f [.int (n:Nat),.int (m:Nat)] (.lst (nb (wid m) n))
theorem Y8:NbN (fnOf 2 3 Dx):=by
 intro n m hb S;have hL:LIM=100000:=rfl;have hw:=IS 9 m hb;have hn:wid m<Ho:=Nat.lt_of_le_of_lt hw (by decide);refine Al rfl ?_;unfold Dx;right;refine F5 (λk t=>∃(n1 m1:Nat) (acc:List D),k=wid m1/\t=⟨[vw (.int (n1:Nat)),vw (.int (m1:Nat)),some (.own acc)],S⟩/\acc.length+wid m1=wid m/\nb (wid m1) n1++acc.reverse=nb (wid m) n) ?_ Ho (wid m) _ hn ⟨n,m,[],rfl,rfl,Nat.zero_add _,ui4 _⟩;rintro k t ⟨n1,m1,acc,rfl,rfl,hl,hacc⟩;right
 by_cases z:0<m1
 .rw[uk1 (by lia:(0:Int)<m1)];have hst:=HU z;refine⟨_,hst,?_⟩;rw[hst,nb,uf7] at hacc;right;refine BI (by rw[hL];lia) ?_;right;exact⟨n1/256,m1/256,acc++[.int ((n1%256:Nat):Int)],rfl,rfl,by rw[ue6];show _+1+_=_;lia,by rw[List.reverse_append];exact hacc⟩
 .have:m1=0:=by lia
  subst this;rw[uj5 (by lia)];right;refine cU ?_;right;have hacc:acc.reverse=nb (wid m) n:=hacc;exact⟨by rw[hacc],rfl⟩
def sgN:Str:=Str.ofString " !\"#$&'()*+,-./0123456789:;<=>?@ABCDEFGHIJKLMNOPQRSTUVWXYZ[\\]^_`abcdefghijklmnopqrstuvwxyz{|}~"
def cod(d:D):D:=match d with
 |.int k=>.int (32+k+(if decide (4<k)=true then 1 else 0))
 |_=>d
def UZ(c:Nat):Bool:=!BK c||match atI ((Bo 0 94).map cod) (Txt.find sgN ⟨#[c]⟩) with
 |some (.int i)=>i==(c:Int)
 |_=>false
theorem VA:∀c:Nat,c<127->UZ c=true:=by decide +kernel
set_option tactic.hygienic true in
theorem Yd{c:Nat}(h:BK c=true):atI ((Bo 0 94).map cod) (Txt.find sgN ⟨#[c]⟩)=some (.int (c:Int)):=by
 have hc:c<127:=by simp only[BK,ug9,ug2] at h;lia
 have:=VA c hc;rw[UZ,h,kX,uk8] at this
 split at this
 .next e=>rw[e,eq_of_beq this]
 .cases this
noncomputable def Zo(d:D):D:=match d with
 |.str y=>.int (y.cps.getD 0 0:Nat)
 |_=>d
theorem QN(x:Str):(x.cps.toList.map λc=>D.str ⟨#[c]⟩).map Zo=x.cps.toList.map λn=>D.int (n:Nat):=by
 rw[lf];exact ud9 λn _=>rfl
def KU(f:Fn)(n:Nat):Prop:=∀(s:Sh),s.depth<=n->wf s=true->BP s=true->∀d,Aj s d=true->(AI s d).length<=LIM->Pure1 f [s.d,d] (.lst (AI s d))
set_option tactic.hygienic true in
theorem Vy(hc:KU c n)(hn:NbN cn):KU (fnOf 2 7 (EH c cn)) (n+1):=by
 intro s hs hwf hna d hf hlen S;have hL:LIM=100000:=rfl;refine Al rfl ?_;unfold EH
 cases s with
 |nothing=>
   have:=N6 hf;subst this;rw[Sh.d];right;exact⟨rfl,rfl⟩
 |number lo hi=>
   simp only[BP,ug2] at hna;clear 5(PD hf)i rfl h1 h2;rw[Sh.d];right;rw[show i-lo=((i-lo).toNat:Nat) by lia,show hi-lo=((hi-lo).toNat:Nat) by lia];refine(hn (i-lo).toNat (hi-lo).toNat (by show _<4722366482869645213696;lia)).use ?_;exact⟨by rw[AI],rfl⟩
 |text q=>
   simp only[wf,ug9,ug2] at hwf
   cases d<;>simp only[Aj,ue7] at hf
   rename_i x;simp only[ug9,ug2,uh4] at hf;have hl:x.cps.toList.length<=250:=by rw[<-Fr];lia
   rw[Sh.d];right;show L2.W (AY [.str sgN]) _ _;refine MA (by decide +kernel) ?_;have e94:((sgN.length:Nat):Int)=94:=by decide +kernel
   rw[e94];right;refine(GI (f:=cod) (fr:=[]) ?_).mono ?_
   .intro d m;obtain⟨k,rfl,_,_⟩:=W0 m;right;exact⟨rfl,rfl⟩
   rintro xs t' ⟨rfl,hS⟩;refine BI (by rw[ui2,Eh,hL];decide) ?_;right;refine MA (by rw[hL];lia) ?_;right;refine(GI (f:=Zo) (fr:=[vw (.lst ((Bo 0 94).map cod)),vw (.str sgN)]) ?_).mono ?_
   .intro d m;clear 5(um3.mp m)k hk rfl;right;refine aJ ?_;right;refine⟨_,_,rfl,rfl,?_⟩;refine BR (Yd (hf.2 k hk)) ?_;exact⟨rfl,rfl⟩
   rintro xs t2 ⟨rfl,hS2⟩;rw[QN];refine BI (by rw[ui2,hL];lia) ?_;right;refine BI (by simp only[ui2,ug5,uj0,hL];lia) ?_;right;exact⟨by rw[AI];rfl,hS2.trans hS⟩
 |list s q=>
   simp only[wf,ug9,ug2] at hwf;rw[Sh.depth] at hs;rw[BP] at hna
   cases d<;>simp only[Aj,ue7] at hf
   rename_i ds;rw[ug9,ug2,uh4] at hf;rw[AI] at hlen⊢;rw[Sh.d];right;refine Dl (λr t=>∃(z:Option Sl) (acc:List D),t=⟨[vw (.tup [.str "list",s.d,.int q]),vw (.lst ds),vw (.str "list"),none,none,some (.own acc),z],S⟩/\acc++(r.map λd=>AI s d).flatten=.int (ds.length:Nat)::(ds.map λd=>AI s d).flatten) _ _ ⟨_,_,rfl,rfl⟩ ?_ ?_
   .rintro d r t ⟨z,acc,rfl,hacc⟩ m;rw[uk4,uf6,<-uf7] at hacc;have hl:acc.length+(AI s d).length<=LIM:=by
     have:=lu List.length hacc;rw[ue6,ue6] at this;lia
    right;refine(hc s (by lia) hwf.2 hna d (hf.2 d m) (by lia)).use ?_;right;refine BI hl ?_;exact⟨_,_,rfl,hacc⟩
   .rintro t ⟨z,acc,rfl,hacc⟩;rw[um0,List.flatten_nil,ui4] at hacc;right;exact⟨by rw[hacc],rfl⟩
 |pair s r=>
   simp only[wf,ug9] at hwf;simp only[BP,ug9] at hna;rw[Sh.depth] at hs;clear 5(Tq hf)a b rfl ha hb;rw[AI] at hlen⊢;rw[ue6] at hlen;rw[Sh.d];right;refine(hc s (by lia) hwf.1 hna.1 a ha (by lia)).use ?_;right;refine(hc r (by lia) hwf.2 hna.2 b hb (by lia)).use ?_;right;refine BI (by lia) ?_;right;exact⟨rfl,rfl⟩
 |choice ss=>
   simp only[wf,ug9,ug2] at hwf;rw[BP] at hna;rw[Sh.depth] at hs;clear 5(PC hf)k x hk rfl hx;have e1:ss[k]?=some ss[k]:=ub3 hk;rw[AI,uf5] at hlen⊢;rw[EL ss _ _ _ e1] at hlen⊢;rw[ug5] at hlen;rw[Sh.d];right;refine FH (bP hk) ?_;right;refine(hc _ (ul7 (Cn ss _ _ e1) (by lia)) (DQ hwf.2 _ (uh7 hk)) (G6 hna _ (uh7 hk)) x hx (by lia)).use ?_;right;refine BI (by simp only[ug5,uj0];lia) ?_;right;exact⟨rfl,rfl⟩
def Pb(f:Fn):Prop:=∀(ns:List Int) (k:Int),0<=k->k<=1000->∃c:Int,Pure1 f [.scr ns,.int k] (.int c)
theorem QM:Pb (fnOf 2 2 DW):=by
 intro ns k h0 h1
 by_cases z:k<ns.length
 .have hk:k.toNat<ns.length:=by lia
  refine⟨ns[k.toNat],λS=>Al rfl ?_⟩;unfold DW;right;refine Ev (uk1 (by lia)) ?_;right;refine W_ix_scr.mpr ⟨ns[k.toNat],?_,?_⟩
  .unfold atI;rw[Em h0 (by lia)];show ns[k.toNat]?=_;rw[ub3 hk]
  .exact⟨rfl,rfl⟩
 .refine⟨23*k*k+13*k+5,λS=>Al rfl ?_⟩;unfold DW;right;refine DT (uj5 (by lia)) ?_;right;refine Fk (by lia) (by lia) ?_;right;refine Fk (by lia) (by lia) ?_;right;refine Fk (by lia) (by lia) ?_;right;exact⟨rfl,rfl⟩
def XS(f:Fn):Prop:=∀(cell k:Int),0<=k->k<=10->∃c:Int,Pure1 f [.int cell,.int k] (.int c)
theorem bw:XS (fnOf 2 3 Fz):=by
 intro cell k k0 k1;have b0:=uj4 (cell*48271+7919*k*k+104729*k+11) (b:=2147483647) (by decide);have b1:=uf1 (cell*48271+7919*k*k+104729*k+11) (b:=2147483647) (by decide);obtain⟨x,hx⟩:∃x,x=(cell*48271+7919*k*k+104729*k+11)%2147483647:=⟨_,rfl⟩;rw[<-hx] at b0 b1;have d0:=uj4 (x*x) (b:=2147483629) (by decide);have d1:=uf1 (x*x) (b:=2147483629) (by decide);obtain⟨y,hy⟩:∃y,y=x*x%2147483629:=⟨_,rfl⟩;rw[<-hy] at d0 d1;refine⟨y*y+y*1000003+cell,λS=>Al rfl ?_⟩;unfold Fz;right;refine Fk (by decide) (by decide) ?_;right;refine Fk (by lia) (by lia) ?_;right;refine Fk (by lia) (by lia) ?_;right;refine Fk (by lia) (by lia) ?_;right;rw[<-hx];refine Fk (by lia) (by lia) ?_;right;rw[<-hy];refine Fk (by lia) (by lia) ?_;right;refine Fk (by lia) (by lia) ?_;right;exact⟨rfl,rfl⟩
def nmN(r:Int)(j:Nat):Str:=Txt.mul ⟨#[97+j]⟩ r
theorem Ws{r:Int}(h:1<=r){i j:Nat}(e:nmN r i=nmN r j):i=j:=by
 have e:(nmN r i).cps.toList=(nmN r j).cps.toList:=by rw[e]
 unfold nmN at e;rw[Nw,Nw] at e;obtain⟨m,hm⟩:∃m,r.toNat=m+1:=⟨r.toNat-1,by lia⟩;rw[hm,ud8,ud8] at e;injection e with e _
 lia
theorem Y9{r:Int}(h:1<=r)(n:Nat):((List.range n).map (nmN r)).Nodup:=List.pairwise_map.mpr (List.nodup_range.imp λh2 e=>h2 (Ws h e))
def N9(x:GS):Prop:=∀w∈x.ws,w.1.length<=3/\∀c∈w.1.cps.toList,c<122
theorem U8{r:Int}(h:r<=3){j:Nat}(hj:j<3):(nmN r j).length<=3/\∀c∈(nmN r j).cps.toList,c<122:=by
 unfold nmN;rw[No,Nw];refine⟨by lia,λc hc=>?_⟩;have:=jr hc;lia
theorem aV(h:j<3):atI (Str.ofString "abc").cps.toList (0+(j:Int))=some (97+j):=by
 have e:(Str.ofString "abc").cps.toList=[97,98,99]:=by decide +kernel
 rw[e]
 match j,h with
 |0,_=>rfl
 |1,_=>rfl
 |2,_=>rfl
def GrN(f:Fn):Prop:=∀(ns:List Int) (S:List Ob),Wf f [.scr ns,.int 2,.bl true] S λr S'=>S'=S/\∃g:List GS,r=.lst (g.map GS.d)/\GOk g/\g.length<=6/\∀x∈g,Tin x/\N9 x
def GU(ns:List Int)(many:Int)(gs:List GS)(e5 e6 e7 e8 e9 e10 e11:Option Sl):List (Option Sl):=[vw (.scr ns),vw (.int 2),vw (.bl true),vw (.int many),some (.own (gs.map GS.d)),e5,e6,e7,e8,e9,e10,e11]
variable{cm:Fn}
theorem dO{cs:Fn}(hs:Ii cs 2)(hc:Pb cc)(hm:XS cm):GrN (fnOf 3 12 (Ea cs cc cm)):=by
 intro ns S;have hL:LIM=100000:=rfl;clear 5(hc ns 0 (by decide) (by decide))c0 hc0;have m0:=uj4 c0 (b:=6) (by decide);have m1:=uf1 c0 (b:=6) (by decide);refine Al rfl ?_;unfold Ea;right;refine(hc0).use ?_;right;obtain⟨many,hmany⟩:∃many,many=1+c0%6:=⟨_,rfl⟩;rw[<-hmany];refine IQ (B9 (by lia) (by lia)) ?_;obtain⟨I,hI⟩:∃I:List D->T->Prop,∀r t,I r t↔∃(gs:List GS) (e5 e6 e7 e8 e9 e10 e11:Option Sl),r=(Bo 0 many.toNat).drop gs.length/\gs.length<=many.toNat/\(∀x∈gs,GSOk many x/\Tin x/\N9 x)/\t=⟨GU ns many gs e5 e6 e7 e8 e9 e10 e11,S⟩:=⟨_,λ_ _=>.rfl⟩;refine Dl I _ _ ((hI _ _).mpr ⟨[],none,none,none,none,none,none,none,rfl,um6 _,(λ_ h=>nomatch h),rfl⟩) ?_ ?_
 .rintro d r t h9 _;obtain⟨gs,e5,e6,e7,e8,e9,e10,e11,hr,hle,hgs,rfl⟩:=(hI _ _).mp h9;clear 5(GB hr)rfl hr2 hlt;unfold GU;clear 5(hc ns (2+(0+(gs.length:Int))) (by lia) (by lia))c1 hc1;right;refine hc1.use ?_;right;refine hc0.use ?_;right;refine YS (λo t'=>o=.next/\∃c:Int,t'=⟨GU ns many gs (vw (.int (0+(gs.length:Int)))) (vw (.int c)) e7 e8 e9 e10 e11,S⟩) (λ_=>?_) (λ_=>?_) ?_
  .clear 5(hm c1 (0+(gs.length:Int)) (by lia) (by lia))c2 hc2;right;refine hc2.use ?_;right;exact⟨rfl,_,rfl⟩
  .right;exact⟨rfl,_,rfl⟩
  rintro o t' ⟨rfl,c,rfl⟩;unfold GU
  iterate 16 (walk_at"w1")
  refine wIf ?_;refine L2.W.mono (P:=λb t'=>t'=⟨GU ns many gs (vw (.int (0+(gs.length:Int)))) (vw (.int (c/5))) (vw (.int (c%5))) e8 e9 e10 e11,S⟩) ?_ ?_
  .right;refine Eu (λ_=>?_) λ_=>?_
   .right;refine Eu (λ_=>?_) λ_=>?_
    .right;rfl
    .right;rfl
   .right;rfl
  rintro b t' rfl;unfold GU;refine Eu (λ_=>?_) λ_=>?_
  .right;refine BI (by rw [ui2,hL];lia) ?_;right;refine W_ret.mpr ?_;exact(hI _ _).mpr ⟨gs++[.fin],_,_,_,_,_,_,_,by rw [ue6];exact hr2,by rw [ue6];show _ + 1<=_;lia,λx hx=>by
    rcases ui0.mp hx with h|h
    .exact hgs x h
    .rw[ue8] at h;subst h;exact⟨.fin,(λ_ z=>nomatch z),λ_ z=>nomatch z⟩,by unfold GU;rw[uj2];rfl⟩
  .right;have q0:=uj4 (c/5) (b:=3) (by decide);have q1:=uf1 (c/5) (b:=3) (by decide);obtain⟨n3,hn3⟩:∃n3:Nat,1+c/5%3=n3:=⟨(1+c/5%3).toNat,by lia⟩;obtain⟨rr,hrr⟩:∃rr:Int,rr=1+(0+(gs.length:Int))%3:=⟨_,rfl⟩;have r1:1<=rr/\rr<=3:=by lia
   rw[hn3];refine IQ (B9 (by lia) (by lia)) ?_;rw[uf5];obtain⟨J,hJ⟩:∃J:List D->T->Prop,∀r t,J r t↔∃(ws:List (Str×Sh×Int)) (l:Int) (e9 e10 e11:Option Sl),r=(Bo 0 n3).drop ws.length/\ws.length<=n3/\ws.map (·.1)=(List.range ws.length).map (nmN rr)/\(∀w∈ws,WOk many w/\Dr 2 w.2.1)/\t=⟨GU ns many gs (vw (.int (0+(gs.length:Int)))) (vw (.int l)) (vw (.int (c%5))) (some (.own (ws.map wdD))) e9 e10 e11,S⟩:=⟨_,λ_ _=>.rfl⟩;refine Dl J _ _ ((hJ _ _).mpr ⟨[],_,_,_,_,rfl,um6 _,rfl,(λ_ h=>nomatch h),rfl⟩) ?_ ?_
   .rintro d r t h8 _;obtain⟨ws,l,e9,e10,e11,hw,hwl,hwn,hws,rfl⟩:=(hJ _ _).mp h8;clear 5(GB hw)rfl hw2 hwlt;unfold GU;right;refine HR (by lia) ?_;right;refine LH (by lia) (by lia) ?_;right;refine(hs _ S).mono λr' S' z9=>?_;clear 5 z9 e s l2 er hd;subst e er;right;refine aN (by decide +kernel) (aV (by lia)) ?_;right;rw[<-hrr];refine Vr ⟨B9 (by lia) (by lia),by show 1*_<=_;lia,by lia,by show 1<=_;lia⟩ ?_;right;refine BI (by rw[ui2,hL];lia) ?_;refine(hJ _ _).mpr ⟨ws++[(nmN rr ws.length,s,l/3%many)],_,_,_,_,by rw[ue6];exact hw2,by rw[ue6];show _+1<=_;lia,by rw[ue6,uj2,hwn];show _=(List.range (ws.length+1)).map _;rw[List.range_succ,uj2];rfl,λw hw'=>?_,by rw[uj2];rfl⟩;rcases ui0.mp hw' with h|h
    .exact hws w h
    .rw[ue8] at h;subst h;exact⟨⟨hd.ok,hd.dep,uj4 _ (by lia),uf1 _ (by lia),ul7 (U8 r1.2 (by lia)).1 (by decide)⟩,hd⟩
   .rintro t h8;obtain⟨ws,l,e9,e10,e11,hw,hwl,hwn,hws,rfl⟩:=(hJ _ _).mp h8;unfold GU;have hwe:ws.length=n3:=by
     have:=lu List.length hw;rw[ug8,Eh] at this;have:0=n3-ws.length:=this;lia
    clear 5(bQ l)side hsd hside;right;refine BR hsd ?_;right;refine BI (by rw[ui2,hL];lia) ?_;refine(hI _ _).mpr ⟨gs++[.st side ws],_,_,_,_,_,_,_,by rw[ue6];exact hr2,by rw[ue6];show _+1<=_;lia,λx hx=>?_,by unfold GU;rw[uj2];rfl⟩;rcases ui0.mp hx with h|h
    .exact hgs x h
    .rw[ue8] at h;subst h;refine⟨.st hside (by lia) (by lia) (by rw[hwn];exact Y9 r1.1 _) λw h=>(hws w h).1,λw h=>(hws w h).2,λw h=>?_⟩;have:w.1∈ws.map (·.1):=List.mem_map_of_mem h;rw[hwn] at this;clear 5(um3.mp this)j hj ej;rw[uj6] at hj;rw[<-ej];exact U8 r1.2 (by lia)
 .rintro t h9;obtain⟨gs,e5,e6,e7,e8,e9,e10,e11,hr,hle,hgs,rfl⟩:=(hI _ _).mp h9;unfold GU;have he:gs.length=many.toNat:=by
   have:=lu List.length hr;rw[ug8,Eh] at this;have:0=many.toNat-gs.length:=this;lia
  right;exact⟨rfl,gs,rfl,⟨by lia,by lia,λx hx=>by rw[show(gs.length:Int)=many by lia];exact(hgs x hx).1⟩,by lia,λx hx=>(hgs x hx).2⟩
def Rd.tells(P:D->Prop):Rd->Prop
 |.done v=>P v
 |.need _ nx=>∀b,(nx b).tells P
local macro_rules | `(tactic| walk_at"y1")=>`(tactic| first
 |walk_at"x1" |clear 31 UO LI N1 Vq Vp)
def KpR(k l r:Nat)(S S':List Ob):Prop:=S.length<=S'.length/\∀i,i<S.length->i≠k->i≠l->i≠r->S'[i]?=S[i]?
section
variable{n0:Nat}{S S1 S2:List Ob}{k:Nat}{g:List GS}{vl vr:List Nat}{h a b W P l r:Nat}{o:Ob}
end
def Bk(g:List GS)(vl vr:List Nat)(h a b c:Nat)(s:Str):Prop:=Pl g vl vr h a b/\∃t h' a' b',ED g vl vr (Fu vl vr) h a b []=(t,h',a',b',some (c,s))
def gF(g:List GS)(vl vr:List Nat)(k h a b W P l r:Nat):List (Nat×Ob):=[(k,.ins "Reader" (rdF g h W P)),(W,.dct (lr (.obj l) (.obj r))),(P,.dct (dP a b)),(l,.lst (wD vl)),(r,.lst (wD vr))]
section
variable{F:List (Nat×Ob)}{n0:Nat}{S S1:List Ob}{k:Nat}{g:List GS}{vl vr:List Nat}{h a b W P l r m R:Nat}
end
abbrev InS(S:List Ob)(g:List GS)(x o:Str)(h a:Nat)(w:List Nat)(k l W P:Nat):Prop:=Ins S "Side" [] g x o h a w k l W P
def FL(ar:Nat->Str->D->List D)(f:Fn):Prop:=∀(S:List Ob) (g:List GS) (x o:Str) (h a:Nat) (w y:List Nat) (k l W P:Nat) (t:List D) (h' a1 b1:Nat),GOk g->Two x o->h<g.length->a<=w.length->(w++y).length<=25000->w1 g o (w++y) ((w++y).length+1) h a []=(t,h',a1,b1,none)->InS S g x o h a w k l W P->
 Wf f (ar k o (.lst (wD y))) S λr S'=>r=.lst t/\Kx [k,l] S S'/\∃P',S.length<=P'/\InS S' g x o h' (onS o a1 b1) (w++y) k l W P'
abbrev arH(k:Nat)(o:Str)(d:D):List D:=[.obj k,.str o,d]
abbrev arT(k:Nat)(_:Str)(d:D):List D:=[.obj k,d]
theorem TF(hc:JD c):FL arH (fnOf 3 4 (EF c)):=by
 intro S g x o h a w y k l W P t h' a1 b1 hg ho hh ha hl hw R;have hL:LIM=100000:=rfl;have hly:w.length+y.length<=25000:=by rw[ue6] at hl;exact hl
 refine Al rfl ?_;unfold EF;symm;refine HS (k:=l) ?_;symm;refine AO R.ik rfl ?_;symm;refine Aw R.iw G9 ?_;refine⟨rfl,_,R.il,?_⟩;symm;refine⟨_,wD w++wD y,R.il,by simp only[EV];rw[lD (by rw[A3,A3,hL];lia)],?_⟩;have R1:=R.ext y;have K1:Kx [k,l] S (S.set l (.lst (wD w++wD y))):=Kx.refl.set (by simp);generalize S.set l (.lst (wD w++wD y))=S1 at R1 K1⊢;symm;refine AO R1.ik rfl ?_;symm;refine AO R1.ik rfl ?_;symm;refine AO R1.ik rfl ?_;symm;refine AO R1.ik rfl ?_;symm;refine(hc g o (w++y) (.obj l) h a W P S1 t h' a1 b1 hg ho.o hh (by rw[ue6];lia) hl (.inr ⟨l,rfl,R1.il⟩) R1.iw R1.ip hw).mono ?_;rintro r S2 ⟨hG,K,hK0,rfl,hK⟩;have R2:=R1.gr hG;have K2:=K1.gr hG;symm;refine CJ R2.ik R2.fl ?_;symm;refine CJ (A7 R2.ik) R2.fl ?_;symm;refine⟨rfl,(K2.set (by simp)).set (by simp),K,by have:=K1.1;lia,?_⟩;show Ins ((S2.set k (.ins "Side" (bsF g x h' W P []))).set k (.ins "Side" (bsF g x h' W K []))) "Side" [] g x o h' (onS o a1 b1) (w++y) k l W K;rw[List.set_set];exact R2.put hK R2.el
variable{co:Fn}
theorem PR{ch:Fn}(h1:Cp co)(h2:FL arH ch):FL arT (fnOf 2 2 (EG co ch)):=by
 intro S g x o h a w y k l W P t h' a1 b1 hg ho hh ha hl hw R;refine Al rfl ?_;unfold EG;symm;refine⟨k,_,rfl,R.ik,?_⟩;symm;refine AO R.ik rfl ?_;symm;refine(h1 x o ho).use ?_;symm;exact h2 S g x o h a w y k l W P t h' a1 b1 hg ho hh ha hl hw R
theorem UG(hc:FL arT c):FL arT (fnOf 2 2 (Fa c)):=by
 intro S g x o h a w y k l W P t h' a1 b1 hg ho hh ha hl hw R;refine Al rfl ?_;unfold Fa;symm;refine⟨k,_,rfl,R.ik,?_⟩;symm;exact hc S g x o h a w y k l W P t h' a1 b1 hg ho hh ha hl hw R
section
variable{S:List Ob}{g:List GS}{x o:Str}{h a:Nat}{w:List Nat}{k l W P:Nat}
theorem Jq(h1:Cp co)(ho:Two x o)(R:InS S g x o h a w k l W P):PureO S (fnOf 1 1 (BG co (fnOf 2 2 Bx))) [.obj k] (.int ((w.length:Int)-(a:Int))):=by
 refine Al rfl ?_;unfold BG;symm;refine⟨k,_,rfl,R.ik,?_⟩;symm;refine AO R.ik rfl ?_;symm;refine(h1 x o ho).use ?_;symm;refine Al rfl ?_;unfold Bx;symm;refine AO R.ik rfl ?_;symm;refine Aw R.iw G9 ?_;symm;refine GR R.il ?_;symm;refine AO R.ik rfl ?_;symm;refine Aw R.ip G9 ?_;symm;rw[A3];exact⟨rfl,rfl⟩
theorem Sv{n:Str}(R:Ins S n E g x o h a w k l W P):PureO S (fnOf 1 1 CD) [.obj k] (.int (h:Nat)):=by
 refine Al rfl ?_;unfold CD;symm;refine AO R.ik rfl ?_;exact⟨rfl,rfl⟩
theorem YZ(hh:h<g.length)(R:InS S g x o h a w k l W P):PureO S (fnOf 1 1 BX) [.obj k] (.bl ((Av g h).side==x)):=by
 refine Al rfl ?_;unfold BX;symm;refine AO R.ik rfl ?_;symm;refine AO R.ik rfl ?_;symm;refine BR (C9 hh) ?_;symm;refine Kz ?_;symm;refine AO R.ik rfl ?_;symm;exact⟨rfl,rfl⟩
theorem M8(he:EK ce)(hg:GOk g)(hh:h<g.length)(R:InS S g x o h a w k l W P):PureO S (fnOf 1 1 (Bt ce)) [.obj k] (.bl (Av g h).isFin):=by
 refine Al rfl ?_;unfold Bt;symm;refine AO R.ik rfl ?_;symm;refine AO R.ik rfl ?_;symm;refine BR (C9 hh) ?_;symm;refine(he _ _ (Dg hg hh) S).mono ?_;rintro r S' ⟨rfl,rfl⟩;symm;exact⟨rfl,rfl⟩
end
abbrev lrF{α:Type}(F:α->D)(x:Str)(a b:α):List (Key×D):=lr (F (onS x a b)) (F (onS x b a))
section
variable{α:Type}{F:α->D}{x o:Str}{a b d:α}
theorem P8:onS x (F a) (F b)=F (onS x a b):=by unfold onS;split<;>rfl
theorem Jg(h:Two x o):onS o b a=onS x a b:=by
 unfold onS;rcases h with⟨rfl,rfl⟩|⟨rfl,rfl⟩
 .rw[lD rfl,lE (Ne.symm sLR)]
 .rw[lD rfl,lE (Ne.symm sLR)]
theorem D7(h:Two x o):lrF F x a b=lrF F o b a:=by unfold lrF;rw[Jg h,Jg h]
theorem BW(h:x=sL\/x=sR):Be (lrF F x a b) (.inr x)=some (F a):=by rw[YX h,P8,Lp]
theorem BF(h:Two x o):Be (lrF F x a b) (.inr o)=some (F b):=by rw[D7 h];exact BW h.o
theorem FW(h:x=sL\/x=sR):BQ (lrF F x a b) (.inr x) (F d)=lrF F x d b:=by rw[YY h,P8,P8,Ze,Zf]
theorem Nq(h:Two x o):BQ (lrF F x a b) (.inr o) (F d)=lrF F x a d:=by rw[D7 h,FW h.o,<-D7 h]
end
theorem LJ{g:List GS}(ht:∀x∈g,Tin x)(s:Str):∀(mv:List Mv) (q:Nat),okQ g q mv->(Ao g s q mv).length<=41*mv.length
 |[],q,_=>um6 _
 |(p,v)::r,q,hk=>by
   rw[okQ] at hk;have h1:=LJ ht s r _ hk.2;have h2:=Rv ht hk.1;rw[Ao,ue6,ug5];have h3:(if (Av g q).side=s then D.int (p:Int)::AI (wdAt g q p).2.1 v else []).length<=41:=by
    split
    .exact h2
    .exact um6 _
   lia
structure Vw(g:List GS)(o:Str)(mv m1 m2:List Mv)(tk n:Nat):Prop where
 e:mv=m1++m2
 al:Fw g o (Ah g 0 m1) m2
 a:(Ao g o 0 m1).length<=tk
 t:tk<=n
 c:ME g (Ah g 0 m1) (Ao g o 0 m1).length tk m2
theorem Vw.lt(hg:GOk g){o:Str}{mv m1 m2:List Mv}{tk n:Nat}(v:Vw g o mv m1 m2 tk n)(hk:okQ g 0 mv):Ah g 0 m1<g.length:=by
 rw[v.e,Fd] at hk;exact OG hg hg.ne hk.1
variable{mv m1 m2:List Mv}{tk:Nat}
theorem Vw.all{x o:Str}(v:Vw g o mv m1 m2 tk n)(h:(Av g (Ah g 0 m1)).side=x)(ne:x≠o):m2=[]:=by
 cases m2 with
 |nil=>rfl
 |cons m r=>
   clear 5 m p d;have:=v.al;rw[Fw] at this;exact absurd (h.symm.trans this.1) ne
theorem Te{m r:List Mv}(h:ME g q a tk m)(n:m≠[]):ME g q a tk (m++r):=by
 cases m with
 |nil=>exact absurd rfl n
 |cons p m=>exact h
theorem Vw.done{o:Str}(v:Vw g o mv m1 m2 tk n)(e:(Ao g o 0 mv).length=tk):m1=mv:=by
 cases m2 with
 |nil=>have:=v.e;rw[ui4] at this;exact this.symm
 |cons m r=>
   clear 5 m p d;exfalso;have hc:tk<(Ao g o 0 m1).length+(mbQ g (Ah g 0 m1) p d).length:=v.c;have ha:=v.al;rw[Fw] at ha;rw[v.e,Ek,Ao,lD ha.1,ue6,ue6] at e;have e:(Ao g o 0 m1).length+((mbQ g (Ah g 0 m1) p d).length+(Ao g o (nextQ g (Ah g 0 m1) p) r).length)=tk:=e;lia
section
variable{g:List GS}{mv:List Mv}{wl wr:List Nat}
end
theorem Vw.say{x:Str}(V:Vw g x mv m1 m2 tk n)(hn:(Ao g x 0 mv).length=n)(hs:(Av g (Ah g 0 mv)).side=x):Vw g x (mv++[(p,v)]) m1 (m2++[(p,v)]) tk (n+(mbQ g (Ah g 0 mv) p v).length):=by
 have ht:=V.t;refine⟨by rw[<-uf7,<-V.e],(F6 _ m2 _).mpr ⟨V.al,?_⟩,V.a,by lia,?_⟩
 .rw[<-B1,<-V.e];exact⟨hs,trivial⟩
 .by_cases q:m2=[]
  .have e3:m1=mv:=by have:=V.e;rw[q,ui4] at this;exact this.symm
   rw[q,e3];show tk<(Ao g x 0 mv).length+(mbQ g (Ah g 0 mv) p v).length;rw[ug5];lia
  .exact Te V.c q
theorem N2{x:Str}(hs:(Av g (Ah g 0 mv)).side=x):Ao g x 0 (mv++[(p,v)])=Ao g x 0 mv++mbQ g (Ah g 0 mv) p v:=by rw[Ek,Ao,Ao,ui4,lD hs]
theorem HV{o:Str}(hs:¬(Av g (Ah g 0 mv)).side=o):Ao g o 0 (mv++[(p,v)])=Ao g o 0 mv:=by rw[Ek,Ao,Ao,ui4,lE hs,ui4]
theorem Vw.own{o:Str}(V:Vw g o mv mv [] tk n)(hs:¬(Av g (Ah g 0 mv)).side=o):Vw g o (mv++[(p,v)]) (mv++[(p,v)]) [] tk n:=
 ⟨(ui4 _).symm,trivial,by rw[HV hs];exact V.a,V.t,trivial⟩
theorem Vw.nil{o:Str}(V:Vw g o mv m1 [] tk n):m1=mv:=by have:=V.e;rw[ui4] at this;exact this.symm
theorem Vw.take{g:List GS}(hg:GOk g){o:Str}(ho:o=sL\/o=sR){mv m1 m2:List Mv}{tk k:Nat}{w:List Nat}(V:Vw g o mv m1 m2 tk w.length)(hk:okQ g 0 mv)(e:Ao g o 0 mv=wD w)(hl:tk+k<=w.length) :
 ∃n1 n2 a1 b1,m2=n1++n2/\Vw g o mv (m1++n1) n2 (tk+k) w.length/\w1 g o (w.take (tk+k)) (tk+k+1) (Ah g 0 m1) (Ao g o 0 m1).length []=(Bh g (Ah g 0 m1) n1,Ah g 0 (m1++n1),a1,b1,none)/\onS o a1 b1=(Ao g o 0 (m1++n1)).length:=by
 have hlt:=V.lt hg hk;have hal:=V.a;have hko:=hk;rw[V.e,Fd] at hko;have ewo:wD w=Ao g o 0 m1++Ao g o (Ah g 0 m1) m2:=by rw[<-e,V.e,Ek]
 have elen:(Ao g o 0 m1).length+(Ao g o (Ah g 0 m1) m2).length=w.length:=by
  have:=lu List.length ewo;rw[A3,ue6] at this;exact this.symm
 obtain⟨n1,n2,em,hle,hcut,hw1⟩:=O8 hg ho (w:=w) (tk:=tk+k) hl m2 (Ah g 0 m1) (Ao g o 0 m1).length (tk+k+1) [] hlt hko.2 V.al ⟨Ao g o 0 m1,[],by rw[ui4];exact ewo,rfl⟩ elen (by lia) (by lia);rw[ui8] at hw1;have hal2:=V.al;rw[em,F6] at hal2;have ew1:(Ao g o 0 (m1++n1)).length=(Ao g o 0 m1).length+(Ao g o (Ah g 0 m1) n1).length:=by rw[Ek,ue6]
 refine⟨n1,n2,_,_,em,⟨by rw[uf7,<-em];exact V.e,by rw[B1];exact hal2.2,by rw[ew1];exact hle,hl,by rw[B1,ew1];exact hcut⟩,by rw[B1];exact hw1,?_⟩;rw[Lp,ew1]
structure Vt where
 m1:List Mv
 m2:List Mv
 t:Nat
 w:List Nat
structure Ip where
 kx:Nat
 lx:Nat
 ko:Nat
 lo:Nat
 p:Nat
 U:Nat
def Ip.swap(i:Ip):Ip:=⟨i.ko,i.lo,i.kx,i.lx,i.p,i.U⟩
abbrev paF(x:Str)(kx ko U:Nat):List (Str×D):=[("left",.obj (onS x kx ko)),("right",.obj (onS x ko kx)),("under_way",.obj U)]
structure Pa(g:List GS)(x o:Str)(i:Ip)(S:List Ob)(mv:List Mv)(a b:Vt)(ux uo:Nat):Prop where
 two:Two x o
 ok:okQ g 0 mv
 ex:Ao g x 0 mv=wD a.w
 eo:Ao g o 0 mv=wD b.w
 vx:Vw g o mv a.m1 a.m2 a.t b.w.length
 vo:Vw g x mv b.m1 b.m2 b.t a.w.length
 jp:S[i.p]?=some (.ins "Parley" (paF x i.kx i.ko i.U))
 jU:S[i.U]?=some (.dct (lrF D.obj x ux uo))
 jx:S[ux]?=some (.lst (wD (a.w.drop b.t)))
 jo:S[uo]?=some (.lst (wD (b.w.drop a.t)))
 jX:∃W P,InS S g x o (Ah g 0 a.m1) (Ao g o 0 a.m1).length (b.w.take a.t) i.kx i.lx W P
 jO:∃W P,InS S g o x (Ah g 0 b.m1) (Ao g x 0 b.m1).length (a.w.take b.t) i.ko i.lo W P
 nk:i.kx≠i.ko
 nd:[ux,uo,i.lx,i.lo].Nodup
variable{U:Nat}{ls:List Nat}
section
variable{g:List GS}{x o:Str}{i:Ip}{S S':List Ob}{mv:List Mv}{a b:Vt}{ux uo:Nat}
theorem nd4{a b c d:Nat}(h:[a,b,c,d].Nodup):a≠b/\a≠c/\a≠d/\b≠c/\b≠d/\c≠d:=by
 simp only[ui5,uk3,uh6,lw,lF] at h;exact⟨h.1.1,h.1.2.1,h.1.2.2,h.2.1.1,h.2.1.2,h.2.2.1⟩
theorem mk4{a b c d:Nat}(h:a≠b/\a≠c/\a≠d/\b≠c/\b≠d/\c≠d):[a,b,c,d].Nodup:=by
 simp only[ui5,uk3,uh6,lw,lF];exact⟨⟨h.1,h.2.1,h.2.2.1⟩,⟨h.2.2.2.1,h.2.2.2.2.1⟩,h.2.2.2.2.2,id,List.nodup_nil⟩
theorem Pa.swap(h:Pa g x o i S mv a b ux uo):Pa g o x i.swap S mv b a uo ux:=
 ⟨h.two.swap,h.ok,h.eo,h.ex,h.vo,h.vx,by have:=h.jp;unfold paF at this⊢;rw[<-Jg h.two,<-Jg h.two] at this;exact this,by rw[<-D7 h.two];exact h.jU,h.jo,h.jx,h.jO,h.jX,Ne.symm h.nk,
  mk4 (by clear 5(nd4 h.nd)a1 a2 a3 a4 a5 a6;exact⟨Ne.symm a1,a5,a4,a3,a2,Ne.symm a6⟩)⟩
theorem Pa.ltx(h:Pa g x o i S mv a b ux uo)(hg:GOk g):Ah g 0 a.m1<g.length:=h.vx.lt hg h.ok
theorem Pa.lx(h:Pa g x o i S mv a b ux uo):(Ao g x 0 mv).length=a.w.length:=by rw[h.ex,A3]
def OutP(S:List Ob)(U:Nat)(ls:List Nat)(j:Nat):Prop:=(∃fs,S[j]?=some (.ins "Reader" fs))\/(∃ds,S[j]?=some (.lst ds)/\j∉ls)\/∃kv,S[j]?=some (.dct kv)/\2<=kv.length/\j≠U
theorem Lq{n:Str}{fs:List (Str×D)}(e:S[j]?=some (.ins n fs))(hn:n≠"Reader")(h:OutP S U ls j):False:=by
 rcases h with⟨f,e1⟩|⟨d,e1,_⟩|⟨kv,e1,_,_⟩<;>(rw[e] at e1;cases e1)
 exact hn rfl
theorem Jh(e:S[j]?=some (.lst ds))(hn:j∈ls)(h:OutP S U ls j):False:=by
 rcases h with⟨f,e1⟩|⟨d,e1,n⟩|⟨kv,e1,_,_⟩
 .rw[e] at e1;cases e1
 .exact n hn
 .rw[e] at e1;cases e1
theorem RZ{o:Str}{d:D}(e:S[j]?=some (.dct (d1 o d)))(h:OutP S U ls j):False:=by
 rcases h with⟨f,e1⟩|⟨d,e1,n⟩|⟨kv,e1,h2,_⟩<;>(rw[e] at e1;cases e1)
 exact absurd h2 (by show ¬2<=1;decide)
theorem U9{kv:List (Key×D)}(e:S[U]?=some (.dct kv))(h:OutP S U ls U):False:=by
 rcases h with⟨f,e1⟩|⟨d,e1,n⟩|⟨kv,e1,_,n⟩
 .rw[e] at e1;cases e1
 .rw[e] at e1;cases e1
 .exact n rfl
theorem Ins.out{n:Str}{c:Nat}{k W P:Nat}(R:Ins S n E g x o h c w k l W P)(hn:n≠"Reader")(hl:l∈ls)(K:Kx F S S')(hF:∀j∈F,OutP S U ls j):Ins S' n E g x o h c w k l W P:=
 R.keep K (λz=>Lq R.ik hn (hF _ z)) (λz=>Jh R.il hl (hF _ z)) (λz=>RZ R.iw (hF _ z)) (λz=>RZ R.ip (hF _ z))
theorem Pa.keep(h:Pa g x o i S mv a b ux uo)(K:Kx F S S')(hF:∀j∈F,OutP S i.U [ux,uo,i.lx,i.lo] j):Pa g x o i S' mv a b ux uo:=by
 clear 5 h.jX W P X;clear 5 h.jO W2 P2 O;exact⟨h.two,h.ok,h.ex,h.eo,h.vx,h.vo,K.get (λz=>Lq h.jp (by decide) (hF _ z)) h.jp,K.get (λz=>U9 h.jU (hF _ z)) h.jU,K.get (λz=>Jh h.jx (by simp) (hF _ z)) h.jx,K.get (λz=>Jh h.jo (by simp) (hF _ z)) h.jo,
  ⟨W,P,X.out (by decide) (by simp) K hF⟩,⟨W2,P2,O.out (by decide) (by simp) K hF⟩,h.nk,h.nd⟩
end
section
variable{S:List Ob}{x o:Str}{p kx ko U:Nat}
theorem KF(h:Two x o)(e:S[p]?=some (.ins "Parley" (paF x kx ko U))):PureO S (fnOf 2 2 Ar) [.obj p,.str x] (.obj kx):=by
 refine Al rfl ?_;unfold Ar;rcases h with⟨rfl,rfl⟩|⟨rfl,rfl⟩
 .symm;refine AO e rfl ?_;exact⟨rfl,rfl⟩
 .symm;refine AO e rfl ?_;exact⟨rfl,rfl⟩
end
theorem fb{x:Str}(hx:x=sL\/x=sR)(h:P (.bl true) t):L2.W (inD false (.str x) (.gts ["left", "right"])) t P:=by
 refine⟨_,_,?_,h⟩;rcases hx with rfl|rfl<;>rfl
theorem cH{x:Str}(h:P (.bl true) t):L2.W (inD false (.str x) (.tup [.str x])) t P:=by
 refine⟨_,_,?_,h⟩;simp[inD,KL,Kv,toV,inV,eqV]
theorem bx{x:Str}(hx:x=sL\/x=sR):Pure1 (fnOf 2 2 Bd) [.str x,.gts ["left", "right"]] (.bl true):=by
 intro S;refine Al rfl ?_;unfold Bd;symm;refine fb hx ?_;exact⟨rfl,rfl⟩
theorem one_t{x:Str}:Pure1 (fnOf 2 2 Bd) [.str x,.tup [.str x]] (.bl true):=by
 intro S;refine Al rfl ?_;unfold Bd;symm;refine cH ?_;exact⟨rfl,rfl⟩
theorem Ka{x k:Str}(hx:x=sL\/x=sR)(hn:ds.length+2=n):Pure1 (fnOf 3 3 (BM (fnOf 2 2 Bd))) [.tup (.str k::.str x::ds),.str k,.int n] (.bl true):=by
 intro S;refine Al rfl ?_;unfold BM;symm;refine DT (by simp;lia) ?_;symm;refine one_t.use ?_;symm;refine(bx hx).use ?_;exact⟨rfl,rfl⟩
theorem QG{k:Str}(hn:ds.length≠n):Pure1 (fnOf 3 3 (BM (fnOf 2 2 Bd))) [.tup ds,.str k,.int n] (.bl false):=by
 intro S;refine Al rfl ?_;unfold BM;symm;refine Ev (by simp;lia) ?_;symm;exact⟨rfl,rfl⟩
def Ie(ar:Nat->Str->D->D->List D)(f:Fn):Prop:=∀(S:List Ob) (g:List GS) (x o:Str) (i:Ip) (mv:List Mv) (a b:Vt) (ux uo p:Nat) (v:D) (y:List Nat),GOk g->Pa g x o i S mv a b ux uo->a.m1=mv->MvOk g (Ah g 0 mv) p v->(Av g (Ah g 0 mv)).side=x->mbQ g (Ah g 0 mv) p v=wD y->a.w.length+y.length<=25000->
 Wf f (ar i.p x (.str (wdAt g (Ah g 0 mv) p).1) v) S λr S'=>r=.lst (wD y)/\Kx [i.kx,ux] S S'/\Pa g x o i S' (mv++[(p,v)]) ⟨mv++[(p,v)],[],a.t,a.w++y⟩ ⟨b.m1,b.m2++[(p,v)],b.t,b.w⟩ ux uo
abbrev arS(p:Nat)(x:Str)(n v:D):List D:=[.obj p,.str x,n,v]
abbrev arD(p:Nat)(x:Str)(n v:D):List D:=[.obj p,.tup [.str "say",.str x,n,v]]
def Fh(ar:Nat->Str->D->List D)(f:Fn):Prop:=∀(S:List Ob) (g:List GS) (x o:Str) (i:Ip) (mv:List Mv) (a b:Vt) (ux uo n:Nat),GOk g->Pa g x o i S mv a b ux uo->1<=n->a.t+n<=b.w.length->b.w.length<=25000->
 Wf f (ar i.p x (.int (n:Nat))) S λr S'=>∃n1 n2 uo',a.m2=n1++n2/\r=.lst (Bh g (Ah g 0 a.m1) n1)/\Kx [i.kx,i.lx,i.U] S S'/\S.length<=uo'/\Pa g x o i S' mv ⟨a.m1++n1,n2,a.t+n,a.w⟩ b ux uo'
abbrev SV(p:Nat)(x:Str)(n:D):List D:=[.obj p,.str x,n]
abbrev JF(p:Nat)(x:Str)(n:D):List D:=[.obj p,.tup [.str "take",.str x,n]]
section
variable{cs ct:Fn}
end
theorem aM{xs:List Str}(h:Q (xs.map .str) t):L2.W (DI (.gts xs)) t Q:=⟨_,_,rfl,h⟩
abbrev tpD(p:Str×Str):D:=.tup [.str p.1,.str p.2]
def ifL(b:Bool)(k s:Str):List (Str×Str):=if b=true then [(k,s)] else []
theorem On{k:Str}{bl br:Bool}{e:Option Sl}(hl:L2.W tst ⟨[vw (.str sL),e],S⟩ λb t=>b=bl/\t=⟨[vw (.str sL),e],S⟩)(hr:L2.W tst ⟨[vw (.str sR),e],S⟩ λb t=>b=br/\t=⟨[vw (.str sR),e],S⟩)(z:Option Sl) :
 L2.W (CK (AE 0) tst (AL (Ab (fC (.str k)) (Ab (Aa 0) Ad))) [.str sL,.str sR]) ⟨[z,e],S⟩ λxs t'=>xs=(ifL bl k sL++ifL br k sR).map tpD/\t'.S=S:=by
 have one:∀(z:Option Sl),L2.W (CK (AE 0) tst (AL (Ab (fC (.str k)) (Ab (Aa 0) Ad))) [.str sR]) ⟨[z,e],S⟩ λxs t'=>xs=(ifL br k sR).map tpD/\t'.S=S:=λz=>by
  rw[F4];refine JX ?_;refine hr.mono ?_;rintro b t ⟨rfl,rfl⟩
  cases b with
  |true=>
    rw[lD rfl];symm;refine W_compL_nil.mpr ?_;symm;exact⟨rfl,rfl⟩
  |false=>
    rw[lE (by decide)];exact W_compL_nil.mpr ⟨rfl,rfl⟩
 rw[F4];refine JX ?_;refine hl.mono ?_;rintro b t ⟨rfl,rfl⟩
 cases b with
 |true=>
   rw[lD rfl];symm;refine(one _).mono ?_;rintro xs t ⟨rfl,h⟩;symm;exact⟨rfl,h⟩
 |false=>
   rw[lE (by decide)];refine(one _).mono ?_;rintro xs t ⟨rfl,h⟩;exact⟨rfl,h⟩
theorem EQ{b:Bool}{k:Str}:(ifL b k s).length<=1:=by unfold ifL;split<;>simp
abbrev mayP(sl sr tl tr:Bool):List (Str×Str):=(ifL sl "say" sL++ifL sr "say" sR)++(ifL tl "take" sL++ifL tr "take" sR)
section
variable{g:List GS}{i:Ip}{S:List Ob}{mv:List Mv}{a b:Vt}{ux uo:Nat}
abbrev Cm(g:List GS)(s:Str)(m:List Mv):Bool:=(Av g (Ah g 0 m)).side==s
abbrev B8(w:List Nat)(t:Nat):Bool:=decide (0<(w.drop t).length)
theorem two_lr:Two sL sR:=.inl ⟨rfl,rfl⟩
theorem dZ(h1:Cp co)(hg:GOk g)(h:Pa g sL sR i S mv a b ux uo):PureO S (fnOf 1 3 (D8 co (fnOf 2 2 Ar) (fnOf 1 1 BX))) [.obj i.p] (.lst ((mayP (Cm g sL a.m1) (Cm g sR b.m1) (B8 b.w a.t) (B8 a.w b.t)).map tpD)):=by
 have hL:LIM=100000:=rfl;clear 5 h.jX W P X;clear 5 h.jO W2 P2 O;refine Al rfl ?_;unfold D8;symm;refine aM ?_;refine(On (bl:=Cm g sL a.m1) (br:=Cm g sR b.m1) ?_ ?_ _).mono ?_
 .symm;refine⟨_,_,rfl,h.jp,?_⟩;symm;refine(KF h.two h.jp).mono ?_;rintro r0 S0 ⟨rfl,rfl⟩;refine⟨_,_,rfl,X.ik,W_ret.mpr ?_⟩;refine(YZ (h.ltx hg) X).mono ?_;rintro r0 S0 ⟨rfl,rfl⟩;symm;exact⟨rfl,rfl⟩
 .symm;refine⟨_,_,rfl,h.jp,?_⟩;symm;refine(KF h.swap.two h.swap.jp).mono ?_;rintro r0 S0 ⟨rfl,rfl⟩;refine⟨_,_,rfl,O.ik,W_ret.mpr ?_⟩;refine(YZ (h.swap.ltx hg) O).mono ?_;rintro r0 S0 ⟨rfl,rfl⟩;symm;exact⟨rfl,rfl⟩
 rintro xs t ⟨rfl,hS⟩;have e1:=EQ (b:=Cm g sL a.m1) (k:="say") (s:=sL);have e2:=EQ (b:=Cm g sR b.m1) (k:="say") (s:=sR);have e3:=EQ (b:=B8 b.w a.t) (k:="take") (s:=sL);have e4:=EQ (b:=B8 a.w b.t) (k:="take") (s:=sR);refine BI (by rw[ui2,ue6,hL];lia) ?_;rw[hS];symm;refine aM ?_;refine(On (bl:=B8 b.w a.t) (br:=B8 a.w b.t) ?_ ?_ _).mono ?_
 .symm;refine AO h.jp rfl ?_;symm;refine(h1 _ _ h.two).use ?_;symm;refine Aw h.jU (BF h.two) ?_;symm;refine GR h.jo ?_;symm;rw[A3];exact⟨by simp,rfl⟩
 .symm;refine AO h.jp rfl ?_;symm;refine(h1 _ _ h.two.swap).use ?_;symm;refine Aw h.jU (BW h.two.x) ?_;symm;refine GR h.jx ?_;symm;rw[A3];exact⟨by simp,rfl⟩
 rintro xs t ⟨rfl,hS⟩;refine BI (by rw[ui2,ue6,hL];lia) ?_;rw[hS];symm;refine BI (by rw[ui2,ui2,ue6,ue6,hL];lia) ?_;exact⟨by rw[<-uj2],rfl⟩
theorem R6(h:Pa g sL sR i S mv a b ux uo):PureO S (fnOf 1 1 BD) [.obj i.p] (.tup [.int ((a.w.drop b.t).length:Nat),.int ((b.w.drop a.t).length:Nat)]):=by
 refine Al rfl ?_;unfold BD;symm;refine AO h.jp rfl ?_;symm;refine Aw h.jU (BW h.two.x) ?_;symm;refine GR h.jx ?_;symm;refine AO h.jp rfl ?_;symm;refine Aw h.jU (BF h.two) ?_;symm;refine GR h.jo ?_;symm;rw[A3,A3];exact⟨rfl,rfl⟩
theorem WU(h:Pa g sL sR i S mv a b ux uo):PureO S (fnOf 1 1 (CZ (fnOf 1 1 CD))) [.obj i.p] (.tup [.int (Ah g 0 a.m1:Nat),.int (Ah g 0 b.m1:Nat)]):=by
 clear 5 h.jX W P X;clear 5 h.jO W2 P2 O;refine Al rfl ?_;unfold CZ;symm;refine AO h.jp rfl ?_;refine⟨_,_,rfl,X.ik,W_ret.mpr ?_⟩;refine(Sv X).mono ?_;rintro r0 S0 ⟨rfl,rfl⟩;symm;refine AO h.jp rfl ?_;refine⟨_,_,rfl,O.ik,W_ret.mpr ?_⟩;refine(Sv O).mono ?_;rintro r0 S0 ⟨rfl,rfl⟩;symm;exact⟨rfl,rfl⟩
theorem bI(h1:Cp co)(he:EK ce)(hg:GOk g)(h:Pa g sL sR i S mv a b ux uo)(ea:a.m1=mv)(eb:b.m1=mv)(ta:a.t=b.w.length)(tb:b.t=a.w.length):PureO S (fnOf 1 3 (By (fnOf 1 1 BD) (fnOf 1 1 (BG co (fnOf 2 2 Bx))) (fnOf 1 1 (Bt ce)))) [.obj i.p] (.bl (Av g (Ah g 0 mv)).isFin):=by
 clear 5 h.jX W P X;clear 5 h.jO W2 P2 O;have eX:=M8 he hg (h.ltx hg) X;have eO:=M8 he hg (h.swap.ltx hg) O;have wX:=Jq h1 h.two X;have wO:=Jq h1 h.two.swap O;have hly:=R6 h;have z1:((b.w.take a.t).length:Int)-((Ao g sR 0 a.m1).length:Int)=0:=by rw[ea,h.eo,A3,ta,List.take_length,Int.sub_self]
 have z2:((a.w.take b.t).length:Int)-((Ao g sL 0 b.m1).length:Int)=0:=by rw[eb,h.ex,A3,tb,List.take_length,Int.sub_self]
 rw[z1] at wX;rw[z2] at wO;rw[tb,ta,uh2,uh2] at hly;rw[ea] at eX;rw[eb] at eO;refine Al rfl ?_;unfold By;symm;refine AO h.jp rfl ?_;refine⟨_,_,rfl,X.ik,W_ret.mpr ?_⟩;refine eX.mono ?_;rintro r0 S0 ⟨rfl,rfl⟩
 cases hf:(Av g (Ah g 0 mv)).isFin with
 |false=>
   symm;refine AO h.jp rfl ?_;refine⟨_,_,rfl,X.ik,W_ret.mpr ?_⟩;refine wX.mono ?_;rintro r0 S1 ⟨rfl,rfl⟩;symm;refine AO h.jp rfl ?_;refine⟨_,_,rfl,O.ik,W_ret.mpr ?_⟩;refine wO.mono ?_;rintro r0 S1 ⟨rfl,rfl⟩;symm;exact⟨rfl,rfl⟩
 |true=>
   symm;refine AO h.jp rfl ?_;refine⟨_,_,rfl,O.ik,W_ret.mpr ?_⟩;refine eO.mono ?_;rintro r0 S1 ⟨rfl,rfl⟩;rw[hf];symm;refine AO h.jp rfl ?_;refine⟨_,_,rfl,X.ik,W_ret.mpr ?_⟩;refine wX.mono ?_;rintro r0 S1 ⟨rfl,rfl⟩;symm;refine AO h.jp rfl ?_;refine⟨_,_,rfl,O.ik,W_ret.mpr ?_⟩;refine wO.mono ?_;rintro r0 S1 ⟨rfl,rfl⟩;symm;refine⟨_,_,rfl,h.jp,W_ret.mpr ?_⟩;refine hly.mono ?_;rintro r0 S1 ⟨rfl,rfl⟩;symm;refine DP rfl (by decide +kernel) ?_;exact⟨rfl,rfl⟩
end
inductive GRn(N:Nat)(S:List Ob):List D->List GS->Prop
 |nil:GRn N S [] []
 |fin {ds:List D}{g:List GS}:GRn N S ds g->GRn N S (.tup [.str (Str.ofString "end")]::ds) (.fin::g)
 |st {j:Nat}{side:Str}{ws:List (Str×Sh×Int)}{ds:List D}{g:List GS}:S[j]?=some (.lst (ws.map wdD))->N<=j->GRn N S ds g->GRn N S (.tup [.str side,.obj j]::ds) (.st side ws::g)
theorem GRn.gr{N:Nat}{S S':List Ob}(G:Gr S S'):∀{ds:List D}{g:List GS},GRn N S ds g->GRn N S' ds g
 |_,_,.nil=>.nil
 |_,_,.fin h=>.fin (GRn.gr G h)
 |_,_,.st e l h=>.st (G.get e) l (GRn.gr G h)
theorem GRn.length{N:Nat}{S:List Ob}:∀{ds:List D}{g:List GS},GRn N S ds g->ds.length=g.length
 |_,_,.nil=>rfl
 |_,_,.fin h=>by rw[ug5,ug5,GRn.length h]
 |_,_,.st e l h=>by rw[ug5,ug5,GRn.length h]
theorem YL{side:Str}(hs:side=sL\/side=sR)(d:D)(S:List Ob):PureS S (fnOf 1 1 Eb) [.tup [.str side,d]] (.bl false):=by
 refine Al rfl ?_;unfold Eb;symm;refine⟨?_,rfl⟩;rcases hs with rfl|rfl<;>exact lu D.bl (by decide)
theorem Hy{gd:Gd}{S:List Ob}{n:Int}{N:Nat}(hg:Gon gd S):∀{ds:List D}{xs:List GS} (z:Option Sl),GRn N S ds xs->(∀x∈xs,GSOk n x)->L2.W (compG gd (AE 0) G7 (fIf (Am (Ak (fnOf 1 1 Eb) (Ab (Aa 0) Ad))) (Aa 0) (AL (Ab (Ac (Aa 0) (ia 0) ixD) (Ab (Au (fBF (Ab (Ac (Aa 0) (ia 1) ixD) Ad) Gp)) Ad)))) ds) ⟨[z],S⟩ λrs t'=>rs=xs.map GS.d/\t'.S=S
 |_,_,z,.nil,_=>Ju hg ⟨rfl,rfl⟩
 |_,_,z,.fin q,h=>by
   refine F3 hg ?_;refine JX ?_;symm;rw[lD rfl];symm;refine(L4 n .fin .fin S).mono ?_;rintro r S' ⟨rfl,rfl⟩;rw[GS.isFin];symm;exact(Hy hg _ q λy m=>h y (ud1 _ m)).mono λds t' ⟨e1,e2⟩=>⟨by rw[e1];rfl,e2⟩
 |_,_,z,@GRn.st _ _ j side ws ds g e l q,h=>by
   have hs:side=sL\/side=sR:=by cases h _ ue2 with|st h1 _ _ _ _=>exact h1
   refine F3 hg ?_;refine JX ?_;symm;rw[lD rfl];symm;refine(YL hs (.obj j) S).use ?_;symm;refine cM e ?_;symm;exact(Hy hg _ q λy m=>h y (ud1 _ m)).mono λds t' ⟨e1,e2⟩=>⟨by rw[e1];rfl,e2⟩
def XO(f:Fn):Prop:=∀(g:List GS) (S:List Ob) (G N:Nat) (ds:List D),GOk g->S[G]?=some (.lst ds)->GRn N S ds g->PureS S f [.obj G] (.lst (g.map GS.d))
theorem Ra:XO (fnOf 1 1 (De (fnOf 1 1 Eb))):=by
 intro g S G N ds hg hG hgr;have hL:LIM=100000:=rfl;refine Al rfl ?_;unfold De;symm;refine SI ?_;refine UP ?_;symm;refine Qq hG ?_;refine(Hy (JN hG) none hgr hg.all).mono λxs t' z9=>?_;clear 5 z9 e1 e2;subst e1;have:=hg.le;refine BI (by rw[ui2,hL];lia) ?_;symm;exact⟨rfl,e2⟩
theorem YJ{n:Str}{k:Nat}{o:Str}{d:D}(hc:PureS S c [d] (.lst (g.map GS.d)))(hk:S[k]?=some (.ins n [])):Wf (fnOf 3 4 (Cq c)) [.obj k,d,.tup [.str o]] S λr S'=>r=.non/\∃W P l,HeaG n S S' k W P l o (heF g W P):=by
 have hkl:=Bm hk;refine Al rfl ?_;unfold Cq;symm;refine hc.use ?_;symm;refine CJ hk (by show 0<1000;decide) ?_;have k1:Kp k S (S.set k (.ins n [("grammar",.lst (g.map GS.d))])):=Kp.refl.setk;have g1:(S.set k (.ins n [("grammar",.lst (g.map GS.d))]))[k]?=some (.ins n [("grammar",.lst (g.map GS.d))]):=A7 hk;show Ei _ _ Out.next ⟨_,S.set k (.ins n [("grammar",.lst (g.map GS.d))])⟩;generalize S.set k (.ins n [("grammar",.lst (g.map GS.d))])=S1 at k1 g1⊢;symm;refine CJ g1 (by show 1<1000;decide) ?_;have k2:Kp k S (S1.set k (.ins n [("grammar",.lst (g.map GS.d)),("standing",.int (0:Nat))])):=k1.setk;have g2:(S1.set k (.ins n [("grammar",.lst (g.map GS.d)),("standing",.int (0:Nat))]))[k]?=some (.ins n [("grammar",.lst (g.map GS.d)),("standing",.int (0:Nat))]):=A7 g1;show Ei _ _ Out.next ⟨_,S1.set k (.ins n [("grammar",.lst (g.map GS.d)),("standing",.int (0:Nat))])⟩;generalize S1.set k (.ins n [("grammar",.lst (g.map GS.d)),("standing",.int (0:Nat))])=S2 at k2 g2⊢;symm;refine CJ (Bl g2) (by show 2<1000;decide) ?_;obtain⟨W,hW⟩:∃W,W=S2.length:=⟨_,rfl⟩;have w3:((S2++[Ob.dct []]).set k (.ins n [("grammar",.lst (g.map GS.d)),("standing",.int (0:Nat)),("wires",.obj W)]))[W]?=some (.dct []):=by rw[hW];exact Ae CP (ul6 (Bm g2))
 have k3:Kp k S ((S2++[Ob.dct []]).set k (.ins n [("grammar",.lst (g.map GS.d)),("standing",.int (0:Nat)),("wires",.obj W)])):=k2.app.setk;have g3:((S2++[Ob.dct []]).set k (.ins n [("grammar",.lst (g.map GS.d)),("standing",.int (0:Nat)),("wires",.obj W)]))[k]?=some (.ins n [("grammar",.lst (g.map GS.d)),("standing",.int (0:Nat)),("wires",.obj W)]):=A7 (Bl g2);have hSW:S.length<=W:=by rw[hW];exact k2.1
 show Ei _ _ Out.next ⟨_,(S2++[Ob.dct []]).set k (.ins n [("grammar",.lst (g.map GS.d)),("standing",.int (0:Nat)),("wires",.obj S2.length)])⟩;rw[<-hW];generalize (S2++[Ob.dct []]).set k (.ins n [("grammar",.lst (g.map GS.d)),("standing",.int (0:Nat)),("wires",.obj W)])=S3 at w3 k3 g3⊢;symm;refine CJ (Bl g3) (by show 3<1000;decide) ?_;obtain⟨P,hP⟩:∃P,P=S3.length:=⟨_,rfl⟩;have w4:((S3++[Ob.dct []]).set k (.ins n (heF g W P)))[W]?=some (.dct []):=Ae (Bl w3) (Ag g3 w3 (by simp));have p4:((S3++[Ob.dct []]).set k (.ins n (heF g W P)))[P]?=some (.dct []):=by rw[hP];exact Ae CP (ul6 (Bm g3))
 have k4:Kp k S ((S3++[Ob.dct []]).set k (.ins n (heF g W P))):=k3.app.setk;have g4:((S3++[Ob.dct []]).set k (.ins n (heF g W P)))[k]?=some (.ins n (heF g W P)):=A7 (Bl g3);have hWP:W<P:=by rw[hP];exact Bm w3
 show Ei _ _ Out.next ⟨_,(S3++[Ob.dct []]).set k (.ins n (heF g W S3.length))⟩;rw[<-hP];generalize (S3++[Ob.dct []]).set k (.ins n (heF g W P))=S4 at w4 p4 k4 g4⊢;symm;have hWk:W≠k:=λe=>by subst e;lia
 have hPk:P≠k:=λe=>by subst e;lia
 refine W_forL_cons.mpr ?_;symm;refine AO (Bl g4) rfl ?_;symm;refine Cy (Bl w4) (by show 0<100000;decide) ?_;obtain⟨l,hl⟩:∃l,l=S4.length:=⟨_,rfl⟩;have hlk:k<l:=by rw[hl];exact Bm g4
 have hlW:W<l:=by rw[hl];exact Bm w4
 have hlP:P<l:=by rw[hl];exact Bm p4
 have k5:Kp k S ((S4++[Ob.lst []]).set W (.dct (d1 o (.obj l)))):=k4.app.set hSW;have g5:((S4++[Ob.lst []]).set W (.dct (d1 o (.obj l))))[k]?=some (.ins n (heF g W P)):=Ae (Bl g4) hWk;have w5:((S4++[Ob.lst []]).set W (.dct (d1 o (.obj l))))[W]?=some (.dct (d1 o (.obj l))):=A7 (Bl w4);have p5:((S4++[Ob.lst []]).set W (.dct (d1 o (.obj l))))[P]?=some (.dct []):=Ae (Bl p4) (by lia);have l5:((S4++[Ob.lst []]).set W (.dct (d1 o (.obj l))))[l]?=some (.lst []):=by rw[hl];exact Ae CP (by lia)
 show Ei _ _ Out.next ⟨_,(S4++[Ob.lst []]).set W (.dct (d1 o (.obj S4.length)))⟩;rw[<-hl];generalize (S4++[Ob.lst []]).set W (.dct (d1 o (.obj l)))=S5 at k5 g5 w5 p5 l5⊢;symm;refine AO g5 rfl ?_;symm;refine Cy p5 (by show 0<100000;decide) ?_;show L2.W (C8 _ _ []) ⟨_,S5.set P (.dct (d1 o (.int (0:Nat))))⟩ _;refine W_forL_nil.mpr ?_;exact⟨rfl,W,P,l,k5.set (by lia),Ae g5 hPk,Ae w5 (by lia),A7 p5,Ae l5 (by lia),hSW,by lia,by lia⟩
theorem Sq{n:Str}{k:Nat}{x o:Str}{d:D}(h1:Cp co)(ho:Two x o)(hc:PureS S c [d] (.lst (g.map GS.d)))(hk:S[k]?=some (.ins n [])):Wf (fnOf 3 3 (DJ co (fnOf 3 4 (Cq c)))) [.obj k,d,.str x] S λr S'=>r=.non/\∃W P l,HeaG n S S' k W P l o (bsF g x 0 W P []):=by
 refine Al rfl ?_;unfold DJ;symm;refine(h1 x o ho).use ?_;symm;refine(YJ (o:=o) hc hk).mono λr S' z9=>?_;clear 5 z9 e W P l R;subst e;symm;refine CJ R.ik (by show 4<1000;decide) ?_;symm;exact⟨rfl,W,P,l,R.put⟩
def MJ(f:Fn):Prop:=∀(S:List Ob) (g:List GS) (x o:Str) (h a:Nat) (w y:List Nat) (k l W P p:Nat) (v:D),GOk g->MvOk g h p v->(Av g h).side=x->mbQ g h p v=wD y->y.length<=25000->InS S g x o h a w k l W P->
 Wf f [.obj k,.str (wdAt g h p).1,v] S λr S'=>r=.lst (wD y)/\Kx [k] S S'/\InS S' g x o (nextQ g h p) a w k l W P
theorem Su(hm:Pe cm)(hn:MF cn)(hp:JC cp):MJ (fnOf 3 5 (D9 cm cn cp)):=by
 intro S g x o h a w y k l W P p v hg hv hx hy hl R;refine Al rfl ?_;unfold D9;have hpl:=hp g h p v hg hv;unfold Fc at hpl;rw[hx] at hpl;have hyl:(AI (wdAt g h p).2.1 v).length+1=y.length:=by
  have:=lu List.length hy;rw[ug5,A3] at this;exact this
 symm;refine AO R.ik rfl ?_;symm;refine AO R.ik rfl ?_;symm;refine BR (C9 hv.lt) ?_;symm;refine AO R.ik rfl ?_;symm;refine hpl.use ?_;symm;refine AO R.ik rfl ?_;symm;refine AO R.ik rfl ?_;symm;refine(hn g h p hg hv.lt hv.pl).use ?_;symm;refine CJ R.ik R.fl ?_;symm;refine(hm g h p v hg hv (by lia)).use ?_;symm;exact⟨rfl,by rw[<-hy],Kx.refl.set (by simp),R.put R.ip R.el⟩
theorem W7(hc:MJ c):MJ (fnOf 3 3 (DK c)):=by
 intro S g x o h a w y k l W P p v hg hv hx hy hl R;refine Al rfl ?_;unfold DK;symm;refine⟨k,_,rfl,R.ik,?_⟩;symm;refine(hc S g x o h a w y k l W P p v hg hv hx hy hl R).mono λr S' z=>?_;clear 5 z rfl z;symm;exact⟨rfl,z⟩
def KW(f:Fn):Prop:=∀(g:List GS) (q:Nat) (x nm:Str) (v:D) (S:List Ob),GOk g->q<g.length->(x=sL\/x=sR)->okD v=true->Nop g q x nm v->PureO S f [(Av g q).d,.tup [.str x,.str nm,v]] .non
theorem Qc{cf:Fn}(hf:FZ cf 3)(hp:Hn cp):KW (fnOf 2 3 (Ed cf cp)):=by
 intro g q x nm d S hg hq hx htm hN;have hgs:=Dg hg hq;refine Al rfl ?_;unfold Ed;unfold Nop at hN
 cases e:Av g q with
 |fin=>
   rw[GS.d];right;refine Ev (by rcases hx with rfl|rfl<;>decide) ?_;right;exact⟨rfl,rfl⟩
 |st side ws=>
   rw[e] at hgs hN;dsimp only at hN;show L2.W _ ⟨[vw (.tup [.str side,.lst (ws.map wdD)]),vw (.tup [.str x,.str nm,d]),none],S⟩ _
   by_cases hxs:x=side
   .subst hxs;have hN:=hN.resolve_left (λz=>z rfl);right;refine DT (by simp) ?_;right;have hpn:=hp g.length (.st x ws) nm hgs;rw[show(GS.st x ws).ws=ws from rfl] at hpn;refine hpn.use ?_
    cases ei:ws.findIdx? (λw=>w.1==nm) with
    |none=>
      right;exact⟨rfl,rfl⟩
    |some p=>
      rw[ei] at hN;have hpl:p<ws.length:=by
       rw[ua0] at ei;exact ei.1
      have ew:ws[p]?=some ws[p]:=ub3 hpl;have hwo:WOk g.length ws[p]:=by cases hgs with|st _ _ _ _ h5=>exact h5 _ (uh7 hpl)
      show Ei _ _ .next ⟨[vw (.tup [.str x,.lst (ws.map wdD)]),vw (.tup [.str x,.str nm,d]),vw (.int p)],S⟩;right;refine BR (GF ew) ?_;unfold wdD;right;refine(hf _ hwo.dep _ htm).use ?_;rw[hN _ ew];right;exact⟨rfl,rfl⟩
   .right;refine Ev (by simp[hxs]) ?_;right;exact⟨rfl,rfl⟩
def FK(f:Fn):Prop:=∀(S:List Ob) (g:List GS) (x o:Str) (h a:Nat) (w:List Nat) (k l W P:Nat) (nm:Str) (v:D),GOk g->h<g.length->Two x o->okD v=true->Nop g h x nm v->InS S g x o h a w k l W P->PureO S f [.obj k,.str nm,v] (.exc "NoTalk" [.int 0])
theorem Qm(hp:KW cp):FK (fnOf 3 5 (D9 cm cn cp)):=by
 intro S g x o h a w k l W P nm v hg hh ho htm hN R;refine Al rfl ?_;unfold D9;symm;refine AO R.ik rfl ?_;symm;refine AO R.ik rfl ?_;symm;refine BR (C9 hh) ?_;symm;refine AO R.ik rfl ?_;symm;refine(hp g h x nm v S hg hh ho.x htm hN).use ?_;symm;exact⟨rfl,rfl⟩
theorem Ut(hc:FK c):FK (fnOf 3 3 (DK c)):=by
 intro S g x o h a w k l W P nm v hg hh ho htm hN R;refine Al rfl ?_;unfold DK;symm;refine⟨k,_,rfl,R.ik,?_⟩;symm;refine(hc S g x o h a w k l W P nm v hg hh ho htm hN R).use ?_;symm;exact⟨rfl,rfl⟩
theorem bL{cs:Fn}(hs:MJ cs):Ie arS (fnOf 4 5 (AH (fnOf 2 2 Ar) cs)):=by
 intro S g x o i mv a b ux uo p v y hg h hm1 hm hsd hy hyl;have hL:LIM=100000:=rfl;clear 5 h.jX W P X;clear 5 h.jO W2 P2 O;clear 5(nd4 h.nd)a1 a2 a3 a4 a5 a6;have hto:=h.vo.t;have hne:¬(Av g (Ah g 0 mv)).side=o:=λq=>h.two.ne (hsd.symm.trans q);have hm2:a.m2=[]:=h.vx.all (by rw[hm1];exact hsd) h.two.ne;refine Al rfl ?_;unfold AH;symm;refine⟨_,_,rfl,h.jp,?_⟩;symm;refine(KF h.two h.jp).mono ?_;rintro r0 S0 ⟨rfl,rfl⟩;refine⟨_,_,rfl,X.ik,?_⟩;symm;rw[hm1] at X;refine(hs S0 g x o _ _ _ y _ _ _ _ p v hg hm hsd hy (by lia) X).mono ?_;rintro r S1 ⟨rfl,K1,X1⟩;have kp:∀{j:Nat}{ob:Ob},S0[j]?=some ob->j≠i.kx->S1[j]?=some ob:=λe n=>K1.get (by simpa using n) e;have p1:=kp h.jp (Ag h.jp X.ik (by intro z;injection z with z;revert z;decide));have u1:=kp h.jU (Ag h.jU X.ik (by simp));have x1:=kp h.jx (Ag h.jx X.ik (by simp));have o1:=kp h.jo (Ag h.jo X.ik (by simp));have O1:InS S1 g o x (Ah g 0 b.m1) (Ao g x 0 b.m1).length (a.w.take b.t) i.ko i.lo W2 P2:=⟨kp O.ik (Ne.symm h.nk),kp O.iw (Ag O.iw X.ik (by simp)),kp O.ip (Ag O.ip X.ik (by simp)),kp O.il (Ag O.il X.ik (by simp)),O.el⟩;symm;refine HS (k:=ux) ?_;symm;refine AO p1 rfl ?_;symm;refine Aw u1 (BW h.two.x) ?_;refine⟨rfl,_,x1,?_⟩;symm;have ed:wD ((a.w++y).drop b.t)=wD (a.w.drop b.t)++wD y:=by rw[ua3 hto,KR]
 refine⟨_,wD ((a.w++y).drop b.t),x1,by rw[ed];simp only[EV];rw[lD (by rw[A3,A3,ug8,hL];lia)],?_⟩;symm;have ewx:Ao g x 0 (mv++[(p,v)])=wD (a.w++y):=by rw[N2 hsd,h.ex,KR,hy]
 have st:∀{j:Nat}{ob:Ob},S1[j]?=some ob->j≠ux->(S1.set ux (.lst (wD ((a.w++y).drop b.t))))[j]?=some ob:=λe n=>Ae e (Ne.symm n);refine⟨rfl,rfl,(K1.sub (by simp)).set (by simp),h.two,(Fd g 0 mv [(p,v)]).mpr ⟨h.ok,hm,trivial⟩,ewx,by rw[HV hne];exact h.eo,?_,?_,st p1 (Ag p1 x1 (by simp)),st u1 (Ag u1 x1 (by simp)),A7 x1,st o1 (Ne.symm a1),?_,?_,h.nk,h.nd⟩
 .have:=h.vx;rw[hm1,hm2] at this;exact this.own hne
 .show Vw g x (mv++[(p,v)]) b.m1 (b.m2++[(p,v)]) b.t (a.w++y).length;have:=h.vo.say (p:=p) (v:=v) h.lx hsd;rw[hy,A3] at this;rw[ue6];exact this
 .refine⟨W,P,?_⟩;show InS _ g x o (Ah g 0 (mv++[(p,v)])) (Ao g o 0 (mv++[(p,v)])).length (b.w.take a.t) _ _ _ _;rw[B1,HV hne];exact X1.setL x1 a2
 .refine⟨W2,P2,?_⟩;show InS _ g o x (Ah g 0 b.m1) (Ao g x 0 b.m1).length ((a.w++y).take b.t) _ _ _ _;rw[ua4 hto];exact O1.setL x1 a3
theorem ZJ(ht:FL arT ct)(h1:Cp co)(hw:C5 cw):Fh SV (fnOf 3 5 (AF co (fnOf 2 2 Ar) ct cw)):=by
 intro S g x o i mv a b ux uo n hg h hn hnl hbl;have hL:LIM=100000:=rfl;clear 5 h.jX W P X;clear 5 h.jO W2 P2 O;clear 5(nd4 h.nd)a1 a2 a3 a4 a5 a6;have hlt:=h.ltx hg;have hal:=h.vx.a;clear 5(h.vx.take (k:=n) hg h.two.o h.ok h.eo hnl)n1 n2 c1 c2 em V hw1 hon;have htk:b.w.take a.t++(b.w.drop a.t).take n=b.w.take (a.t+n):=(List.take_add).symm;have hdr:(b.w.drop a.t).drop n=b.w.drop (a.t+n):=List.drop_drop;have hln:(b.w.take (a.t+n)).length=a.t+n:=by rw[ug7];lia
 refine Al rfl ?_;unfold AF;symm;refine AO h.jp rfl ?_;symm;refine(h1 x o h.two).use ?_;symm;refine Aw h.jU (BF h.two) ?_;symm;refine GR h.jo ?_;symm;refine(hw (.int (n:Nat)) 1 _ rfl).use ?_;rw[show DR 1 ((wD (b.w.drop a.t)).length:Int) (.int (n:Nat))=true by rw[A3,ug8];simp only[DR,ug9,ug2];lia];symm;refine⟨_,_,rfl,h.jp,?_⟩;symm;refine(KF h.two h.jp).mono ?_;rintro r0 S0 ⟨rfl,rfl⟩;refine⟨_,_,rfl,X.ik,?_⟩;symm;refine aP h.jo ?_;rw[Ye];symm;refine(ht S0 g x o _ _ _ ((b.w.drop a.t).take n) _ _ _ _ _ _ c1 c2 hg h.two hlt (by rw[ug7];lia) (by rw[htk,hln];lia) (by rw[htk,hln];exact hw1) X).mono ?_;rintro r S1 ⟨rfl,K1,P1,_,X1⟩;rw[hon,htk] at X1;have kp:∀{j:Nat}{ob:Ob},S0[j]?=some ob->j≠i.kx->j≠i.lx->S1[j]?=some ob:=λe n m=>K1.get (by simpa using ⟨n,m⟩) e;have p1:=kp h.jp (Ag h.jp X.ik (by intro z;injection z with z;revert z;decide)) (Ag h.jp X.il (by simp));have u1:=kp h.jU (Ag h.jU X.ik (by simp)) (Ag h.jU X.il (by simp));have x1:=kp h.jx (Ag h.jx X.ik (by simp)) a2;have o1:=kp h.jo (Ag h.jo X.ik (by simp)) a4;have O1:InS S1 g o x (Ah g 0 b.m1) (Ao g x 0 b.m1).length (a.w.take b.t) i.ko i.lo W2 P2:=⟨kp O.ik (Ne.symm h.nk) (Ag O.ik X.il (by simp)),kp O.iw (Ag O.iw X.ik (by simp)) (Ag O.iw X.il (by simp)),kp O.ip (Ag O.ip X.ik (by simp)) (Ag O.ip X.il (by simp)),kp O.il (Ag O.il X.ik (by simp)) (Ne.symm a6),O.el⟩;have hln1:=K1.1;symm;refine cZ ?_;symm;refine c6 o1 ?_;rw[QP,hdr];symm;refine AO (Bl p1) rfl ?_;symm;refine(h1 x o h.two).use ?_;symm;refine Cy (Bl u1) (by show 2<100000;decide) ?_;rw[Nq (F:=D.obj) h.two];have hUl:=Bm u1;have e0:∀{j:Nat}{ob:Ob},S1[j]?=some ob->j≠i.U->((S1++[Ob.lst (wD (b.w.drop (a.t+n)))]).set i.U (.dct (lrF D.obj x ux S1.length)))[j]?=some ob:=λe n=>Ae (Bl e) (Ne.symm n);have K2:Kx [i.kx,i.lx,i.U] S0 ((S1++[Ob.lst (wD (b.w.drop (a.t+n)))]).set i.U (.dct (lrF D.obj x ux S1.length))):=((K1.sub (by simp)).gr Gr.app).set (by simp);have x2:=e0 x1 (Ag x1 u1 (by simp));have hxl:=Bm x1;have hll:=Bm X1.il;have hol:=Bm O1.il;symm;refine⟨rfl,n1,n2,S1.length,em,rfl,K2,hln1,h.two,h.ok,h.ex,h.eo,V,h.vo,e0 p1 (Ag p1 u1 (by simp)),A7 (Bl u1),x2,Ae CP (by lia),?_,?_,h.nk,mk4 ⟨by lia,a2,a3,by lia,by lia,a6⟩⟩
 .exact⟨W,P1,e0 X1.ik (Ag X1.ik u1 (by simp)),e0 X1.iw (Ag X1.iw u1 (by simp)),e0 X1.ip (Ag X1.ip u1 (by simp)),e0 X1.il (Ag X1.il u1 (by simp)),X1.el⟩
 .exact⟨W2,P2,e0 O1.ik (Ag O1.ik u1 (by simp)),e0 O1.iw (Ag O1.iw u1 (by simp)),e0 O1.ip (Ag O1.ip u1 (by simp)),e0 O1.il (Ag O1.il u1 (by simp)),O1.el⟩
section
variable{cs ct:Fn}
theorem bz(hs:Ie arS cs):Ie arD (fnOf 2 2 (A6 (fnOf 3 3 (BM (fnOf 2 2 Bd))) ct cs)):=by
 intro S g x o i mv a b ux uo p v y hg h hm1 hm hsd hy hyl;refine Al rfl ?_;unfold A6;symm;refine(Ka (k:="say") (ds:=[_,_]) (n:=4) h.two.x rfl).use ?_;symm;refine⟨_,_,rfl,h.jp,?_⟩;symm;exact hs S g x o i mv a b ux uo p v y hg h hm1 hm hsd hy hyl
theorem bA(ht:Fh SV ct):Fh JF (fnOf 2 2 (A6 (fnOf 3 3 (BM (fnOf 2 2 Bd))) ct cs)):=by
 intro S g x o i mv a b ux uo n hg h hn hnl hbl;refine Al rfl ?_;unfold A6;symm;refine(QG (k:="say") (n:=4) (ds:=[.str "take",.str x,.int (n:Nat)]) (by show(3:Nat)≠4;decide)).use ?_;symm;refine(Ka (k:="take") (ds:=[.int (n:Nat)]) (n:=3) h.two.x rfl).use ?_;symm;refine⟨_,_,rfl,h.jp,?_⟩;symm;exact ht S g x o i mv a b ux uo n hg h hn hnl hbl
end
section
variable{g:List GS}{x o:Str}{i:Ip}{S:List Ob}{mv:List Mv}{a b:Vt}{ux uo:Nat}
theorem ZE{cs:Fn}(hs:FK cs)(hg:GOk g)(h:Pa g x o i S mv a b ux uo){nm:Str}{v:D}(hv:okD v=true)(hn:Nop g (Ah g 0 a.m1) x nm v):PureO S (fnOf 2 2 (A6 (fnOf 3 3 (BM (fnOf 2 2 Bd))) ct (fnOf 4 5 (AH (fnOf 2 2 Ar) cs)))) [.obj i.p,.tup [.str "say",.str x,.str nm,v]] (.exc "NoTalk" [.int 0]):=by
 clear 5 h.jX W P X;refine Al rfl ?_;unfold A6;symm;refine(Ka (k:="say") (ds:=[_,_]) (n:=4) h.two.x rfl).use ?_;symm;refine⟨_,_,rfl,h.jp,?_⟩;symm;refine Al rfl ?_;unfold AH;symm;refine⟨_,_,rfl,h.jp,?_⟩;symm;refine(KF h.two h.jp).mono ?_;rintro r0 S0 ⟨rfl,rfl⟩;refine⟨_,_,rfl,X.ik,?_⟩;symm;refine(hs S0 g x o _ _ _ _ _ _ _ nm v hg (h.ltx hg) h.two hv hn X).use ?_;symm;exact⟨rfl,rfl⟩
theorem d4{cs:Fn}(h1:Cp co)(hw:C5 cw)(h:Pa g x o i S mv a b ux uo){n:Int}(hn:((b.w.drop a.t).length:Int)<n):PureO S (fnOf 2 2 (A6 (fnOf 3 3 (BM (fnOf 2 2 Bd))) (fnOf 3 5 (AF co (fnOf 2 2 Ar) ct cw)) cs)) [.obj i.p,.tup [.str "take",.str x,.int n]] (.exc "NoRow" []):=by
 refine Al rfl ?_;unfold A6;symm;refine(QG (k:="say") (n:=4) (ds:=[.str "take",.str x,.int n]) (by show(3:Nat)≠4;decide)).use ?_;symm;refine(Ka (k:="take") (ds:=[.int n]) (n:=3) h.two.x rfl).use ?_;symm;refine⟨_,_,rfl,h.jp,?_⟩;symm;refine Al rfl ?_;unfold AF;symm;refine AO h.jp rfl ?_;symm;refine(h1 x o h.two).use ?_;symm;refine Aw h.jU (BF h.two) ?_;symm;refine GR h.jo ?_;symm;refine(hw (.int n) 1 _ rfl).use ?_;rw[show DR 1 ((wD (b.w.drop a.t)).length:Int) (.int n)=false by rw[A3];simp only[DR,ki,ju];exact .inr (by lia)];symm;exact⟨rfl,rfl⟩
theorem Pa.fin(h:Pa g x o i S mv a b ux uo)(hf:(Av g (Ah g 0 a.m1)).isFin=true):a.m1=mv/\a.t=b.w.length:=by
 have hn:a.m2=[]:=by
  cases hm:a.m2 with
  |nil=>rfl
  |cons m r=>
    clear 5 m p v;have hal:=h.vx.al;rw[hm] at hal;have hs:(Av g (Ah g 0 a.m1)).side=o:=hal.1
    cases e:Av g (Ah g 0 a.m1) with
    |fin=>rw[e] at hs;rcases h.two.o with q|q<;>(rw[q] at hs;exact absurd hs (by decide +kernel))
    |st s ws=>rw[e] at hf;cases hf
 have V:=h.vx;rw[hn] at V;have e1:=V.nil;have h1:=V.a;have h2:=V.t;rw[e1,h.eo,A3] at h1;exact⟨e1,by lia⟩
theorem R9(h1:Cp co)(he:EK ce)(hg:GOk g)(h:Pa g sL sR i S mv a b ux uo):PureO S (fnOf 1 3 (By (fnOf 1 1 BD) (fnOf 1 1 (BG co (fnOf 2 2 Bx))) (fnOf 1 1 (Bt ce)))) [.obj i.p] (.bl ((Av g (Ah g 0 a.m1)).isFin&&(Av g (Ah g 0 b.m1)).isFin)):=by
 cases ha:(Av g (Ah g 0 a.m1)).isFin with
 |true=>
   clear 5(h.fin ha)ea ta
   cases hb:(Av g (Ah g 0 b.m1)).isFin with
   |true=>
     clear 5(h.swap.fin hb)eb tb;have:=bI h1 he hg h ea eb ta tb;rw[<-ea,ha] at this;exact this
   |false=>
     clear 5 h.jX W P X;clear 5 h.jO W2 P2 O;have eX:=M8 he hg (h.ltx hg) X;have eO:=M8 he hg (h.swap.ltx hg) O;refine Al rfl ?_;unfold By;symm;refine AO h.jp rfl ?_;refine⟨_,_,rfl,X.ik,W_ret.mpr ?_⟩;refine eX.mono ?_;rintro r0 S0 ⟨rfl,rfl⟩;rw[ha];symm;refine AO h.jp rfl ?_;refine⟨_,_,rfl,O.ik,W_ret.mpr ?_⟩;refine eO.mono ?_;rintro r0 S1 ⟨rfl,rfl⟩;rw[hb];symm;refine AO h.jp rfl ?_;refine⟨_,_,rfl,X.ik,W_ret.mpr ?_⟩;refine(Jq h1 h.two X).mono ?_;rintro r0 S1 ⟨rfl,rfl⟩;symm;refine AO h.jp rfl ?_;refine⟨_,_,rfl,O.ik,W_ret.mpr ?_⟩;refine(Jq h1 h.two.swap O).mono ?_;rintro r0 S1 ⟨rfl,rfl⟩;symm;exact⟨rfl,rfl⟩
 |false=>
   clear 5 h.jX W P X;clear 5 h.jO W2 P2 O;have eX:=M8 he hg (h.ltx hg) X;refine Al rfl ?_;unfold By;symm;refine AO h.jp rfl ?_;refine⟨_,_,rfl,X.ik,W_ret.mpr ?_⟩;refine eX.mono ?_;rintro r0 S0 ⟨rfl,rfl⟩;rw[ha];symm;refine AO h.jp rfl ?_;refine⟨_,_,rfl,X.ik,W_ret.mpr ?_⟩;refine(Jq h1 h.two X).mono ?_;rintro r0 S1 ⟨rfl,rfl⟩;symm;refine AO h.jp rfl ?_;refine⟨_,_,rfl,O.ik,W_ret.mpr ?_⟩;refine(Jq h1 h.two.swap O).mono ?_;rintro r0 S1 ⟨rfl,rfl⟩;symm;exact⟨rfl,rfl⟩
end
def sdQ(g:List GS):Nat->List Mv->List D
 |_,[]=>[]
 |q,(p,v)::r=>.lst [.int ((mbQ g q p v).length:Nat),Fc g q p v,.int (nextQ g q p:Nat)]::sdQ g (nextQ g q p) r
theorem OY(g:List GS):∀(m r:List Mv) (q:Nat),sdQ g q (m++r)=sdQ g q m++sdQ g (Ah g q m) r
 |[],r,q=>rfl
 |(p,v)::m,r,q=>by rw[uh8,sdQ,sdQ,Ah,OY g m r,uh8]
theorem OZ(g:List GS):∀(m:List Mv) (q:Nat),(sdQ g q m).length=m.length
 |[],q=>rfl
 |(p,v)::m,q=>by rw[sdQ,ug5,ug5,OZ g m]
structure I7 where
 zs:Nat
 st:Nat
 wi:Nat
 co:Nat
 sd:Nat
 he:Nat
 sx:Nat
 so:Nat
def I7.swap(q:I7):I7:=⟨q.zs,q.st,q.wi,q.co,q.sd,q.he,q.so,q.sx⟩
abbrev k7S:Key:=.inr (Str.ofString "states")
abbrev k7W:Key:=.inr (Str.ofString "wires")
abbrev k7C:Key:=.inr (Str.ofString "come")
abbrev k7D:Key:=.inr (Str.ofString "said")
abbrev k7H:Key:=.inr (Str.ofString "held")
abbrev z5(a b c d e:Nat):List (Key×D):=[(k7S,.obj a),(k7W,.obj b),(k7C,.obj c),(k7D,.obj d),(k7H,.obj e)]
section
variable{a b c d e:Nat}
theorem G8:Be (z5 a b c d e) k7S=some (.obj a):=rfl
theorem GH:Be (z5 a b c d e) k7W=some (.obj b):=rfl
theorem LK:Be (z5 a b c d e) k7C=some (.obj c):=rfl
theorem Qy:Be (z5 a b c d e) k7D=some (.obj d):=rfl
theorem Qz:Be (z5 a b c d e) k7H=some (.obj e):=rfl
end
abbrev fI:Nat->D:=λn=>.int (n:Int)
abbrev fW:List Nat->D:=λw=>.lst (wD w)
structure Z7(q:I7)(x:Str)(S:List Ob)(s1 s2:Nat)(w1 w2:List Nat)(c1 c2:Nat)(l1 l2 hs:List D):Prop where
 jz:S[q.zs]?=some (.dct (z5 q.st q.wi q.co q.sd q.he))
 js:S[q.st]?=some (.dct (lrF fI x s1 s2))
 jw:S[q.wi]?=some (.dct (lrF fW x w1 w2))
 jc:S[q.co]?=some (.dct (lrF fI x c1 c2))
 jd:S[q.sd]?=some (.dct (lrF D.obj x q.sx q.so))
 jx:S[q.sx]?=some (.lst l1)
 jo:S[q.so]?=some (.lst l2)
 jh:S[q.he]?=some (.lst hs)
 ns:q.sx≠q.so/\q.he≠q.sx/\q.he≠q.so
 nc:q.st≠q.co
section
variable{q:I7}{x o:Str}{S S':List Ob}{s1 s2 s':Nat}{w1 w2 w':List Nat}{c1 c2 c':Nat}{l1 l2 hs l':List D}{ob:Ob}
theorem Z7.swap(h:Z7 q x S s1 s2 w1 w2 c1 c2 l1 l2 hs)(t:Two x o):Z7 q.swap o S s2 s1 w2 w1 c2 c1 l2 l1 hs:=
 ⟨h.jz,by rw[<-D7 t];exact h.js,by rw[<-D7 t];exact h.jw,by rw[<-D7 t];exact h.jc,by rw[<-D7 t];exact h.jd,h.jo,h.jx,h.jh,⟨Ne.symm h.ns.1,h.ns.2.2,h.ns.2.1⟩,h.nc⟩
theorem Z7.setS(h:Z7 q x S s1 s2 w1 w2 c1 c2 l1 l2 hs):Z7 q x (S.set q.st (.dct (lrF fI x s' s2))) s' s2 w1 w2 c1 c2 l1 l2 hs:=
 ⟨Ae h.jz (Ag h.js h.jz (by simp)),A7 h.js,Ae h.jw (Ag h.js h.jw (by simp)),Ae h.jc h.nc,Ae h.jd (Ag h.js h.jd (by simp)),Ae h.jx (Ag h.js h.jx (by simp)),Ae h.jo (Ag h.js h.jo (by simp)),Ae h.jh (Ag h.js h.jh (by simp)),h.ns,h.nc⟩
theorem Z7.setC(h:Z7 q x S s1 s2 w1 w2 c1 c2 l1 l2 hs):Z7 q x (S.set q.co (.dct (lrF fI x c' c2))) s1 s2 w1 w2 c' c2 l1 l2 hs:=
 ⟨Ae h.jz (Ag h.jc h.jz (by simp)),Ae h.js (Ne.symm h.nc),Ae h.jw (Ag h.jc h.jw (by simp)),A7 h.jc,Ae h.jd (Ag h.jc h.jd (by simp)),Ae h.jx (Ag h.jc h.jx (by simp)),Ae h.jo (Ag h.jc h.jo (by simp)),Ae h.jh (Ag h.jc h.jh (by simp)),h.ns,h.nc⟩
theorem Z7.setW(h:Z7 q x S s1 s2 w1 w2 c1 c2 l1 l2 hs):Z7 q x (S.set q.wi (.dct (lrF fW x w' w2))) s1 s2 w' w2 c1 c2 l1 l2 hs:=
 ⟨Ae h.jz (Ag h.jw h.jz (by simp)),Ae h.js (Ag h.jw h.js (by simp)),A7 h.jw,Ae h.jc (Ag h.jw h.jc (by simp)),Ae h.jd (Ag h.jw h.jd (by simp)),Ae h.jx (Ag h.jw h.jx (by simp)),Ae h.jo (Ag h.jw h.jo (by simp)),Ae h.jh (Ag h.jw h.jh (by simp)),h.ns,h.nc⟩
theorem Z7.setX(h:Z7 q x S s1 s2 w1 w2 c1 c2 l1 l2 hs):Z7 q x (S.set q.sx (.lst l')) s1 s2 w1 w2 c1 c2 l' l2 hs:=
 ⟨Ae h.jz (Ag h.jx h.jz (by simp)),Ae h.js (Ag h.jx h.js (by simp)),Ae h.jw (Ag h.jx h.jw (by simp)),Ae h.jc (Ag h.jx h.jc (by simp)),Ae h.jd (Ag h.jx h.jd (by simp)),A7 h.jx,Ae h.jo h.ns.1,Ae h.jh (Ne.symm h.ns.2.1),h.ns,h.nc⟩
theorem Z7.setH(h:Z7 q x S s1 s2 w1 w2 c1 c2 l1 l2 hs):Z7 q x (S.set q.he (.lst l')) s1 s2 w1 w2 c1 c2 l1 l2 l':=
 ⟨Ae h.jz (Ag h.jh h.jz (by simp)),Ae h.js (Ag h.jh h.js (by simp)),Ae h.jw (Ag h.jh h.jw (by simp)),Ae h.jc (Ag h.jh h.jc (by simp)),Ae h.jd (Ag h.jh h.jd (by simp)),Ae h.jx h.ns.2.1,Ae h.jo h.ns.2.2,A7 h.jh,h.ns,h.nc⟩
abbrev I7.all(q:I7):List Nat:=[q.zs,q.st,q.wi,q.co,q.sd,q.he,q.sx,q.so]
theorem Z7.keep(h:Z7 q x S s1 s2 w1 w2 c1 c2 l1 l2 hs)(K:Kx F S S')(n:∀j∈q.all,j∉F):Z7 q x S' s1 s2 w1 w2 c1 c2 l1 l2 hs:=
 ⟨K.get (n _ (by simp)) h.jz,K.get (n _ (by simp)) h.js,K.get (n _ (by simp)) h.jw,K.get (n _ (by simp)) h.jc,K.get (n _ (by simp)) h.jd,K.get (n _ (by simp)) h.jx,K.get (n _ (by simp)) h.jo,K.get (n _ (by simp)) h.jh,h.ns,h.nc⟩
structure Sp7(U:Nat)(ls:List Nat)(q:I7):Prop where
 l:∀j∈[q.sx,q.so,q.he],j∉ls
 u:∀j∈[q.zs,q.st,q.wi,q.co,q.sd],j≠U
theorem Z7.out(h:Z7 q x S s1 s2 w1 w2 c1 c2 l1 l2 hs)(sp:Sp7 U ls q):∀j∈q.all,OutP S U ls j:=by
 have hl:=sp.l;have hu:=sp.u;simp only[I7.all,uk3,uh6,lw,forall_eq_or_imp,forall_eq] at hl hu⊢;exact⟨.inr (.inr ⟨_,h.jz,by show 2<=5;decide,hu.1⟩),.inr (.inr ⟨_,h.js,um5 _,hu.2.1⟩),.inr (.inr ⟨_,h.jw,um5 _,hu.2.2.1⟩),.inr (.inr ⟨_,h.jc,um5 _,hu.2.2.2.1⟩),.inr (.inr ⟨_,h.jd,um5 _,hu.2.2.2.2⟩),.inr (.inl ⟨_,h.jh,hl.2.2⟩),.inr (.inl ⟨_,h.jx,hl.1⟩),.inr (.inl ⟨_,h.jo,hl.2.1⟩)⟩
theorem Z7.pa{y z:Str}{i:Ip}{a b:Vt}{ux uo k:Nat}(h:Z7 q x S s1 s2 w1 w2 c1 c2 l1 l2 hs)(sp:Sp7 i.U [ux,uo,i.lx,i.lo] q)(p:Pa g y z i S mv a b ux uo)(hk:k∈q.all):Pa g y z i (S.set k ob) mv a b ux uo:=
 p.keep (F:=[k]) (Kx.refl.set (by simp)) λj m=>by rw[ue8] at m;subst m;exact h.out sp _ hk
end
abbrev hOk(n:Nat)(hs:List D):Prop:=hs.length<=n/\∀d∈hs,∃v,d=.lst [v,v]/\Rq 9 v
theorem hOk.more{hs:List D}(h:hOk n hs)(r:Rq 9 v):hOk (n+1) (hs++[.lst [v,v]]):=
 ⟨by rw[ue6];exact uh0 h.1,λd m=>by
  rcases ui0.mp m with m|m
  .exact h.2 d m
  .rw[ue8] at m;exact⟨v,m,r⟩⟩
structure J7(g:List GS)(x o:Str)(i:Ip)(q:I7)(S:List Ob)(mv:List Mv)(a b:Vt)(ux uo n:Nat):Prop where
 pa:Pa g x o i S mv a b ux uo
 z:∃hs,Z7 q x S (Ah g 0 a.m1) (Ah g 0 b.m1) (a.w.drop b.t) (b.w.drop a.t) (a.t-(Ao g o 0 a.m1).length) (b.t-(Ao g x 0 b.m1).length) (sdQ g (Ah g 0 b.m1) b.m2) (sdQ g (Ah g 0 a.m1) a.m2) hs/\hOk n hs
 sp:Sp7 i.U [ux,uo,i.lx,i.lo] q
theorem J7.swap{g:List GS}{x o:Str}{i:Ip}{q:I7}{S:List Ob}{mv:List Mv}{a b:Vt}{ux uo n:Nat}(h:J7 g x o i q S mv a b ux uo n):J7 g o x i.swap q.swap S mv b a uo ux n:=
 ⟨h.pa.swap,by clear 5 h.z hs z hh;exact⟨hs,z.swap h.pa.two,hh⟩,λj m z=>h.sp.l j (by
  simp only[uk3,uh6,lw] at m⊢;rcases m with m|m|m
  .exact .inr (.inl m)
  .exact .inl m
  .exact .inr (.inr m)) (by
  simp only[uk3,uh6,lw] at z⊢;rcases z with z|z|z|z
  .exact .inr (.inl z)
  .exact .inl z
  .exact .inr (.inr (.inr z))
  .exact .inr (.inr (.inl z))),h.sp.u⟩
theorem My{b:Bool}{m:M Out}{k:Str}{e0 e1 e3 e4:Option Sl}{K:Out->T->Prop}(hl:xs.length<=10)(hm:L2.W m ⟨[e0,e1,some (.own xs),e3,e4],S⟩ λo t=>o=.next/\t=⟨[e0,e1,some (.own (xs++[tpD (k,s)])),e3,e4],S⟩)(h:K .next ⟨[e0,e1,some (.own (xs++(ifL b k s).map tpD)),e3,e4],S⟩):EX b (L2.W m ⟨[e0,e1,some (.own xs),e3,e4],S⟩ K) (L2.W Aq ⟨[e0,e1,some (.own xs),e3,e4],S⟩ K):=by
 cases b with
 |true=>
   refine Ev rfl ?_;refine hm.mono ?_;rintro o t ⟨rfl,rfl⟩;exact h
 |false=>
   refine DT rfl ?_;rw[show(ifL false k s).map tpD=[] from rfl,ui4] at h;symm;exact h
theorem OH{t:Nat}:(!(wD (w.drop t)).isEmpty)=B8 w t:=by
 unfold wD B8
 cases w.drop t<;>simp
theorem TL(hg:GOk g){i:Ip}{q:I7}{S:List Ob}{mv:List Mv}{a b:Vt}{ux uo n:Nat}(J:J7 g sL sR i q S mv a b ux uo n):PureO S (fnOf 2 5 CA) [.lst (g.map GS.d),.obj q.zs] (.lst ((mayP (Cm g sL a.m1) (Cm g sR b.m1) (B8 b.w a.t) (B8 a.w b.t)).map tpD)):=by
 have hL:LIM=100000:=rfl;have h:=J.pa;clear 5 J.z hs Z hh;refine Al rfl ?_;unfold CA;symm;refine W_forL_cons.mpr ?_;symm;refine Aw Z.jz G8 ?_;symm;refine Aw Z.js (BW h.two.x) ?_;symm;refine BR (C9 (h.ltx hg)) ?_;symm;refine Kz ?_;symm;have l1:=EQ (b:=Cm g sL a.m1) (k:="say") (s:=sL);have l2:=EQ (b:=Cm g sR b.m1) (k:="say") (s:=sR);have l3:=EQ (b:=B8 b.w a.t) (k:="take") (s:=sL);have l4:=EQ (b:=B8 a.w b.t) (k:="take") (s:=sR);refine My (k:="say") (s:=sL) (xs:=[]) (um6 _) (by symm;exact⟨rfl,rfl⟩) ?_;rw[ui8];generalize hA:(ifL (id ((Av g (Ah g 0 a.m1)).side==Str.ofString "left")) "say" sL).map tpD=A;have lA:A.length<=1:=by rw[<-hA,ui2];exact l1
 show L2.W _ _ _;refine W_forL_cons.mpr ?_;symm;refine Aw Z.jz G8 ?_;symm;refine Aw Z.js (BF h.two) ?_;symm;refine BR (C9 (h.swap.ltx hg)) ?_;symm;refine Kz ?_;symm;refine My (k:="say") (s:=sR) (xs:=A) (by lia) (by symm;refine BI (by rw[hL];lia) ?_;exact⟨rfl,rfl⟩) ?_;generalize hB:A++(ifL (id ((Av g (Ah g 0 b.m1)).side==Str.ofString "right")) "say" sR).map tpD=B;have lB:B.length<=2:=by rw[<-hB,ue6,ui2];exact Nat.add_le_add lA l2
 show L2.W _ _ _;refine W_forL_nil.mpr ?_;symm;refine W_forL_cons.mpr ?_;symm;refine Aw Z.jz GH ?_;symm;refine Aw Z.jw (BF h.two) ?_;symm;rw[OH];refine My (k:="take") (s:=sL) (xs:=B) (by lia) (by symm;refine BI (by rw[hL];lia) ?_;exact⟨rfl,rfl⟩) ?_;generalize hC:B++(ifL (B8 b.w a.t) "take" sL).map tpD=C;have lC:C.length<=3:=by rw[<-hC,ue6,ui2];exact Nat.add_le_add lB l3
 show L2.W _ _ _;refine W_forL_cons.mpr ?_;symm;refine Aw Z.jz GH ?_;symm;refine Aw Z.jw (BW h.two.x) ?_;symm;rw[OH];refine My (k:="take") (s:=sR) (xs:=C) (by lia) (by symm;refine BI (by rw[hL];lia) ?_;exact⟨rfl,rfl⟩) ?_;show L2.W _ _ _;refine W_forL_nil.mpr ?_;symm;refine⟨?_,rfl⟩;rw[<-hC,<-hB,<-hA];simp only[mayP,uj2,uf7];rfl
theorem OF{kv:List (Key×D)}(e:S[U]?=some (.dct kv))(hF:∀j∈F,(∃fs,S[j]?=some (.ins "Side" fs))\/(j∈ls/\∃ds,S[j]?=some (.lst ds))\/j=U){j:Nat}(h:OutP S U ls j):j∉F:=λz=>by
 rcases hF j z with⟨fs,e1⟩|⟨n,ds,e1⟩|rfl
 .exact Lq e1 (by decide) h
 .exact Jh e1 n h
 .exact U9 e h
theorem Vi:Rq 9 (.lst (wD w)):=NN (n:=8) λd hd=>by
 unfold wD at hd;obtain⟨k,_,rfl⟩:=um3.mp hd;exact IP
variable{cd cv:Fn}
theorem bv(hdS:Ie arD cd)(hb:KU cb 3)(hv:JE cv 3){g:List GS}(hg:GOk g)(hT:∀x∈g,Tin x){x o:Str}{i:Ip}{q:I7}{S:List Ob}{mv:List Mv}{a b:Vt}{ux uo n:Nat}(J:J7 g x o i q S mv a b ux uo n)(hsd:(Av g (Ah g 0 a.m1)).side=x)(hml:mv.length<=400)(hn:n<=900){cell:Int} :
 Wf (fnOf 5 13 (Di cd cb cv)) [.obj i.p,.lst (g.map GS.d),.obj q.zs,.str x,.int cell] S λr S'=>r=.bl true/\∃mv' a' b',mv'.length=mv.length+1/\J7 g x o i q S' mv' a' b' ux uo (n+1):=by
 have hL:LIM=100000:=rfl;have h:=J.pa;clear 5 J.z hs Z hh;have hm2:=h.vx.all hsd h.two.ne;have hm1:a.m1=mv:=by have:=h.vx.e;rw[hm2,ui4] at this;exact this.symm
 have hlt:=h.ltx hg;rw[hm1] at hsd hlt;have hgs:=Dg hg hlt;have hix:=C9 hlt;obtain⟨ws,e9⟩:∃ws,Av g (Ah g 0 mv)=.st x ws:=by
  cases e:Av g (Ah g 0 mv) with
  |fin=>rw[e] at hsd;rcases h.two.x with q|q<;>(rw[q] at hsd;exact absurd hsd (by decide +kernel))
  |st s ws=>rw[e] at hsd;exact⟨ws,by rw[<-show s=x from hsd]⟩
 rw[e9] at hgs hix;rw[GS.d] at hix;have hw0:0<ws.length/\ws.length<=9:=by cases hgs with|st _ h1 h2 _ _=>exact⟨h1,h2⟩
 have g1:=uj4 cell (b:=(ws.length:Int)) (by lia);have g2:=uf1 cell (b:=(ws.length:Int)) (by lia);clear 5(ub6 g1)p hpe;have hpl:p<ws.length:=by lia
 have ew:ws[p]?=some ws[p]:=ub3 hpl;have hwd:wdAt g (Ah g 0 mv) p=ws[p]:=by unfold wdAt;rw[e9];show ws.getD p _=_;rw[ua9,ew];rfl
 have hdr:Dr 2 ws[p].2.1:=hT _ (HA hlt) _ (by rw[e9];exact uh7 hpl);have hnx:ws[p].2.2=((nextQ g (Ah g 0 mv) p:Nat):Int):=by
  unfold nextQ;rw[hwd]
  cases hgs with
  |st _ _ _ _ h5=>exact(ue0 (h5 _ (uh7 hpl)).lo).symm
 have hwx:=LJ hT x mv 0 h.ok;rw[h.ex,A3] at hwx;have hto:=h.vo.t;rw[hm1] at Z;refine Al rfl ?_;unfold Di;symm;refine Aw Z.jz G8 ?_;symm;refine Aw Z.js (BW h.two.x) ?_;symm;refine BR hix ?_;symm;rw[ui2];refine HR (by lia) ?_;symm;rw[hpe];refine BR (GF ew) ?_;unfold wdD;symm;refine(hv _ hdr.dep hdr.ok hdr.nar hdr.tin _ _).mono ?_;rintro r0 S2 ⟨e0,v,l2,rfl,hfit⟩;subst e0;have hm:MvOk g (Ah g 0 mv) p v:=⟨hlt,by rw[e9];exact hpl,by rw[hwd];exact hfit⟩;obtain⟨y,hy,_⟩:=Rg (Mj hg x (Ah g 0 mv) [(p,v)] ⟨hm,trivial⟩);rw[Ao,Ao,ui4,lD hsd] at hy;have hy:mbQ g (Ah g 0 mv) p v=wD y:=hy;have hyl:=Rv hT hm;have hy2:D.int (p:Int)::AI ws[p].2.1 v=wD y:=by rw[<-hwd];exact hy
 rw[hy,A3] at hyl;have hbl:(AI ws[p].2.1 v).length+1=y.length:=by
  have:=lu List.length hy2;rw[ug5,A3] at this;exact this
 symm;refine(hb _ hdr.dep hdr.ok hdr.nar v hfit (by rw[hL];lia)).use ?_;symm;refine BI (by rw[hL];show 1+_<=_;lia) ?_;rw[show [D.int (p:Int)]++AI ws[p].2.1 v=wD y from hy2];symm;refine Aw Z.jz G8 ?_;symm;rw[hnx];refine Cy Z.js (by show 2<100000;decide) ?_;rw[FW (F:=fI) h.two.x];have Z1:=Z.setS (s':=nextQ g (Ah g 0 mv) p);have P1:=Z.pa (ob:=.dct (lrF fI x (nextQ g (Ah g 0 mv) p) (Ah g 0 b.m1))) J.sp h (k:=q.st) (by simp);generalize S2.set q.st (.dct (lrF fI x (nextQ g (Ah g 0 mv) p) (Ah g 0 b.m1)))=S3 at Z1 P1⊢;symm;refine Aw Z1.jz GH ?_;symm;refine Aw Z1.jw (BW h.two.x) ?_;symm;refine BI (by rw[A3,A3,ug8,hL];lia) ?_;rw[<-KR];symm;refine Aw Z1.jz GH ?_;symm;refine Cy Z1.jw (by show 2<100000;decide) ?_;rw[FW (F:=fW) h.two.x];have Z2:=Z1.setW (w':=a.w.drop b.t++y);have P2:=Z1.pa (ob:=.dct (lrF fW x (a.w.drop b.t++y) (b.w.drop a.t))) J.sp P1 (k:=q.wi) (by simp);generalize S3.set q.wi (.dct (lrF fW x (a.w.drop b.t++y) (b.w.drop a.t)))=S4 at Z2 P2⊢;symm;refine HS (k:=q.sx) ?_;symm;refine Aw Z2.jz Qy ?_;symm;refine Aw Z2.jd (BW h.two.x) ?_;refine⟨rfl,_,Z2.jx,?_⟩;symm;have hlq:Ah g (Ah g 0 b.m1) b.m2=Ah g 0 mv:=by rw[<-B1,<-h.vo.e]
 have esd:sdQ g (Ah g 0 b.m1) (b.m2++[(p,v)])=sdQ g (Ah g 0 b.m1) b.m2++[.lst [.int ((wD y).length:Nat),.tup [.str x,.str ws[p].1,v],.int (nextQ g (Ah g 0 mv) p:Nat)]]:=by
  rw[OY,hlq,sdQ,sdQ,hy,Fc,hsd,hwd]
 have hb2:b.m2.length<=400:=by
  have:=lu List.length h.vo.e;rw[ue6] at this;lia
 refine⟨_,sdQ g (Ah g 0 b.m1) (b.m2++[(p,v)]),Z2.jx,by rw[esd];simp only[BH];rw[lD (by rw[OZ,hL];lia)],?_⟩;have Z3:=Z2.setX (l':=sdQ g (Ah g 0 b.m1) (b.m2++[(p,v)]));have P3:=Z2.pa (ob:=.lst (sdQ g (Ah g 0 b.m1) (b.m2++[(p,v)]))) J.sp P2 (k:=q.sx) (by simp);generalize S4.set q.sx (.lst (sdQ g (Ah g 0 b.m1) (b.m2++[(p,v)])))=S5 at Z3 P3⊢;symm;refine⟨_,_,rfl,P3.jp,?_⟩;symm;refine UW ?_;have hdn:=hdS S5 g x o i mv a b ux uo p v y hg P3 hm1 hm hsd hy (by lia);rw[hwd] at hdn;refine hdn.mono ?_;rintro r S6 ⟨rfl,K4,P4⟩;refine⟨rfl,?_⟩;clear 5 P3.jX W PP X;have Z4:=Z3.keep K4 (λj m=>OF P3.jU (F:=[i.kx,ux]) (λj m=>by
  simp only[uk3,uh6,lw] at m;rcases m with rfl|rfl
  .exact .inl ⟨_,X.ik⟩
  .exact .inr (.inl ⟨by simp,_,P3.jx⟩)) (Z3.out J.sp j m))
 symm;refine HS (k:=q.he) ?_;symm;refine Aw Z4.jz Qz ?_;refine⟨rfl,_,Z4.jh,?_⟩;symm;have hh1:=hh.1;refine⟨_,hs++[.lst [.lst (wD y),.lst (wD y)]],Z4.jh,by simp only[BH];rw[lD (by rw[hL];lia)],?_⟩;have Z5:=Z4.setH (l':=hs++[.lst [.lst (wD y),.lst (wD y)]]);have P5:=Z4.pa (ob:=.lst (hs++[.lst [.lst (wD y),.lst (wD y)]])) J.sp P4 (k:=q.he) (by simp);generalize S6.set q.he (.lst (hs++[.lst [.lst (wD y),.lst (wD y)]]))=S7 at Z5 P5⊢;symm;refine DP rfl (Vi EQD (by decide)) ?_;refine⟨rfl,mv++[(p,v)],_,_,by rw[ue6];rfl,P5,⟨hs++[.lst [.lst (wD y),.lst (wD y)]],?_,hh.more Vi⟩,J.sp⟩;have hne:¬(Av g (Ah g 0 mv)).side=o:=λq=>h.two.ne (hsd.symm.trans q);show Z7 q x S7 (Ah g 0 (mv++[(p,v)])) (Ah g 0 b.m1) ((a.w++y).drop b.t) (b.w.drop a.t) (a.t-(Ao g o 0 (mv++[(p,v)])).length) (b.t-(Ao g x 0 b.m1).length) (sdQ g (Ah g 0 b.m1) (b.m2++[(p,v)])) (sdQ g (Ah g 0 (mv++[(p,v)])) []) _;rw[hm2] at Z5;rw[B1,HV hne,ua3 hto];exact Z5
theorem Me{g:List GS}(hg:GOk g):∀{mv:List Mv}{q:Nat},okQ g q mv->∀x∈Bh g q mv,Rq 8 x
 |[],q,_,x,hx=>nomatch hx
 |(p,v)::r,q,hk,x,hx=>by
   rw[okQ] at hk;rw[Bh] at hx;rcases uk3.mp hx with e|hx
   .subst e;have hw:=FR hg hk.1.lt hk.1.pl;unfold Fc;exact KJ (n:=7) (dD KI KI ((Yz hw.dep hw.ok hk.1.fit).rq.mono (by decide)))
   .exact Me hg hk.2 x hx
theorem OM{g:List GS}(hg:GOk g):∀{mv:List Mv}{q:Nat},okQ g q mv->∀x∈Bh g q mv,nvO 4 x=true
 |[],_,_,x,h=>nomatch h
 |(p,v)::r,q,hk,x,h=>by
   rw[okQ] at hk;rcases uk3.mp h with e|m
   .have hw:=FR hg hk.1.lt hk.1.pl;have h3:=Gh 3 _ hw.dep hw.ok v hk.1.fit;subst e;unfold Fc;simp[nvO,h3]
   .exact OM hg hk.2 x m
section
variable{q:I7}{x o:Str}{S S':List Ob}{s1 s2 s':Nat}{w1 w2 w':List Nat}{c1 c2 c':Nat}{l1 l2 hs l':List D}{ob:Ob}
theorem Z7.setW2(h:Z7 q x S s1 s2 w1 w2 c1 c2 l1 l2 hs):Z7 q x (S.set q.wi (.dct (lrF fW x w1 w'))) s1 s2 w1 w' c1 c2 l1 l2 hs:=
 ⟨Ae h.jz (Ag h.jw h.jz (by simp)),Ae h.js (Ag h.jw h.js (by simp)),A7 h.jw,Ae h.jc (Ag h.jw h.jc (by simp)),Ae h.jd (Ag h.jw h.jd (by simp)),Ae h.jx (Ag h.jw h.jx (by simp)),Ae h.jo (Ag h.jw h.jo (by simp)),Ae h.jh (Ag h.jw h.jh (by simp)),h.ns,h.nc⟩
theorem Z7.setO(h:Z7 q x S s1 s2 w1 w2 c1 c2 l1 l2 hs):Z7 q x (S.set q.so (.lst l')) s1 s2 w1 w2 c1 c2 l1 l' hs:=
 ⟨Ae h.jz (Ag h.jo h.jz (by simp)),Ae h.js (Ag h.jo h.js (by simp)),Ae h.jw (Ag h.jo h.jw (by simp)),Ae h.jc (Ag h.jo h.jc (by simp)),Ae h.jd (Ag h.jo h.jd (by simp)),Ae h.jx (Ne.symm h.ns.1),A7 h.jo,Ae h.jh (Ne.symm h.ns.2.2),h.ns,h.nc⟩
end
theorem cS{k:Nat}{y:D}{g:M (List D)}(w:L2.W f t λo t1=>o=.obj k/\t1.S[k]?=some (.lst (y::r))/\L2.W g t1 λds t2=>ds=[.int 0]/\t2.S[k]?=some (.lst (y::r))/\P y ⟨t2.env,t2.S.set k (.lst r)⟩):L2.W (NF f g) t P:=by
 unfold NF;refine Co (w.mono λo t1 z=>?_);clear 5 z rfl e0 ds t2 e1 rfl e2 p;refine⟨_,_,?_,p⟩;simp only[e0,bnd,e1,e2,ly]
theorem fw{k:Nat}(e:t.S[k]?=some (.lst ds))(hp:FD ds=true)(h:P (.bl (!ds.isEmpty)) t):L2.W (eqS (λb=>!b) (.obj k) (.lst [])) t P:=by
 refine⟨_,_,?_,h⟩;unfold eqS;rw[lD (by simp[Nl])];simp only[FE,e,Cr,hp,FD,ul2,ly]
 cases ds<;>rfl
theorem OR{g:List GS}(hg:GOk g):∀{m:List Mv}{q:Nat},okQ g q m->FD (sdQ g q m)=true
 |[],q,_=>rfl
 |(p,v)::r,q,hk=>by
   rw[okQ] at hk;have h1:=NI 4 _ (OM hg (mv:=[(p,v)]) (q:=q) ⟨hk.1,trivial⟩ (Fc g q p v) (by rw[Bh];exact ue2));rw[sdQ,FD,OR hg hk.2];simp only[Cr,FD,h1,ul2]
theorem Vw.uniq{o:Str}{n1 n2:List Mv}(V:Vw g o mv m1 m2 tk n)(V':Vw g o mv n1 n2 tk n):m1=n1:=by
 have key:∀{m1 m2 n1 n2:List Mv},Vw g o mv m1 m2 tk n->Vw g o mv n1 n2 tk n->m1.length<=n1.length->m1=n1:=λ{m1 m2 n1 n2} V V' hl=>by
  have e:=V.e.symm.trans V'.e;have e1:m1=n1.take m1.length:=by
   have:=lu (List.take m1.length) e;rw[List.take_left,ua4 hl] at this;exact this
  obtain⟨r,hr⟩:∃r,n1=m1++r:=⟨n1.drop m1.length,by conv=>lhs;rw[<-List.take_append_drop m1.length n1,<-e1]⟩
  cases r with
  |nil=>rw[hr,ui4]
  |cons m r=>
    exfalso;clear 5 m p v;rw[hr,uf7] at e;have e2:=ub7 e;have hal:=V.al;have hc:=V.c;rw[e2] at hal hc;have hs:(Av g (Ah g 0 m1)).side=o:=hal.1;have hc:tk<(Ao g o 0 m1).length+(mbQ g (Ah g 0 m1) p v).length:=hc;have ha:=V'.a;rw[hr,Ek,Ao,lD hs,ue6,ue6] at ha;have ha:(Ao g o 0 m1).length+((mbQ g (Ah g 0 m1) p v).length+_)<=tk:=ha;lia
 rcases Nat.le_total m1.length n1.length with h|h
 .exact key V V' h
 .exact(key V' V h).symm
theorem Rr(hdT:Fh JF cd){g:List GS}(hg:GOk g)(hT:∀x∈g,Tin x){x o:Str}{i:Ip}{q:I7}{S:List Ob}{mv:List Mv}{a b:Vt}{ux uo n:Nat}(J:J7 g x o i q S mv a b ux uo n){k:Nat}(hk:1<=k)(hkl:a.t+k<=b.w.length)(hml:mv.length<=400)(hn:n<=900) :
 Wf (fnOf 5 10 (BT cd)) [.obj i.p,.obj q.zs,.str x,.str o,.int (k:Nat)] S λr S'=>r=.bl true/\∃a' uo',J7 g x o i q S' mv a' b ux uo' (n+1)/\a'.t=a.t+k/\a'.w=a.w:=by
 have hL:LIM=100000:=rfl;have h:=J.pa;clear 5 J.z hs Z hh;have hwo:=LJ hT o mv 0 h.ok;rw[h.eo,A3] at hwo;have ha0:=h.vx.a;have hdr:(b.w.drop a.t).drop k=b.w.drop (a.t+k):=List.drop_drop;refine Al rfl ?_;unfold BT;symm;refine Aw Z.jz GH ?_;symm;refine Aw Z.jw (BF h.two) ?_;symm;rw[QP,hdr];refine Aw Z.jz GH ?_;symm;refine Cy Z.jw (by show 2<100000;decide) ?_;rw[Nq (F:=fW) h.two];have Z1:=Z.setW2 (w':=b.w.drop (a.t+k));have P1:=Z.pa (ob:=.dct (lrF fW x (a.w.drop b.t) (b.w.drop (a.t+k)))) J.sp h (k:=q.wi) (by simp);generalize S.set q.wi (.dct (lrF fW x (a.w.drop b.t) (b.w.drop (a.t+k))))=S1 at Z1 P1⊢;symm;refine Aw Z1.jz LK ?_;symm;refine Aw Z1.jc (BW h.two.x) ?_;symm;rw[show((a.t-(Ao g o 0 a.m1).length:Nat):Int)+(k:Int)=((a.t+k-(Ao g o 0 a.m1).length:Nat):Int) by lia];refine Aw Z1.jz LK ?_;symm;refine Cy Z1.jc (by show 2<100000;decide) ?_;rw[FW (F:=fI) h.two.x];have Z2:=Z1.setC (c':=a.t+k-(Ao g o 0 a.m1).length);have P2:=Z1.pa (ob:=.dct (lrF fI x (a.t+k-(Ao g o 0 a.m1).length) (b.t-(Ao g x 0 b.m1).length))) J.sp P1 (k:=q.co) (by simp);generalize S1.set q.co (.dct (lrF fI x (a.t+k-(Ao g o 0 a.m1).length) (b.t-(Ao g x 0 b.m1).length)))=S2 at Z2 P2⊢;symm;refine L2.W.mono (F5 (P:=λout t=>out=.next/\∃(n1 n2:List Mv) (S':List Ob) (e6 e7 e8:Option Sl),a.m2=n1++n2/\ME g (Ah g 0 (a.m1++n1)) (Ao g o 0 (a.m1++n1)).length (a.t+k) n2/\(Ao g o 0 (a.m1++n1)).length<=a.t+k/\Z7 q x S' (Ah g 0 (a.m1++n1)) (Ah g 0 b.m1) (a.w.drop b.t) (b.w.drop (a.t+k)) (a.t+k-(Ao g o 0 (a.m1++n1)).length) (b.t-(Ao g x 0 b.m1).length) (sdQ g (Ah g 0 b.m1) b.m2) (sdQ g (Ah g 0 (a.m1++n1)) n2) hs/\Pa g x o i S' mv a b ux uo/\t=⟨[vw (.obj i.p),vw (.obj q.zs),vw (.str x),vw (.str o),vw (.int (k:Nat)),some (.own (Bh g (Ah g 0 a.m1) n1)),e6,e7,e8,none],S'⟩) (λN t=>∃(n1 n2:List Mv) (S':List Ob) (e6 e7 e8:Option Sl),a.m2=n1++n2/\n2.length+1<=N/\(Ao g o 0 (a.m1++n1)).length<=a.t+k/\Z7 q x S' (Ah g 0 (a.m1++n1)) (Ah g 0 b.m1) (a.w.drop b.t) (b.w.drop (a.t+k)) (a.t+k-(Ao g o 0 (a.m1++n1)).length) (b.t-(Ao g x 0 b.m1).length) (sdQ g (Ah g 0 b.m1) b.m2) (sdQ g (Ah g 0 (a.m1++n1)) n2) hs/\Pa g x o i S' mv a b ux uo/\t=⟨[vw (.obj i.p),vw (.obj q.zs),vw (.str x),vw (.str o),vw (.int (k:Nat)),some (.own (Bh g (Ah g 0 a.m1) n1)),e6,e7,e8,none],S'⟩) ?_ Ho (mv.length+2) _ ?_ ?_) ?_
 .rintro N t ⟨n1,n2,S3,e6,e7,e8,em,hN,hle,Z3,P3,rfl⟩;have hok:=h.ok;rw[h.vx.e,em,<-uf7,Fd] at hok;symm;refine Aw Z3.jz Qy ?_;symm;refine Aw Z3.jd (BF h.two) ?_;symm;refine fw Z3.jo (OR hg hok.2) ?_
  cases n2 with
  |nil=>
    symm;exact⟨rfl,n1,[],S3,e6,e7,e8,em,trivial,hle,Z3,P3,rfl⟩
  |cons m n2=>
    clear 5 m p v;have jo:=Z3.jo;rw[sdQ] at jo;symm;refine Aw Z3.jz LK ?_;symm;refine Aw Z3.jc (BW h.two.x) ?_;symm;refine Aw Z3.jz Qy ?_;symm;refine Aw Z3.jd (BF h.two) ?_;symm;refine W_ix_obj.mpr ⟨_,jo,_,GJ,?_⟩;symm;have hal:=h.vx.al;rw[em,F6] at hal;have hs9:(Av g (Ah g 0 (a.m1++n1))).side=o:=by rw[B1];exact hal.2.1
    have ewl:(Ao g o 0 (a.m1++(n1++[(p,v)]))).length=(Ao g o 0 (a.m1++n1)).length+(mbQ g (Ah g 0 (a.m1++n1)) p v).length:=by
     rw[<-uf7,N2 hs9,ue6]
    have hlen:n1.length<=400:=by
     have:=lu List.length h.vx.e;rw[em,ue6,ue6] at this;lia
    cases hd:decide (((mbQ g (Ah g 0 (a.m1++n1)) p v).length:Int)<=((a.t+k-(Ao g o 0 (a.m1++n1)).length:Nat):Int)) with
    |false=>
      have hd:=kt hd;exact⟨rfl,n1,(p,v)::n2,S3,e6,e7,e8,em,by show a.t+k<_;lia,hle,Z3,P3,rfl⟩
    |true=>
      have hd:=ug3 hd;rw[ug5] at hN;obtain⟨m,rfl⟩:∃m,N=m+1:=jt (by lia);refine⟨m,rfl,?_⟩;symm;refine cS (k:=q.so) (y:=.lst [.int ((mbQ g (Ah g 0 (a.m1++n1)) p v).length:Nat),Fc g (Ah g 0 (a.m1++n1)) p v,.int (nextQ g (Ah g 0 (a.m1++n1)) p:Nat)]) (r:=sdQ g (nextQ g (Ah g 0 (a.m1++n1)) p) n2) ?_;symm;refine Aw Z3.jz Qy ?_;symm;refine Aw Z3.jd (BF h.two) ?_;refine⟨rfl,jo,?_⟩;symm;refine⟨rfl,jo,?_⟩;have Z4:=Z3.setO (l':=sdQ g (nextQ g (Ah g 0 (a.m1++n1)) p) n2);have P4:=Z3.pa (ob:=.lst (sdQ g (nextQ g (Ah g 0 (a.m1++n1)) p) n2)) J.sp P3 (k:=q.so) (by simp);generalize S3.set q.so (.lst (sdQ g (nextQ g (Ah g 0 (a.m1++n1)) p) n2))=S4 at Z4 P4⊢;symm;refine Aw Z4.jz LK ?_;symm;refine Aw Z4.jc (BW h.two.x) ?_;symm;rw[show((a.t+k-(Ao g o 0 (a.m1++n1)).length:Nat):Int)-((mbQ g (Ah g 0 (a.m1++n1)) p v).length:Int)=((a.t+k-(Ao g o 0 (a.m1++(n1++[(p,v)]))).length:Nat):Int) by rw[ewl];lia];refine Aw Z4.jz LK ?_;symm;refine Cy Z4.jc (by show 2<100000;decide) ?_;rw[FW (F:=fI) h.two.x];have Z5:=Z4.setC (c':=a.t+k-(Ao g o 0 (a.m1++(n1++[(p,v)]))).length);have P5:=Z4.pa (ob:=.dct (lrF fI x (a.t+k-(Ao g o 0 (a.m1++(n1++[(p,v)]))).length) (b.t-(Ao g x 0 b.m1).length))) J.sp P4 (k:=q.co) (by simp);generalize S4.set q.co (.dct (lrF fI x (a.t+k-(Ao g o 0 (a.m1++(n1++[(p,v)]))).length) (b.t-(Ao g x 0 b.m1).length)))=S5 at Z5 P5⊢;symm;refine Aw Z5.jz G8 ?_;symm;refine Cy Z5.js (by show 2<100000;decide) ?_;rw[FW (F:=fI) h.two.x];have Z6:=Z5.setS (s':=nextQ g (Ah g 0 (a.m1++n1)) p);have P6:=Z5.pa (ob:=.dct (lrF fI x (nextQ g (Ah g 0 (a.m1++n1)) p) (Ah g 0 b.m1))) J.sp P5 (k:=q.st) (by simp);generalize S5.set q.st (.dct (lrF fI x (nextQ g (Ah g 0 (a.m1++n1)) p) (Ah g 0 b.m1)))=S6 at Z6 P6⊢;symm;refine BI (by rw[Mb,hL];lia) ?_;have elq:Ah g 0 (a.m1++(n1++[(p,v)]))=nextQ g (Ah g 0 (a.m1++n1)) p:=by rw[<-uf7,B1];rfl
      have emq:Bh g (Ah g 0 a.m1) (n1++[(p,v)])=Bh g (Ah g 0 a.m1) n1++[Fc g (Ah g 0 (a.m1++n1)) p v]:=by rw[Ma,<-B1,Bh,Bh]
      exact⟨n1++[(p,v)],n2,S6,_,_,_,by rw[em,uf7];rfl,by lia,by rw[ewl];lia,by rw[elq];exact Z6,P6,by rw[emq];rfl⟩
 .show _<1000000;lia
 .refine⟨[],a.m2,S2,none,none,none,rfl,?_,by rw[ui4];lia,by rw[ui4];exact Z2,P2,rfl⟩;have:=lu List.length h.vx.e;rw[ue6] at this;lia
 rintro out t ⟨rfl,n1,n2,S3,e6,e7,e8,em,hcut,hle,Z3,P3,rfl⟩;symm;have hal:=h.vx.al;rw[em,F6] at hal;have V9:Vw g o mv (a.m1++n1) n2 (a.t+k) b.w.length:=⟨by rw[uf7,<-em];exact h.vx.e,by rw[B1];exact hal.2,hle,hkl,hcut⟩;refine⟨_,_,rfl,P3.jp,?_⟩;symm;refine UW ?_;refine(hdT S3 g x o i mv a b ux uo k hg P3 hk hkl (by lia)).mono ?_;rintro r S4 ⟨m1,m2,uo',em',rfl,K4,hu,P4⟩;refine⟨rfl,?_⟩;have e1:n1=m1:=ub7 (V9.uniq P4.vx);subst e1;have e2:n2=m2:=ub7 (em.symm.trans em');subst e2;clear 5 P3.jX W PP X;have Z4:=Z3.keep K4 (λj m=>OF P3.jU (F:=[i.kx,i.lx,i.U]) (λj m=>by
  simp only[uk3,uh6,lw] at m;rcases m with rfl|rfl|rfl
  .exact .inl ⟨_,X.ik⟩
  .exact .inr (.inl ⟨by simp,_,X.il⟩)
  .exact .inr (.inr rfl)) (Z3.out J.sp j m))
 have sp':Sp7 i.U [ux,uo',i.lx,i.lo] q:=⟨λj m=>by
  have z:=J.sp.l j m;have hj:j<S3.length:=by
   simp only[uk3,uh6,lw] at m;rcases m with rfl|rfl|rfl
   .exact Bm Z3.jx
   .exact Bm Z3.jo
   .exact Bm Z3.jh
  simp only[uk3,uh6,lw,lF] at z⊢;exact⟨z.1,by lia,z.2.2.1,z.2.2.2⟩,J.sp.u⟩
 have hko:=h.ok;rw[h.vx.e,em,Fd,Fd] at hko;have rq9:Rq 9 (.lst (Bh g (Ah g 0 a.m1) n1)):=NN (n:=8) (Me hg hko.2.1);have hh1:=hh.1;symm;refine HS (k:=q.he) ?_;symm;refine Aw Z4.jz Qz ?_;refine⟨rfl,_,Z4.jh,?_⟩;symm;refine⟨_,hs++[.lst [.lst (Bh g (Ah g 0 a.m1) n1),.lst (Bh g (Ah g 0 a.m1) n1)]],Z4.jh,by simp only[BH];rw[lD (by rw[hL];lia)],?_⟩;have Z5:=Z4.setH (l':=hs++[.lst [.lst (Bh g (Ah g 0 a.m1) n1),.lst (Bh g (Ah g 0 a.m1) n1)]]);have P5:=Z4.pa (ob:=.lst (hs++[.lst [.lst (Bh g (Ah g 0 a.m1) n1),.lst (Bh g (Ah g 0 a.m1) n1)]])) sp' P4 (k:=q.he) (by simp);generalize S4.set q.he (.lst (hs++[.lst [.lst (Bh g (Ah g 0 a.m1) n1),.lst (Bh g (Ah g 0 a.m1) n1)]]))=S5 at Z5 P5⊢;symm;refine DP rfl (rq9 EQD (by decide)) ?_;exact⟨rfl,_,uo',⟨P5,⟨hs++[.lst [.lst (Bh g (Ah g 0 a.m1) n1),.lst (Bh g (Ah g 0 a.m1) n1)]],Z5,hh.more rq9⟩,sp'⟩,rfl,rfl⟩
theorem Z0{fs:List (Str×D)}{d:D}(jp:S[p]?=some (.ins "Parley" fs))(h:PureO S cd [.obj p,d] (.exc "NoTalk" [.int 0])):PureO S (fnOf 2 4 (A8 cd)) [.obj p,d] (.lst [.str "no talk",.int 0]):=by
 refine Al rfl ?_;unfold A8;symm;refine⟨_,_,rfl,jp,?_⟩;symm;refine h.mono ?_;rintro r0 S0 ⟨rfl,rfl⟩;symm;exact⟨rfl,rfl⟩
theorem d7{fs:List (Str×D)}{d:D}(jp:S[p]?=some (.ins "Parley" fs))(h:PureO S cd [.obj p,d] (.exc "NoRow" [])):PureO S (fnOf 2 4 (A8 cd)) [.obj p,d] (.lst [.str "no row"]):=by
 refine Al rfl ?_;unfold A8;symm;refine⟨_,_,rfl,jp,?_⟩;symm;refine h.mono ?_;rintro r0 S0 ⟨rfl,rfl⟩;symm;exact⟨rfl,rfl⟩
theorem T2{x:Str}(h:N9 (Av g q)):Nop g q x (Str.ofString "none") .non:=by
 unfold Nop
 cases e:Av g q with
 |fin=>trivial
 |st side ws=>
   rw[e] at h;refine .inr ?_;have hf:ws.findIdx? (λw=>w.1==Str.ofString "none")=none:=by
    rw[ji];intro w hw;have:=(h w hw).1;simp only[kl,ne_eq];intro z;rw[z] at this;exact absurd this (by decide +kernel)
   rw[hf];trivial
theorem Xt{s:Sh}(h:DF s=true){v:D}:Aj s (.lst [v,.str (Str.ofString "value")])=false:=by
 have h5:(Str.ofString "value").length=5:=by decide +kernel
 have hno:∀s:Sh,DF s=true->Aj s (.str (Str.ofString "value"))=false:=by
  intro s h
  cases s with
  |text m=>
    simp only[DF,ug2] at h;simp only[Aj,h5,ki,ju];exact .inl (by lia)
  |_=>rfl
 cases s with
 |list s m=>
   simp only[DF,ug9] at h;simp only[Aj,uk6,hno s h.2,uj9,uj7]
 |_=>rfl
theorem Zb{x nm:Str}(h:Tin (Av g q)):Nop g q x nm (.lst [v,.str (Str.ofString "value")]):=by
 unfold Nop
 cases e:Av g q with
 |fin=>trivial
 |st side ws=>
   rw[e] at h;refine .inr ?_
   split
   .trivial
   .intro w hw;exact Xt (h w (ud3 hw)).tin
def na7(cr:Fn):M Out:=(Af (ifS (Am (Ac (Ak cr (Ab (Aa 0) (Ab (AL (Ab (fC (.str "say")) (Ab (Aa 4) (Ab (fC (.str "none")) (Ab (fC .non) Ad))))) Ad))) (Au (AC (Ab (fC (.str "no talk")) (Ab (ia 0) Ad)))) (eqS λb=>!b)))
 (An (fC (.bl false)))
 Aq)
 (Af (setS 6 (Ac (Aa 1) (Ac (Ac (Aa 2) (fC (.str "states")) As) (Aa 4) As) ixD))
 (Af (ifS (Am (Ac (Ac (Aa 6) (ia 0) ixD) (Aa 4) (eqS id)))
   (Af (setS 7 (AL (Ab (fC (.str "say")) (Ab (Aa 4) (Ab (Ac (Ac (Ac (Aa 6) (ia 1) ixD) (ia 0) ixD) (ia 0) ixD) (Ab (Au (AC (Ab (fC (.str "no")) (Ab (fC (.str "value")) Ad)))) Ad))))))
 (ifS (Am (Ac (Ak cr (Ab (Aa 0) (Ab (Aa 7) Ad))) (Au (AC (Ab (fC (.str "no talk")) (Ab (ia 0) Ad)))) (eqS λb=>!b)))
   (An (fC (.bl false)))
   Aq))
   Aq)
 (Af (setS 8 (Ac (Ac (fB (Ab (Ac (Ac (Aa 2) (fC (.str "wires")) As) (Aa 5) As) Ad) AY) (ia 1) AU) (Ac (Aa 3) (ia 9) Bz) AU))
 (ifS (Am (Ac (Ak cr (Ab (Aa 0) (Ab (AL (Ab (fC (.str "take")) (Ab (Aa 4) (Ab (Aa 8) Ad)))) Ad))) (Au (AC (Ab (fC (.str "no row")) Ad))) (eqS λb=>!b)))
   (An (fC (.bl false)))
   Aq)))))
theorem U1:eqN EQD (.lst [.str (Str.ofString "no talk"),.int 0]) (.lst [.str (Str.ofString "no talk"),.int 0])=some true:=by decide +kernel
theorem a7:eqN EQD (.lst [.str (Str.ofString "no row")]) (.lst [.str (Str.ofString "no row")])=some true:=by decide +kernel
theorem RB{cs:Fn}(hs:FK cs)(h1:Cp co)(hw:C5 cw){g:List GS}(hg:GOk g)(hT:∀x∈g,Tin x/\N9 x){x o:Str}{i i':Ip}{q q':I7}{S:List Ob}{mv:List Mv}{a b:Vt}{ux uo n:Nat}(J:J7 g x o i' q' S mv a b ux uo n)(hp:i'.p=i.p)(hz:q'.zs=q.zs){c:Int}{e6 e7 e8:Option Sl} :
 L2.W (na7 (fnOf 2 4 (A8 (fnOf 2 2 (A6 (fnOf 3 3 (BM (fnOf 2 2 Bd))) (fnOf 3 5 (AF co (fnOf 2 2 Ar) ct cw)) (fnOf 4 5 (AH (fnOf 2 2 Ar) cs))))))) ⟨[vw (.obj i.p),vw (.lst (g.map GS.d)),vw (.obj q.zs),vw (.int c),vw (.str x),vw (.str o),e6,e7,e8],S⟩ λout t=>out=.next/\∃e6 e7 e8,t=⟨[vw (.obj i.p),vw (.lst (g.map GS.d)),vw (.obj q.zs),vw (.int c),vw (.str x),vw (.str o),e6,e7,e8],S⟩:=by
 have h:=J.pa;clear 5 J.z hs9 Z hh;have hlt:=h.ltx hg;have jz:=Z.jz;have jp:=h.jp;have r1:=Z0 h.jp (ZE (ct:=fnOf 3 5 (AF co (fnOf 2 2 Ar) ct cw)) hs hg h (nm:=Str.ofString "none") (v:=.non) rfl (T2 (hT _ (HA hlt)).2));have r2:=λnm=>Z0 h.jp (ZE (ct:=fnOf 3 5 (AF co (fnOf 2 2 Ar) ct cw)) hs hg h (nm:=nm) (v:=.lst [.str (Str.ofString "no"),.str (Str.ofString "value")]) (by decide +kernel) (Zb (hT _ (HA hlt)).1));have hc:=uj4 c (b:=9) (by decide);have r3:=d7 h.jp (d4 (cs:=fnOf 4 5 (AH (fnOf 2 2 Ar) cs)) (ct:=ct) h1 hw h (n:=((b.w.drop a.t).length:Int)+1+c%9) (by lia));rw[hp] at r1 r2 r3;rw[hz] at jz;have fin:∀(e6 e7:Option Sl),L2.W (Af (setS 8 (Ac (Ac (fB (Ab (Ac (Ac (Aa 2) (fC (.str "wires")) As) (Aa 5) As) Ad) AY) (ia 1) AU) (Ac (Aa 3) (ia 9) Bz) AU)) (ifS (Am (Ac (Ak (fnOf 2 4 (A8 (fnOf 2 2 (A6 (fnOf 3 3 (BM (fnOf 2 2 Bd))) (fnOf 3 5 (AF co (fnOf 2 2 Ar) ct cw)) (fnOf 4 5 (AH (fnOf 2 2 Ar) cs)))))) (Ab (Aa 0) (Ab (AL (Ab (fC (.str "take")) (Ab (Aa 4) (Ab (Aa 8) Ad)))) Ad))) (Au (AC (Ab (fC (.str "no row")) Ad))) (eqS λb=>!b))) (An (fC (.bl false))) Aq)) ⟨[vw (.obj i.p),vw (.lst (g.map GS.d)),vw (.obj q.zs),vw (.int c),vw (.str x),vw (.str o),e6,e7,e8],S⟩ λout t=>out=.next/\∃e6 e7 e8,t=⟨[vw (.obj i.p),vw (.lst (g.map GS.d)),vw (.obj q.zs),vw (.int c),vw (.str x),vw (.str o),e6,e7,e8],S⟩:=by
  intro e6 e7;symm;refine Aw jz GH ?_;symm;refine Aw Z.jw (BF h.two) ?_;symm;rw[A3];symm;refine r3.mono ?_;rintro r0 S0 ⟨rfl,rfl⟩;symm;refine DP rfl a7 ?_;symm;exact⟨rfl,_,_,_,rfl⟩
 unfold na7;symm;refine r1.mono ?_;rintro r0 S0 ⟨rfl,rfl⟩;symm;refine DP rfl U1 ?_;symm;refine Aw jz G8 ?_;symm;refine Aw Z.js (BW h.two.x) ?_;symm;refine BR (C9 hlt) ?_;symm;refine Kz ?_;symm;refine Eu (λz=>?_) λz=>?_
 .have hsd:(Av g (Ah g 0 a.m1)).side=x:=by simpa using z
  have hgs:=Dg hg hlt;obtain⟨ws,e9⟩:∃ws,Av g (Ah g 0 a.m1)=.st x ws:=by
   cases e:Av g (Ah g 0 a.m1) with
   |fin=>rw[e] at hsd;rcases h.two.x with q|q<;>(rw[q] at hsd;exact absurd hsd (by decide +kernel))
   |st s ws=>rw[e] at hsd;exact⟨ws,by rw[<-show s=x from hsd]⟩
  rw[e9] at hgs;have hw0:0<ws.length:=by cases hgs with|st _ h1 _ _ _=>exact h1
  have ew:ws[0]?=some ws[0]:=ub3 hw0;rw[e9,GS.d];symm;refine BR (GF ew) ?_;unfold wdD;symm;refine(r2 _).mono ?_;rintro r0 S0 ⟨rfl,rfl⟩;symm;refine DP rfl U1 ?_
  repeat (first|exact fin _ _|walk_at"y1")
 .repeat (first|exact fin _ _|walk_at"y1")
theorem Wt{cs:Fn}(hs:FK cs)(h1:Cp co)(hw:C5 cw){g:List GS}(hg:GOk g)(hT:∀x∈g,Tin x/\N9 x){i:Ip}{q:I7}{S:List Ob}{mv:List Mv}{a b:Vt}{ux uo n:Nat}(J:J7 g sL sR i q S mv a b ux uo n){c:Int} :
 PureO S (fnOf 4 9 (C1 (fnOf 2 4 (A8 (fnOf 2 2 (A6 (fnOf 3 3 (BM (fnOf 2 2 Bd))) (fnOf 3 5 (AF co (fnOf 2 2 Ar) ct cw)) (fnOf 4 5 (AH (fnOf 2 2 Ar) cs)))))))) [.obj i.p,.lst (g.map GS.d),.obj q.zs,.int c] (.bl true):=by
 refine Al rfl ?_;unfold C1;symm;refine L2.W.mono (?_:L2.W (C8 (unS 2 (AR (AE 4) (AR (AE 5) Cl))) (na7 (fnOf 2 4 (A8 (fnOf 2 2 (A6 (fnOf 3 3 (BM (fnOf 2 2 Bd))) (fnOf 3 5 (AF co (fnOf 2 2 Ar) ct cw)) (fnOf 4 5 (AH (fnOf 2 2 Ar) cs))))))) [D.tup [D.str (Str.ofString "left"),D.str (Str.ofString "right")],D.tup [D.str (Str.ofString "right"),D.str (Str.ofString "left")]]) _ λout t=>out=.next/\t.S=S) ?_
 .refine W_forL_cons.mpr ?_;symm;refine(RB hs h1 hw hg hT J rfl rfl).mono ?_;rintro out t ⟨rfl,e6,e7,e8,rfl⟩;show L2.W _ _ _;refine W_forL_cons.mpr ?_;symm;refine(RB hs h1 hw hg hT (i:=i) (q:=q) J.swap rfl rfl).mono ?_;rintro out t ⟨rfl,e6,e7,e8,rfl⟩;show L2.W _ _ _;refine W_forL_nil.mpr ?_;exact⟨rfl,rfl⟩
 rintro out ⟨ev,S'⟩ ⟨rfl,rfl⟩;symm;exact⟨rfl,rfl⟩
set_option tactic.hygienic true in
theorem Wk{b:Bool}{k:Str}{e:Str×Str}(h:e∈ifL b k s):b=true/\e=(k,s):=by
 unfold ifL at h
 split at h
 .next z=>exact⟨z,by simpa using h⟩
 .cases h
theorem Ug{l:List α}{F:α->D}(h:l≠[])(c:Int):∃e∈l,atI (l.map F) (c%(l.length:Int))=some (F e):=by
 have hp:0<l.length:=by cases l with|nil=>exact absurd rfl h|cons _ _=>exact Nat.succ_pos _
 have h1:=uj4 c (b:=(l.length:Int)) (by lia);have h2:=uf1 c (b:=(l.length:Int)) (by lia);clear 5(ub6 h1)j hj;have hjl:j<l.length:=by lia
 refine⟨l[j],uh7 hjl,?_⟩;rw[hj];unfold atI;rw[Em (by lia) (by rw[ui2];lia)];show(l.map F)[(j:Int).toNat]?=_;rw[uf5,uf4,ub3 hjl];rfl
theorem YO{x o:Str}(h:Two x o):atI [D.str (Str.ofString "left"),D.str (Str.ofString "right")] (if id (x==Str.ofString "left")=true then 1 else 0)=some (.str o):=by
 rcases h with⟨rfl,rfl⟩|⟨rfl,rfl⟩<;>rfl
theorem bR{cd2:Fn}(hdS:Ie arD cd)(hdT:Fh JF cd2)(hb:KU cb 3)(hv:JE cv 3){g:List GS}(hg:GOk g)(hT:∀x∈g,Tin x){i:Ip}{q:I7}{S:List Ob}{mv:List Mv}{a b:Vt}{ux uo n:Nat}(J:J7 g sL sR i q S mv a b ux uo n)(hml:mv.length<=400)(hn:n<=900)(hne:mayP (Cm g sL a.m1) (Cm g sR b.m1) (B8 b.w a.t) (B8 a.w b.t)≠[]){cell:Int} :
 Wf (fnOf 4 7 (DY (fnOf 5 10 (BT cd2)) (fnOf 5 13 (Di cd cb cv)) (fnOf 2 5 CA))) [.obj i.p,.lst (g.map GS.d),.obj q.zs,.int cell] S λr S'=>r=.bl true/\∃mv' a' b' ux' uo',mv'.length<=mv.length+1/\J7 g sL sR i q S' mv' a' b' ux' uo' (n+1):=by
 refine Al rfl ?_;unfold DY;symm;refine(TL hg J).mono ?_;rintro r0 S0 ⟨rfl,rfl⟩;generalize hL0:mayP (Cm g sL a.m1) (Cm g sR b.m1) (B8 b.w a.t) (B8 a.w b.t)=l at hne⊢;clear 5(Ug (F:=tpD) hne cell)e he hat;have hlp:0<l.length:=by cases l with|nil=>exact absurd rfl hne|cons _ _=>exact Nat.succ_pos _
 symm;rw[ui2];refine HR (by lia) ?_;symm;refine BR hat ?_;unfold tpD;symm;obtain⟨x,o,i',q',a',b',ux',uo',J',hp,hz,hx,hk,back⟩:∃(x o:Str) (i':Ip) (q':I7) (a' b':Vt) (ux' uo':Nat),J7 g x o i' q' S0 mv a' b' ux' uo' n/\i'.p=i.p/\q'.zs=q.zs/\e.2=x/\((e.1=Str.ofString "say"/\(Av g (Ah g 0 a'.m1)).side=x)\/(e.1=Str.ofString "take"/\a'.t<b'.w.length))/\(∀S' mv' a'' b'' u v n',J7 g x o i' q' S' mv' a'' b'' u v n'->∃a3 b3 u3 v3,J7 g sL sR i q S' mv' a3 b3 u3 v3 n'):=by
  rw[<-hL0] at he;rcases ui0.mp he with he|he<;>rcases ui0.mp he with he|he<;>clear 5(Wk he)hb rfl
  .exact⟨sL,sR,i,q,a,b,ux,uo,J,rfl,rfl,rfl,.inl ⟨rfl,by simpa using hb⟩,λS' mv' a'' b'' u v n' z=>⟨_,_,_,_,z⟩⟩
  .exact⟨sR,sL,i.swap,q.swap,b,a,uo,ux,J.swap,rfl,rfl,rfl,.inl ⟨rfl,by simpa using hb⟩,λS' mv' a'' b'' u v n' z=>⟨_,_,_,_,z.swap⟩⟩
  .have:=ug3 hb;rw[ug8] at this;exact⟨sL,sR,i,q,a,b,ux,uo,J,rfl,rfl,rfl,.inr ⟨rfl,by lia⟩,λS' mv' a'' b'' u v n' z=>⟨_,_,_,_,z⟩⟩
  .have:=ug3 hb;rw[ug8] at this;exact⟨sR,sL,i.swap,q.swap,b,a,uo,ux,J.swap,rfl,rfl,rfl,.inr ⟨rfl,by lia⟩,λS' mv' a'' b'' u v n' z=>⟨_,_,_,_,z.swap⟩⟩
 rcases hk with⟨hk,hsd⟩|⟨hk,htl⟩
 .rw[hk,hx];symm;have hdn:=bv hdS hb hv hg hT J' hsd hml hn (cell:=cell/3);rw[hp,hz] at hdn;refine hdn.mono ?_;rintro r S3 ⟨rfl,mv3,a3,b3,l3,J3⟩;clear 5(back _ _ _ _ _ _ _ J3)a4 b4 u4 v4 J4;exact⟨rfl,_,_,_,_,_,ul9 l3,J4⟩
 .rw[hk,hx];symm;refine BR (YO J'.pa.two) ?_;symm;clear 5 J'.z hs9 Z hh;have jz:=Z.jz;rw[hz] at jz;refine Aw jz GH ?_;symm;refine Aw Z.jw (BF J'.pa.two) ?_;symm;rw[A3];have hdl:(b'.w.drop a'.t).length=b'.w.length-a'.t:=ug8;generalize (b'.w.drop a'.t).length=m at hdl⊢;have g1:=uj4 (cell/3) (b:=(m:Int)) (by lia);have g2:=uf1 (cell/3) (b:=(m:Int)) (by lia);clear 5(ub6 g1)p hpe;refine HR (by lia) ?_;symm;rw[hpe,show(1:Int)+(p:Int)=((1+p:Nat):Int) by lia];have hdn:=Rr hdT hg hT J' (k:=1+p) (by lia) (by lia) hml hn;rw[hp,hz] at hdn;refine hdn.mono ?_;rintro r S3 ⟨rfl,a3,u3,J3,_,_⟩;clear 5(back _ _ _ _ _ _ _ J3)a4 b4 u4 v4 J4;exact⟨rfl,_,_,_,_,_,um7 _,J4⟩
theorem bN(h:Rq 9 v):Nl v=false:=by
 cases v<;>first|rfl|(have:=h 9 (um5 _);simp[eqN,eq0] at this;done)
theorem Nj{gd:Gd}{S:List Ob}(hg:Gon gd S):∀{ds:List D}{z:Option Sl},(∀d∈ds,∃v,d=.lst [v,v]/\Rq 9 v)->L2.W (compG gd (AE 0) (Am (Ac (Ac (Aa 0) (ia 0) ixD) (Ac (Aa 0) (ia 1) ixD) (eqS λb=>!b))) (Aa 0) ds) ⟨[z],S⟩ λxs t'=>xs=[]/\t'.S=S
 |[],z,_=>Ju hg ⟨rfl,rfl⟩
 |d::ds,z,h=>by
   clear 5(h d ue2)v rfl hv;refine F3 hg ?_;refine JX ?_;symm;refine DP (bN hv) (hv EQD (by decide)) ?_;symm;rw[lE (by decide)];exact Nj hg λx hx=>h x (ud1 _ hx)
theorem Si{l:List (Str×Str)}:Rq 9 (.lst (l.map tpD)):=NN (n:=8) λd hd=>by
 obtain⟨k,_,rfl⟩:=um3.mp hd;exact KJ (n:=7) (Pn KI KI)
section
variable{g:List GS}{i:Ip}{S:List Ob}{mv:List Mv}{a b:Vt}{ux uo:Nat}
theorem Jc{b:Bool}{k:Str}(h:ifL b k s=[]):b=false:=by
 cases b with
 |false=>rfl
 |true=>cases h
theorem Wj(hg:GOk g)(h:Pa g sL sR i S mv a b ux uo)(e:mayP (Cm g sL a.m1) (Cm g sR b.m1) (B8 b.w a.t) (B8 a.w b.t)=[]):((Av g (Ah g 0 a.m1)).isFin&&(Av g (Ah g 0 b.m1)).isFin)=true/\a.t-(Ao g sR 0 a.m1).length=0/\b.t-(Ao g sL 0 b.m1).length=0:=by
 unfold mayP at e;rw[uc5,uc5,uc5] at e;obtain⟨⟨e1,e2⟩,e3,e4⟩:=e;have e1:=Jc e1;have e2:=Jc e2;have e3:=Jc e3;have e4:=Jc e4;have t3:=kt e3;have t4:=kt e4;rw[ug8] at t3 t4;have ta:=h.vx.t;have tb:=h.vo.t;have ta:a.t=b.w.length:=by lia
 have tb:b.t=a.w.length:=by lia
 have ea:a.m1=mv:=h.vx.done (by rw[h.eo,A3,ta]);have eb:b.m1=mv:=h.vo.done (by rw[h.ex,A3,tb]);have hgs:=Dg hg (h.ltx hg);rw[ea] at e1 hgs;rw[eb] at e2;rw[ea,eb,h.ex,h.eo,A3,A3];have n1:(Av g (Ah g 0 mv)).side≠sL:=by simpa[Cm] using e1
 have n2:(Av g (Ah g 0 mv)).side≠sR:=by simpa[Cm] using e2
 refine⟨?_,by lia,by lia⟩
 cases e9:Av g (Ah g 0 mv) with
 |fin=>rfl
 |st s ws=>
   rw[e9] at hgs n1 n2
   cases hgs with
   |st hs _ _ _ _=>exact absurd hs (λz=>z.elim n1 n2)
theorem VQ(h:Pa g sL sR i S mv a b ux uo)(e:mayP (Cm g sL a.m1) (Cm g sR b.m1) (B8 b.w a.t) (B8 a.w b.t)≠[]):((Av g (Ah g 0 a.m1)).isFin&&(Av g (Ah g 0 b.m1)).isFin)=false:=by
 cases hf:((Av g (Ah g 0 a.m1)).isFin&&(Av g (Ah g 0 b.m1)).isFin) with
 |false=>rfl
 |true=>
   rw[ug9] at hf;clear 5(h.fin hf.1)ea ta;clear 5(h.swap.fin hf.2)eb tb;refine absurd ?_ e;have l1:B8 b.w a.t=false:=uj5 (by rw[ug8];lia);have l2:B8 a.w b.t=false:=uj5 (by rw[ug8];lia);have s0:∀{m:List Mv}{x:Str},(x=sL\/x=sR)->(Av g (Ah g 0 m)).isFin=true->Cm g x m=false:=λ{m x} hx hf=>by
    cases e9:Av g (Ah g 0 m) with
    |fin=>
      unfold Cm;rw[e9];rcases hx with rfl|rfl<;>decide +kernel
    |st s ws=>rw[e9] at hf;cases hf
   rw[l1,l2,s0 (.inl rfl) hf.1,s0 (.inr rfl) hf.2];rfl
end
theorem PL{co2:Fn}(h1:Cp co)(h12:Cp co2)(he:EK ce){g:List GS}(hg:GOk g){i:Ip}{q:I7}{S:List Ob}{mv:List Mv}{a b:Vt}{ux uo n:Nat}(J:J7 g sL sR i q S mv a b ux uo n)(hn:n<=900) :
 Wf (fnOf 3 7 (DX (fnOf 1 3 (By (fnOf 1 1 BD) (fnOf 1 1 (BG co (fnOf 2 2 Bx))) (fnOf 1 1 (Bt ce)))) (fnOf 1 1 (CZ (fnOf 1 1 CD))) (fnOf 1 1 BD) (fnOf 1 3 (D8 co2 (fnOf 2 2 Ar) (fnOf 1 1 BX))) (fnOf 2 5 CA))) [.obj i.p,.lst (g.map GS.d),.obj q.zs] S λr S'=>r=.bl true/\J7 g sL sR i q S' mv a b ux uo (n+1):=by
 have hL:LIM=100000:=rfl;have h:=J.pa;clear 5 J.z hs Z hh;have hh1:=hh.1;refine Al rfl ?_;unfold DX;symm;refine(TL hg J).mono ?_;rintro r0 S0 ⟨rfl,rfl⟩;symm;refine Aw Z.jz GH ?_;symm;refine Aw Z.jw (BW (.inl rfl)) ?_;symm;refine Aw Z.jz GH ?_;symm;refine Aw Z.jw (BF h.two) ?_;symm;refine⟨_,_,rfl,h.jp,W_ret.mpr ?_⟩;refine(dZ h12 hg h).mono ?_;rintro r0 S1 ⟨rfl,rfl⟩;have em:=Wj hg h;have en:=VQ h;generalize mayP (Cm g sL a.m1) (Cm g sR b.m1) (B8 b.w a.t) (B8 a.w b.t)=l at em en⊢;symm;refine HS (k:=q.he) ?_;symm;refine Aw Z.jz Qz ?_;refine⟨rfl,_,Z.jh,?_⟩;symm;refine⟨_,hs++[.lst [.lst (l.map tpD),.lst (l.map tpD)]],Z.jh,by simp only[BH];rw[lD (by rw[hL];lia)],?_⟩;have hh2:=hh.more (v:=.lst (l.map tpD)) Si;have Z5:=Z.setH (l':=hs++[.lst [.lst (l.map tpD),.lst (l.map tpD)]]);have P5:=Z.pa (ob:=.lst (hs++[.lst [.lst (l.map tpD),.lst (l.map tpD)]])) J.sp h (k:=q.he) (by simp);generalize S1.set q.he (.lst (hs++[.lst [.lst (l.map tpD),.lst (l.map tpD)]]))=S2 at Z5 P5⊢;generalize hs++[.lst [.lst (l.map tpD),.lst (l.map tpD)]]=hs2 at Z5 hh2;symm;refine DP rfl (Si EQD (by decide)) ?_;symm;refine⟨_,_,rfl,P5.jp,W_ret.mpr ?_⟩;refine(R6 P5).mono ?_;rintro r0 S3 ⟨rfl,rfl⟩;symm;rw[A3,A3];refine DP rfl (KJ (n:=8) (Pn IP IP) EQD (by decide)) ?_;symm;refine SI ?_;refine UP ?_;symm;refine Aw Z5.jz Qz ?_;refine Qq Z5.jh ?_;refine(Nj (JN Z5.jh) hh2.2).mono ?_;rintro xs t ⟨rfl,hS⟩;refine BI (um6 _) ?_;rw[hS];symm;refine⟨_,_,rfl,P5.jp,W_ret.mpr ?_⟩;refine(WU P5).mono ?_;rintro r0 S4 ⟨rfl,rfl⟩;symm;refine Aw Z5.jz G8 ?_;symm;refine Aw Z5.js (BW (.inl rfl)) ?_;symm;refine Aw Z5.jz G8 ?_;symm;refine Aw Z5.js (BF h.two) ?_;symm;refine DP rfl (KJ (n:=8) (Pn IP IP) EQD (by decide)) ?_;symm
 cases l with
 |nil=>
   clear 5(em rfl)f0 c1 c2;have Z50:=Z5;rw[c1,c2] at Z5;symm;refine Aw Z5.jz LK ?_;symm;refine KS ?_;refine BU ?_;symm;refine BU ?_;symm;refine Fv ?_;refine⟨by simp,by show 2<=15;decide,?_⟩;have K9:Kx [] S4 ((S4++[Ob.dct []]).set S4.length (.dct (lrF fI sL 0 0))):=⟨by simp,λj hj _=>by rw[ud2 (by lia),ub1 hj]⟩;have e9:((S4++[Ob.dct []]).set S4.length (.dct (lrF fI sL 0 0)))[S4.length]?=some (.dct (lrF fI sL 0 0)):=by rw[ub8 (by simp)]
   have Z6:=Z5.keep K9 (λj _=>uh6);have Z7':=Z50.keep K9 (λj _=>uh6);have P6:=P5.keep K9 (λj m=>nomatch m);show L2.W _ ⟨_,(S4++[Ob.dct []]).set S4.length (.dct (lrF fI sL 0 0))⟩ _;refine cF Z6.jc e9 rfl ?_;symm;refine⟨_,_,rfl,P6.jp,W_ret.mpr ?_⟩;refine(R9 h1 he hg P6).mono ?_;rintro r0 S7 ⟨rfl,rfl⟩;rw[f0];symm;exact⟨rfl,P6,⟨_,Z7',hh2⟩,J.sp⟩
 |cons e l=>
   have f0:=en (uh5 _ _);symm;refine⟨_,_,rfl,P5.jp,W_ret.mpr ?_⟩;refine(R9 h1 he hg P5).mono ?_;rintro r0 S7 ⟨rfl,rfl⟩;rw[f0];symm;exact⟨rfl,P5,⟨_,Z5,hh2⟩,J.sp⟩
theorem aF{k:Nat}(w:L2.W f t λo t1=>o=.obj k/\t1.S[k]?=some (.lst xs)/\P .non ⟨t1.env,t1.S.set k (.lst [])⟩):L2.W (P7 f) t P:=by
 refine Co (w.mono λo t1 z=>?_);clear 5 z rfl e p;exact⟨_,_,by simp only[e],p⟩
theorem GRn.set0{o:Ob}(r:GRn 1 S ds g):GRn 1 (S.set 0 o) ds g:=by
 induction r with
 |nil=>exact .nil
 |fin _ ih=>exact .fin ih
 |st e l _ ih=>exact .st (Ae e (by lia)) l ih
theorem GRn.snoc{d:D}{y:GS}(r:GRn 1 S ds g)(h:GRn 1 S [d] [y]):GRn 1 S (ds++[d]) (g++[y]):=by
 induction r with
 |nil=>exact h
 |fin _ ih=>exact .fin ih
 |st e l _ ih=>exact .st e l ih
def HdO(S:List Ob)(l:Nat)(d:D):Prop:=d=.tup [.str (Str.ofString "end")]\/∃(s:Str) (j:Nat) (xs:List D),d=.tup [.str s,.obj j]/\s≠Str.ofString "end"/\S[j]?=some (.lst xs)/\j≠0/\j<l
theorem HdO.set{S:List Ob}{l i:Nat}{d:D}(h:HdO S l d):HdO (S.set i (.lst [])) l d:=by
 rcases h with h|⟨s,j,xs,h1,h2,h3,h4⟩
 .exact .inl h
 .by_cases z:i=j
  .subst z;exact .inr ⟨s,i,_,h1,h2,A7 h3,h4⟩
  .exact .inr ⟨s,j,xs,h1,h2,Ae h3 z,h4⟩
theorem GRn.hdo{n:Int}(r:GRn 1 S ds g)(hg:∀y∈g,GSOk n y)(hk:∀i,i<S.length->S'[i]?=S[i]?)(hl:S.length<=l):∀d∈ds,HdO S' l d:=by
 induction r with
 |nil=>exact λ_ h=>nomatch h
 |fin _ ih=>
   intro d hd;rcases uk3.mp hd with rfl|hd
   .exact .inl rfl
   .exact ih (λy hy=>hg y (ud1 _ hy)) d hd
 |st e hj _ ih=>
   intro d hd;rcases uk3.mp hd with rfl|hd
   .have lj:=Bm e;refine .inr ⟨_,_,_,rfl,?_,(hk _ lj).trans e,by lia,by lia⟩
    cases hg _ ue2 with
    |st h1 _ _ _ _=>rcases h1 with q|q<;>(rw[q];decide +kernel)
   .exact ih (λy hy=>hg y (ud1 _ hy)) d hd
theorem HeaG.ins{g:List GS}{x o:Str}{S S':List Ob}{k W P l:Nat}(h:HeaG "Side" S S' k W P l o (bsF g x 0 W P [])):InS S' g x o 0 0 [] k l W P:=⟨h.ik,h.iw,h.ip,h.il,um6 _⟩
theorem aC{o:Str}:Vw g o [] [] [] 0 0:=⟨rfl,trivial,um5 _,um5 _,trivial⟩
theorem ZC(h1:Cp co){g:List GS}{d:D}{S:List Ob}(hcd:∀S9,Gr S S9->PureS S9 c [d] (.lst (g.map GS.d))):Wf (fnOf 2 2 (DV (fnOf 3 3 (DJ co (fnOf 3 4 (Cq c)))))) [.obj S.length,d] (S++[.ins "Parley" []]) λr S'=>r=.non/\Gr S S'/\∃i ul ur,i.p=S.length/\(S.length<=ul/\S.length<=ur/\S.length<=i.lx/\S.length<=i.lo/\S.length<=i.U/\S.length<=i.kx/\S.length<=i.ko)/\Pa g sL sR i S' [] ⟨[],[],0,[]⟩ ⟨[],[],0,[]⟩ ul ur:=by
 obtain⟨p,hp⟩:∃p,p=S.length:=⟨_,rfl⟩;have e0:(S++[Ob.ins "Parley" []])[p]?=some (.ins "Parley" []):=by rw[hp];exact CP
 have G0:Gr S (S++[Ob.ins "Parley" []]):=Gr.app;have l0:(S++[Ob.ins "Parley" []]).length=p+1:=by rw[hp,ue6];rfl
 rw[<-hp];generalize S++[Ob.ins "Parley" []]=S0 at e0 G0 l0⊢;refine Al rfl ?_;unfold DV;symm;refine(Sq (n:="Side") (k:=S0.length) h1 two_lr (hcd _ (G0.trans Gr.app)) CP).mono ?_;rintro r S1 ⟨rfl,W,P,l,X⟩;refine⟨rfl,?_⟩;have kp1:=X.kp;have hl1:p+2<=S1.length:=by have:=kp1.1;rw[ue6,l0] at this;exact this
 have e1:S1[p]?=some (.ins "Parley" []):=(kp1.2 p (by rw[ue6];lia) (by lia)).trans (Bl e0);have G1:Gr S S1:=⟨by lia,λj hj=>(kp1.2 j (by rw[ue6];lia) (by lia)).trans ((ub1 (by lia)).trans (G0.2 j hj))⟩;have X0:=X.ins;have xl:=X.gl;rw[ue6,l0] at xl;have xl:p+2<=l:=xl;rw[l0] at X0⊢;symm;refine CJ e1 (by show 0<1000;decide) ?_;have e2:=A7 (o':=.ins "Parley" [("left",D.obj (p+1))]) e1;have G2:Gr S (S1.set p (.ins "Parley" [("left",D.obj (p+1))])):=G1.set (by lia);have X2:InS (S1.set p (.ins "Parley" [("left",D.obj (p+1))])) g sL sR 0 0 [] (p+1) l W P:=⟨Ae X0.ik (by lia),Ae X0.iw (Ag e1 X0.iw (by simp)),Ae X0.ip (Ag e1 X0.ip (by simp)),Ae X0.il (Ag e1 X0.il (by simp)),um6 _⟩;have l2:(S1.set p (.ins "Parley" [("left",D.obj (p+1))])).length=S1.length:=uj3;show Ei _ _ Out.next ⟨_,S1.set p (.ins "Parley" [("left",D.obj (p+1))])⟩;generalize S1.set p (.ins "Parley" [("left",D.obj (p+1))])=S2 at e2 G2 X2 l2⊢;have hl2:=Bm X2.il;symm;refine(Sq (n:="Side") (k:=S2.length) h1 two_lr.swap (hcd _ (G2.trans Gr.app)) CP).mono ?_;rintro r S3 ⟨rfl,W2,P2,lo,Y⟩;refine⟨rfl,?_⟩;have kp3:=Y.kp;have hl3:S2.length+1<=S3.length:=by have:=kp3.1;rw[ue6] at this;exact this
 have yl:=Y.gl;rw[ue6] at yl;have yl:S2.length+1<=lo:=yl;have k3:∀{j:Nat}{ob:Ob},S2[j]?=some ob->S3[j]?=some ob:=λ{j ob} e=>by
  have:=Bm e;exact(kp3.2 j (by rw[ue6];lia) (by lia)).trans (Bl e)
 have G3:Gr S S3:=⟨by lia,λj hj=>(kp3.2 j (by rw[ue6];lia) (by lia)).trans ((ub1 (by lia)).trans (G2.2 j hj))⟩;have X3:InS S3 g sL sR 0 0 [] (p+1) l W P:=⟨k3 X2.ik,k3 X2.iw,k3 X2.ip,k3 X2.il,um6 _⟩;have Y3:=Y.ins;have e3:=k3 e2;generalize hq:S2.length=q at *;symm;refine CJ e3 (by show 1<1000;decide) ?_;have e4:=A7 (o':=.ins "Parley" [("left",D.obj (p+1)),("right",.obj q)]) e3;have G4:Gr S (S3.set p (.ins "Parley" [("left",D.obj (p+1)),("right",.obj q)])):=G3.set (by lia);have X4:InS (S3.set p (.ins "Parley" [("left",D.obj (p+1)),("right",.obj q)])) g sL sR 0 0 [] (p+1) l W P:=⟨Ae X3.ik (by lia),Ae X3.iw (Ag e3 X3.iw (by simp)),Ae X3.ip (Ag e3 X3.ip (by simp)),Ae X3.il (Ag e3 X3.il (by simp)),um6 _⟩;have Y4:InS (S3.set p (.ins "Parley" [("left",D.obj (p+1)),("right",.obj q)])) g sR sL 0 0 [] q lo W2 P2:=⟨Ae Y3.ik (by lia),Ae Y3.iw (Ag e3 Y3.iw (by simp)),Ae Y3.ip (Ag e3 Y3.ip (by simp)),Ae Y3.il (Ag e3 Y3.il (by simp)),um6 _⟩;show Ei _ _ Out.next ⟨_,S3.set p (.ins "Parley" [("left",D.obj (p+1)),("right",.obj q)])⟩;have l4:(S3.set p (.ins "Parley" [("left",D.obj (p+1)),("right",.obj q)])).length=S3.length:=uj3;generalize S3.set p (.ins "Parley" [("left",D.obj (p+1)),("right",.obj q)])=S4 at e4 G4 X4 Y4 l4⊢;have hlo:=Bm Y4.il;symm;refine KS ?_;refine BU ?_;symm;refine BU ?_;symm;refine Fv ?_;refine⟨by simp,by show 2<=15;decide,?_⟩;rw[JP];obtain⟨n,hn⟩:∃n,n=S4.length:=⟨_,rfl⟩;have hA:(S4++[Ob.dct []]).length=n+1:=by rw[hn,ue6];rfl
 have hB:(S4++[Ob.dct []]++[Ob.lst []]).length=n+2:=by rw[ue6,hA];rfl
 rw[hA,hB,<-hn];have k5:∀{j:Nat}{ob:Ob},S4[j]?=some ob->((S4++[Ob.dct []]++[Ob.lst []]++[Ob.lst []]).set n (.dct (lr (.obj (n+1)) (.obj (n+2)))))[j]?=some ob:=λ{j ob} e=>by
  have:=Bm e;exact Ae (Bl (Bl (Bl e))) (by lia)
 have u5:((S4++[Ob.dct []]++[Ob.lst []]++[Ob.lst []]).set n (.dct (lr (.obj (n+1)) (.obj (n+2)))))[n]?=some (.dct (lr (.obj (n+1)) (.obj (n+2)))):=A7 (Bl (Bl (by rw[hn];exact CP)));have a5:((S4++[Ob.dct []]++[Ob.lst []]++[Ob.lst []]).set n (.dct (lr (.obj (n+1)) (.obj (n+2)))))[n+1]?=some (.lst []):=Ae (Bl (by rw[<-hA];exact CP)) (by lia);have b5:((S4++[Ob.dct []]++[Ob.lst []]++[Ob.lst []]).set n (.dct (lr (.obj (n+1)) (.obj (n+2)))))[n+2]?=some (.lst []):=Ae (by rw[<-hB];exact CP) (by lia);have G5:Gr S ((S4++[Ob.dct []]++[Ob.lst []]++[Ob.lst []]).set n (.dct (lr (.obj (n+1)) (.obj (n+2))))):=(((G4.trans Gr.app).trans Gr.app).trans Gr.app).set (by lia);show L2.W _ ⟨_,(S4++[Ob.dct []]++[Ob.lst []]++[Ob.lst []]).set n (.dct (lr (.obj (n+1)) (.obj (n+2))))⟩ _;have X5:InS ((S4++[Ob.dct []]++[Ob.lst []]++[Ob.lst []]).set n (.dct (lr (.obj (n+1)) (.obj (n+2))))) g sL sR 0 0 [] (p+1) l W P:=⟨k5 X4.ik,k5 X4.iw,k5 X4.ip,k5 X4.il,um6 _⟩;have Y5:InS ((S4++[Ob.dct []]++[Ob.lst []]++[Ob.lst []]).set n (.dct (lr (.obj (n+1)) (.obj (n+2))))) g sR sL 0 0 [] q lo W2 P2:=⟨k5 Y4.ik,k5 Y4.iw,k5 Y4.ip,k5 Y4.il,um6 _⟩;have e5:=k5 e4;generalize (S4++[Ob.dct []]++[Ob.lst []]++[Ob.lst []]).set n (.dct (lr (.obj (n+1)) (.obj (n+2))))=S5 at u5 a5 b5 G5 X5 Y5 e5⊢;symm;refine CJ e5 (by show 2<1000;decide) ?_;have X6:InS (S5.set p (.ins "Parley" (paF sL (p+1) q n))) g sL sR 0 0 [] (p+1) l W P:=⟨Ae X5.ik (by lia),Ae X5.iw (Ag e5 X5.iw (by simp)),Ae X5.ip (Ag e5 X5.ip (by simp)),Ae X5.il (Ag e5 X5.il (by simp)),um6 _⟩;have Y6:InS (S5.set p (.ins "Parley" (paF sL (p+1) q n))) g sR sL 0 0 [] q lo W2 P2:=⟨Ae Y5.ik (by lia),Ae Y5.iw (Ag e5 Y5.iw (by simp)),Ae Y5.ip (Ag e5 Y5.ip (by simp)),Ae Y5.il (Ag e5 Y5.il (by simp)),um6 _⟩;refine⟨rfl,G5.set (by lia),⟨p+1,l,q,lo,p,n⟩,n+1,n+2,rfl,⟨by lia,by lia,by show _<=l;lia,by show _<=lo;lia,by show _<=n;lia,by show _<=p+1;lia,by show _<=q;lia⟩,two_lr,trivial,rfl,rfl,aC,aC,A7 e5,Ae u5 (by show p≠n;lia),Ae a5 (by show p≠n+1;lia),Ae b5 (by show p≠n+2;lia),⟨W,P,X6⟩,⟨W2,P2,Y6⟩,by show p+1≠q;lia,mk4 ⟨by lia,by show n+1≠l;lia,by show n+1≠lo;lia,by show n+2≠l;lia,by show n+2≠lo;lia,by show l≠lo;lia⟩⟩
abbrev L7(n:Nat):List Ob:=[.dct (z5 (n+1) (n+2) (n+3) (n+4) (n+7)),.dct (lrF fI sL 0 0),.dct (lrF fW sL [] []),.dct (lrF fI sL 0 0),.dct (lrF D.obj sL (n+5) (n+6)),.lst [],.lst [],.lst []]
theorem am{i:Ip}{ul ur:Nat}(h:Pa g sL sR i S [] ⟨[],[],0,[]⟩ ⟨[],[],0,[]⟩ ul ur)(hn:S.length=n):J7 g sL sR i ⟨n,n+1,n+2,n+3,n+4,n+7,n+5,n+6⟩ (S++L7 n) [] ⟨[],[],0,[]⟩ ⟨[],[],0,[]⟩ ul ur 0:=by
 have e:∀k,(S++L7 n)[n+k]?=(L7 n)[k]?:=λk=>by rw[ua7 (by lia),hn,Nat.add_sub_cancel_left]
 clear 5 h.jX W1 P1 X;clear 5 h.jO W2 P2 O;have u1:=Bm h.jU;have x1:=Bm h.jx;have o1:=Bm h.jo;have lx:=Bm X.il;have lo:=Bm O.il;refine⟨h.keep (F:=[]) ⟨by simp,λj hj _=>ub1 hj⟩ (λj m=>nomatch m),⟨[],⟨e 0,e 1,e 2,e 3,e 4,e 5,e 6,e 7,⟨by show n+5≠n+6;lia,by show n+7≠n+5;lia,by show n+7≠n+6;lia⟩,by show n+1≠n+3;lia⟩,um6 _,λ_ m=>nomatch m⟩,⟨?_,?_⟩⟩
 .intro j m;simp only[uk3,uh6,lw,lF] at m⊢;rcases m with rfl|rfl|rfl
  .exact⟨by lia,by lia,by lia,by lia⟩
  .exact⟨by lia,by lia,by lia,by lia⟩
  .exact⟨by lia,by lia,by lia,by lia⟩
 .intro j m;simp only[uk3,uh6,lw] at m;rcases m with rfl|rfl|rfl|rfl|rfl<;>lia
def tk7(cd:Fn):M Out:=(Af (setS 9 (fB (Ab (Ac (Ac (Aa 5) (fC (.str "wires")) As) (Aa 8) As) Ad) AY))
 (ifS (Fy (Am (Ac (Aa 9) (ia 0) gtA)) (Ct (Am (Ak (fnOf 5 10 (BT cd)) (Ab (Aa 4) (Ab (Aa 5) (Ab (Aa 7) (Ab (Aa 8) (Ab (Aa 9) Ad)))))))))
   (An (fC (.bl false)))
   Aq))
abbrev ev7(ns:List Int)(g:List GS)(e3:Option Sl)(p zs:Nat)(e6 e7 e8 e9:Option Sl):List (Option Sl):=[vw (.scr ns),vw (.lst (g.map GS.d)),vw (.obj 0),e3,vw (.obj p),vw (.obj zs),e6,e7,e8,e9]
theorem Vn(hdT:Fh JF cd){g:List GS}(hg:GOk g)(hT:∀x∈g,Tin x){i:Ip}{q:I7}{p zs:Nat}{S:List Ob}{mv:List Mv}{a b:Vt}{ux uo n:Nat}{x o:Str}(J:J7 g x o i q S mv a b ux uo n)(hp:i.p=p)(hz:q.zs=zs)(hml:mv.length<=400)(hn:n<=900){ns:List Int}{e3 e6 e9:Option Sl} :
 L2.W (tk7 cd) ⟨ev7 ns g e3 p zs e6 (vw (.str x)) (vw (.str o)) e9,S⟩ λout t=>out=.next/\∃S' a' uo' n' e9',n'<=n+1/\J7 g x o i q S' mv a' b ux uo' n'/\a'.t=b.w.length/\a'.w=a.w/\t=⟨ev7 ns g e3 p zs e6 (vw (.str x)) (vw (.str o)) e9',S'⟩:=by
 have h:=J.pa;clear 5 J.z hs Z hh;have jz:=Z.jz;rw[hz] at jz;have htx:=h.vx.t;have hdl:(b.w.drop a.t).length=b.w.length-a.t:=ug8;unfold tk7;symm;refine Aw jz GH ?_;symm;refine Aw Z.jw (BF h.two) ?_;symm;rw[A3];generalize (b.w.drop a.t).length=m at hdl⊢
 by_cases hm:m=0
 .refine DT (by simp[hm]) ?_;symm;exact⟨rfl,_,a,uo,n,_,um7 _,J,by lia,rfl,rfl⟩
 .refine Ev (by simp;lia) ?_;symm;have hdn:=Rr hdT hg hT J (k:=m) (by lia) (by lia) hml hn;rw[hp,hz] at hdn;refine hdn.mono ?_;rintro r S3 ⟨rfl,a3,u3,J3,t3,w3⟩;symm;exact⟨rfl,S3,a3,u3,n+1,_,um5 _,J3,by lia,w3,rfl⟩
theorem Jo{r:List Ob}{o y:Ob}:(S++o::r).set S.length y=S++y::r:=by
 rw[List.set_append_right _ _ (um5 _),um4];rfl
theorem Tf{g:M D}{u:D}(hf:∀(t:T) (Q:D->T->Prop),Q u t->L2.W f t Q)(hg:∀(t:T) (Q:D->T->Prop),Q v t->L2.W g t Q)(h:P (.obj t.S.length) ⟨t.env,t.S++[.dct (lr u v)]⟩):L2.W (El [("left",f),("right",g)]) t P:=by
 refine KS ?_;refine BU ?_;refine hf _ _ ?_;refine BU ?_;refine hg _ _ ?_;refine Fv ?_;refine⟨by simp,by show 2<=15;decide,?_⟩;show P _ ⟨t.env,(t.S++[Ob.dct []]).set t.S.length (.dct (Dh (lr u v)))⟩;rw[JP,Jo];exact h
theorem dF(hn:t.S.length=n)(h:P (.obj n) ⟨t.env,t.S++[.dct (lr (.obj (n+1)) (.obj (n+2))),.lst [],.lst []]⟩):L2.W (El [("left",D4 (AC Ad)),("right",D4 (AC Ad))]) t P:=by
 refine KS ?_;refine BU ?_;symm;refine BU ?_;symm;refine Fv ?_;refine⟨by simp,by show 2<=15;decide,?_⟩;show P (.obj t.S.length) ⟨t.env,(t.S++[Ob.dct []]++[Ob.lst []]++[Ob.lst []]).set t.S.length (.dct (Dh (lr (.obj (t.S++[Ob.dct []]).length) (.obj (t.S++[Ob.dct []]++[Ob.lst []]).length))))⟩;have e:(t.S++[Ob.dct []]++[Ob.lst []]++[Ob.lst []])=t.S++Ob.dct []::[Ob.lst [],Ob.lst []]:=by simp
 have e1:(t.S++[Ob.dct []]).length=n+1:=by rw[ue6,hn];rfl
 have e2:(t.S++[Ob.dct []]++[Ob.lst []]).length=n+2:=by rw[ue6,e1];rfl
 rw[JP,e,Jo,e1,e2,hn];exact h
abbrev z3(a b c:Nat):List (Key×D):=[(k7S,.obj a),(k7W,.obj b),(k7C,.obj c)]
abbrev z4(a b c d:Nat):List (Key×D):=[(k7S,.obj a),(k7W,.obj b),(k7C,.obj c),(k7D,.obj d)]
theorem fQ{c:Nat}:Dh (z3 a b c)=z3 a b c:=rfl
theorem fP{c d:Nat}:BQ (z3 a b c) k7D (.obj d)=z4 a b c d:=rfl
theorem fR{c d e:Nat}:BQ (z4 a b c d) k7H (.obj e)=z5 a b c d e:=rfl
theorem dU{a b c d z:Ob}:(S++[a]++[b]++[c]++[d]).set S.length z=S++[z,b,c,d]:=by
 simp only[uf7,uh8,ui8,Jo]
theorem Tc{r:List Ob}{o:Ob}:(S++o::r)[S.length]?=some o:=by
 rw[ua7 (um5 _),um4];rfl
abbrev R7(n:Nat):List Ob:=[Ob.dct (lr (.int 0) (.int 0)),Ob.dct (lr (.lst []) (.lst [])),Ob.dct (lr (.int 0) (.int 0)),Ob.dct (lr (.obj (n+5)) (.obj (n+6))),Ob.lst [],Ob.lst []]
theorem NS{r:List Ob}{o y:Ob}(h:S.length=n):(S++o::r).set n y=S++y::r:=by
 rw[<-h,Jo]
theorem LS{r:List Ob}{o:Ob}(h:S.length=n):(S++o::r)[n]?=some o:=by
 rw[<-h,Tc]
def Za(cc cn:Fn):M Out:=(ifS (Fy (Am (Ac (Ac (Ak cc (Ab (Aa 0) (Ab (Aa 6) Ad))) (ia 7) Bz) (ia 1) (eqS id))) (Ct (Am (Ak cn (Ab (Aa 4) (Ab (Aa 1) (Ab (Aa 5) (Ab (Ac (Ak cc (Ab (Aa 0) (Ab (Aa 6) Ad))) (ia 7) Bv) Ad))))))))
 (An (fC (.bl false)))
 Aq)
theorem dX{cs co3:Fn}(hs:FK cs)(h13:Cp co3)(hw:C5 cw){g:List GS}(hg:GOk g)(hT:∀x∈g,Tin x/\N9 x){i:Ip}{q:I7}{S:List Ob}{mv:List Mv}{a b:Vt}{ux uo n:Nat}(J:J7 g sL sR i q S mv a b ux uo n){ns:List Int}{j cl:Int}(hcl:Pure1 cc [.scr ns,.int j] (.int cl)){e3:Option Sl} :
 L2.W (Za cc (fnOf 4 9 (C1 (fnOf 2 4 (A8 (fnOf 2 2 (A6 (fnOf 3 3 (BM (fnOf 2 2 Bd))) (fnOf 3 5 (AF co3 (fnOf 2 2 Ar) ct cw)) (fnOf 4 5 (AH (fnOf 2 2 Ar) cs))))))))) ⟨ev7 ns g e3 i.p q.zs (vw (.int j)) none none none,S⟩ λo t=>o=.next/\t=⟨ev7 ns g e3 i.p q.zs (vw (.int j)) none none none,S⟩:=by
 unfold Za;symm;refine hcl.use ?_;symm
 by_cases h7:cl%7=1
 .refine Ev (by simp[h7]) ?_;symm;refine hcl.use ?_;symm;refine(Wt hs h13 hw hg hT J).mono ?_;rintro r0 S0 ⟨rfl,rfl⟩;symm;exact⟨rfl,rfl⟩
 .refine DT (by simp[h7]) ?_;symm;exact⟨rfl,rfl⟩
theorem bu{cd2 cd3 co2 co3 cs cos cg:Fn}(hdT:Fh JF cd)(hdS2:Ie arD cd2)(hdT3:Fh JF cd3)(hb:KU cb 3)(hv:JE cv 3)(h1:Cp co)(h12:Cp co2)(h13:Cp co3)(hs:FK cs)(hw:C5 cw)(he:EK ce)(hc:Pb cc)(hos:Cp cos)(hgr:GrN cg){ns:List Int}(hns:ns.length<=63) :
 Wf (fnOf 1 10 (IC (fnOf 3 7 (DX (fnOf 1 3 (By (fnOf 1 1 BD) (fnOf 1 1 (BG co (fnOf 2 2 Bx))) (fnOf 1 1 (Bt ce)))) (fnOf 1 1 (CZ (fnOf 1 1 CD))) (fnOf 1 1 BD) (fnOf 1 3 (D8 co2 (fnOf 2 2 Ar) (fnOf 1 1 BX))) (fnOf 2 5 CA))) (fnOf 5 10 (BT cd)) cc (fnOf 4 7 (DY (fnOf 5 10 (BT cd3)) (fnOf 5 13 (Di cd2 cb cv)) (fnOf 2 5 CA))) (fnOf 2 5 CA) (fnOf 4 9 (C1 (fnOf 2 4 (A8 (fnOf 2 2 (A6 (fnOf 3 3 (BM (fnOf 2 2 Bd))) (fnOf 3 5 (AF co3 (fnOf 2 2 Ar) ct cw)) (fnOf 4 5 (AH (fnOf 2 2 Ar) cs)))))))) (fnOf 2 2 (DV (fnOf 3 3 (DJ cos (fnOf 3 4 (Cq (fnOf 1 1 (De (fnOf 1 1 Eb))))))))) cg)) [.scr ns] [] λr _=>r=.bl true:=by
 have hL:LIM=100000:=rfl;clear 5(hc ns 1 (by decide) (by decide))c0 h0;refine Al rfl ?_;unfold IC;symm;refine(hgr ns []).mono ?_;rintro r S0 ⟨e0,g,rfl,hg,hg6,hT9⟩;subst e0;have hT:∀x∈g,Tin x:=λx h=>(hT9 x h).1;symm;obtain⟨I,hI⟩:∃I:List D->T->Prop,∀r t,I r t↔∃(dn rs:List GS) (ds:List D) (S:List Ob) (e3:Option Sl),g=dn++rs/\r=rs.map GS.d/\S[0]?=some (.lst ds)/\GRn 1 S ds dn/\t=⟨[vw (.scr ns),vw (.lst (g.map GS.d)),vw (.obj 0),e3,none,none,none,none,none,none],S⟩:=⟨_,λ_ _=>.rfl⟩;obtain⟨Q,hQ⟩:∃Q:Out->T->Prop,∀out t,Q out t↔out=.next/\∃(ds:List D) (S:List Ob) (e3:Option Sl),S[0]?=some (.lst ds)/\GRn 1 S ds g/\t=⟨[vw (.scr ns),vw (.lst (g.map GS.d)),vw (.obj 0),e3,none,none,none,none,none,none],S⟩:=⟨_,λ_ _=>.rfl⟩;refine L2.W.mono (Dl (P:=Q) I _ _ ((hI _ _).mpr ⟨[],g,[],_,none,rfl,rfl,rfl,.nil,rfl⟩) ?_ ?_) ?_
 .rintro d r t h9 _;obtain⟨dn,rs,ds,S,e3,hgd,hr,hS,hG,rfl⟩:=(hI _ _).mp h9
  cases rs with
  |nil=>cases hr
  |cons y rs=>
    rw[uk4] at hr;injection hr with h1 h2
    subst h1 h2;have hlen:=hG.length;have hdl:dn.length<=6:=by rw[hgd,ue6] at hg6;lia
    have hy:=hg.all y (by rw[hgd];simp);have hS0:=Bm hS;symm;refine HS (k:=0) ?_;symm;refine⟨rfl,_,hS,?_⟩
    cases y with
    |fin=>
      rw[GS.d];symm;refine⟨_,ds++[.tup [.str (Str.ofString "end")]],hS,by simp only[BH];rw[lD (by rw[hL];lia)],?_⟩;symm;exact(hI _ _).mpr ⟨dn++[.fin],rs,_,_,_,by rw[hgd,uf7];rfl,rfl,A7 hS,(hG.set0).snoc (.fin .nil),rfl⟩
    |st s ws=>
      have hse:s≠Str.ofString "end":=by
       cases hy with
       |st h1 _ _ _ _=>rcases h1 with q|q<;>(rw[q];decide +kernel)
      rw[GS.d];symm;refine DT (by simp[hse]) ?_;symm;refine⟨_,ds++[.tup [.str s,.obj S.length]],Bl hS,by simp only[BH];rw[lD (by rw[hL];lia)],?_⟩;symm;exact(hI _ _).mpr ⟨dn++[.st s ws],rs,_,_,_,by rw[hgd,uf7];rfl,rfl,A7 (Bl hS),((hG.gr Gr.app).set0).snoc (.st (Ae CP (by lia)) (by lia) .nil),rfl⟩
 .rintro t h9;clear 5((hI _ _).mp h9)dn rs ds S e3 hgd hr hS hG rfl;have hrs:rs=[]:=by
   cases rs with
   |nil=>rfl
   |cons _ _=>cases hr
  subst hrs;rw[ui4] at hgd;subst hgd;exact(hQ _ _).mpr ⟨rfl,ds,S,e3,hS,hG,rfl⟩
 rintro out t h9;clear 5((hQ _ _).mp h9)rfl ds S e3 hS hG rfl;clear hI hQ I Q h9;have hS0:=Bm hS;symm;refine(ZC (S:=S) hos (λS9 G=>Ra g _ 0 1 ds hg (G.get hS) (hG.gr G))).mono ?_;rintro r S1 ⟨rfl,GG,i,ul,ur,hip,⟨l1,l2,l3,l4,l5⟩,h⟩;refine⟨rfl,?_⟩;have hS1:=GG.get hS;have hho:=hG.hdo (l:=S.length) hg.all GG.2 (um5 _);generalize hN:S.length=N at *;refine Ft ?_;refine Qt ?_;refine aK (UP ?_);symm;refine Qq hS1 ?_;refine L2.W.mono (KY (P:=λout t=>out=.next/\∃(S2:List Ob) (e3:Option Sl),Pa g sL sR i S2 [] ⟨[],[],0,[]⟩ ⟨[],[],0,[]⟩ ul ur/\t=⟨[vw (.scr ns),vw (.lst (g.map GS.d)),vw (.obj 0),e3,vw (.obj N),none,none,none,none,none],S2⟩) (λr t=>∃(S2:List Ob) (e3:Option Sl),S2[0]?=some (.lst ds)/\Pa g sL sR i S2 [] ⟨[],[],0,[]⟩ ⟨[],[],0,[]⟩ ul ur/\(∀d∈r,HdO S2 N d)/\t=⟨[vw (.scr ns),vw (.lst (g.map GS.d)),vw (.obj 0),e3,vw (.obj N),none,none,none,none,none],S2⟩) (λr t h=>?_) _ _ ⟨S1,_,hS1,h,hho,rfl⟩ ?_ ?_) ?_
 .obtain⟨S2,e3,h1,_,_,rfl⟩:=h;exact JN h1
 .rintro d r t ⟨S2,e3,hz,P2,hr,rfl⟩;rcases hr d ue2 with rfl|⟨s,j,xs,rfl,hse,hj,j0,jl⟩
  .symm;exact⟨S2,_,hz,P2,λd hd=>hr d (ud1 _ hd),rfl⟩
  .symm;refine Ev (by simp[hse]) ?_;symm;refine aF (k:=j) (xs:=xs) ?_;symm;refine⟨rfl,hj,?_⟩;symm;refine⟨_,_,Ae hz j0,P2.keep (F:=[j]) (Kx.refl.set (by simp)) (λk m=>?_),λd hd=>(hr d (ud1 _ hd)).set,rfl⟩;rw[ue8] at m;subst m;refine .inr (.inl ⟨_,hj,?_⟩);simp only[uk3,uh6,lw,lF];exact⟨by lia,by lia,by lia,by lia⟩
 .rintro t ⟨S2,e3,hz,P2,_,rfl⟩;exact⟨rfl,S2,e3,P2,rfl⟩
 rintro out t ⟨rfl,S2,e3,P2,rfl⟩;clear h hS hG hho hS1 GG hN hS0;symm;obtain⟨n,hn⟩:∃n,S2.length=n:=⟨_,rfl⟩;have q1:∀{d:D} (t:T) (Q:D->T->Prop),Q d t->L2.W (fC d) t Q:=λt Q q=>wC q;have q2:∀(t:T) (Q:D->T->Prop),Q (.lst []) t->L2.W (Au (AC Ad)) t Q:=λt Q q=>by
  symm;exact q
 refine KS ?_;refine BU ?_;refine Tf q1 q1 ?_;refine BU ?_;refine Tf q2 q2 ?_;refine BU ?_;refine Tf q1 q1 ?_;refine Fv ?_;refine⟨by simp,by show 3<=15;decide,?_⟩;refine Ft ?_;show L2.W _ ⟨ev7 ns g e3 N S2.length none none none none,(S2++[Ob.dct []]++[Ob.dct (lr (.int 0) (.int 0))]++[Ob.dct (lr (.lst []) (.lst []))]++[Ob.dct (lr (.int 0) (.int 0))]).set S2.length (.dct (Dh (z3 (S2++[Ob.dct []]).length (S2++[Ob.dct []]++[Ob.dct (lr (.int 0) (.int 0))]).length (S2++[Ob.dct []]++[Ob.dct (lr (.int 0) (.int 0))]++[Ob.dct (lr (.lst []) (.lst []))]).length)))⟩ _;rw[fQ,dU];simp only[ue6,ug5,uj0,hn,ul1];refine Qt ?_;refine aD ?_;refine dF (n:=n+4) (by rw[ue6,hn];rfl) ?_;symm;rw[uf7];show L2.W _ ⟨ev7 ns g e3 N n none none none none,S2++Ob.dct (z3 (n+1) (n+2) (n+3))::R7 n⟩ _;refine Cy (LS hn) (by show 3<100000;decide) ?_;show Ei _ _ Out.next ⟨ev7 ns g e3 N n none none none none,(S2++Ob.dct (z3 (n+1) (n+2) (n+3))::R7 n).set n (.dct (BQ (z3 (n+1) (n+2) (n+3)) k7D (.obj (n+4))))⟩;rw[fP,NS hn];have hl7:(S2++Ob.dct (z4 (n+1) (n+2) (n+3) (n+4))::R7 n).length=n+7:=by rw[ue6,hn];rfl
 symm;rw[hl7,uf7];show L2.W _ ⟨ev7 ns g e3 N n none none none none,S2++Ob.dct (z4 (n+1) (n+2) (n+3) (n+4))::(R7 n++[Ob.lst []])⟩ _;refine Cy (LS hn) (by show 4<100000;decide) ?_;show Ei _ _ Out.next ⟨ev7 ns g e3 N n none none none none,(S2++Ob.dct (z4 (n+1) (n+2) (n+3) (n+4))::(R7 n++[Ob.lst []])).set n (.dct (BQ (z4 (n+1) (n+2) (n+3) (n+4)) k7H (.obj (n+7))))⟩;rw[fR,NS hn];have J0:=am P2 hn;show Ei _ _ Out.next ⟨ev7 ns g e3 N n none none none none,S2++L7 n⟩;obtain⟨q,hq⟩:∃q:I7,q=⟨n,n+1,n+2,n+3,n+4,n+7,n+5,n+6⟩:=⟨_,rfl⟩;have hz:q.zs=n:=by rw[hq]
 rw[<-hq] at J0;generalize S2++L7 n=S3 at J0⊢;clear hq hl7 hn P2 q1 q2;subst hip hz;symm;have hh:(14:Int)<=(if (if 51<(ns.length:Int) then 51 else(ns.length:Int)) > 14 then if 51<(ns.length:Int) then 51 else(ns.length:Int) else 14)/\(if (if 51<(ns.length:Int) then 51 else(ns.length:Int)) > 14 then if 51<(ns.length:Int) then 51 else(ns.length:Int) else 14)<=51:=by lia
 generalize (if (if 51<(ns.length:Int) then 51 else(ns.length:Int)) > 14 then if 51<(ns.length:Int) then 51 else(ns.length:Int) else 14)=H at hh⊢;refine US (by rw[B9 (by decide) (by decide),B9 (by lia) (by lia)];rfl) ?_;obtain⟨I,hI⟩:∃I:List D->T->Prop,∀rs t,I rs t↔∃(S:List Ob) (mv:List Mv) (a b:Vt) (ux uo n:Nat) (e6:Option Sl),mv.length+rs.length<=40/\n+2*rs.length<=80/\J7 g sL sR i q S mv a b ux uo n/\t=⟨ev7 ns g e3 i.p q.zs e6 none none none,S⟩:=⟨_,λ_ _=>.rfl⟩;obtain⟨Q,hQ⟩:∃Q:Out->T->Prop,∀o t,Q o t↔(o=.ret (.bl true)\/o=.next/\∃(S:List Ob) (mv:List Mv) (a b:Vt) (ux uo n:Nat) (e6:Option Sl),mv.length<=40/\n<=80/\J7 g sL sR i q S mv a b ux uo n/\t=⟨ev7 ns g e3 i.p q.zs e6 none none none,S⟩):=⟨_,λ_ _=>.rfl⟩;refine L2.W.mono (Dl (P:=Q) I _ _ ?_ ?_ ?_) ?_
 .exact(hI _ _).mpr ⟨S3,[],_,_,ul,ur,0,none,by rw[Eh];show 0+_<=40;lia,by rw[Eh];lia,J0,rfl⟩
 .rintro d rs t h9 hd;clear 5((hI _ _).mp h9)S mv a b ux uo n e6 hl hn J rfl;obtain⟨j,rfl,hj0,hj1⟩:∃j:Int,d=.int j/\0<=j/\j<=1000:=by
   rw[LA] at hd;clear 5(um3.mp hd)j hj rfl;rw[uj6] at hj;exact⟨_,rfl,by lia,by lia⟩
  rw[ug5] at hl hn;clear 5(hc ns j hj0 hj1)cl hcl;symm;refine(PL h1 h12 he hg J (by lia)).mono ?_;rintro r0 S4 ⟨rfl,J4⟩
  repeat (first|(refine Qt (L2.W.mono (dX hs h13 hw hg hT9 J4 hcl) ?_);rintro out t ⟨rfl,rfl⟩)|walk_at"y1")
  refine(TL hg J4).mono ?_;rintro r0 S5 ⟨rfl,rfl⟩;symm
  cases hl0:mayP (Cm g sL a.m1) (Cm g sR b.m1) (B8 b.w a.t) (B8 a.w b.t) with
  |nil=>
    refine Ev rfl ?_;symm;exact(hQ _ _).mpr (.inl rfl)
  |cons e l9=>
    refine DT rfl ?_;symm;refine hcl.use ?_;symm;refine(bR hdS2 hdT3 hb hv hg hT J4 (by lia) (by lia) (by rw[hl0];exact uh5 _ _)).mono ?_;rintro r S6 ⟨rfl,mv',a',b',u',v',hl',J'⟩;symm;exact(hI _ _).mpr ⟨S6,mv',a',b',u',v',n+1+1,_,by lia,by lia,J',rfl⟩
 .rintro t h9;clear 5((hI _ _).mp h9)S mv a b ux uo n e6 hl hn J rfl;exact(hQ _ _).mpr (.inr ⟨rfl,S,mv,a,b,ux,uo,n,e6,by lia,by lia,J,rfl⟩)
 rintro o0 t0 h9;rcases (hQ _ _).mp h9 with rfl|⟨rfl,S4,mv,a,b,ux,uo,n,e6,hml,hn,J,rfl⟩
 .symm;rfl
 symm;refine h0.use ?_;symm
 by_cases h3:c0%3=1
 .refine Ev (by simp[h3]) ?_;symm;refine(PL h1 h12 he hg J (by lia)).mono ?_;rintro r0 S5 ⟨rfl,J5⟩;symm;rfl
 refine DT (by simp[h3]) ?_;symm;refine L2.W.mono (?_:L2.W (C8 (unS 2 (AR (AE 7) (AR (AE 8) Cl))) (tk7 cd) [D.tup [D.str (Str.ofString "left"),D.str (Str.ofString "right")],D.tup [D.str (Str.ofString "right"),D.str (Str.ofString "left")]]) _ λout t=>out=.next/\∃(S:List Ob) (a b:Vt) (ux uo n:Nat) (e6 e7 e8 e9:Option Sl),n<=82/\J7 g sL sR i q S mv a b ux uo n/\a.t=b.w.length/\b.t=a.w.length/\t=⟨ev7 ns g e3 i.p q.zs e6 e7 e8 e9,S⟩) ?_
 .refine W_forL_cons.mpr ?_;symm;refine(Vn hdT hg hT J rfl rfl (by lia) (by lia)).mono ?_;rintro out t ⟨rfl,S5,a5,u5,n5,e9,hn5,J5,t5,w5,rfl⟩;show L2.W _ _ _;refine W_forL_cons.mpr ?_;symm;refine(Vn hdT hg hT (p:=i.p) (zs:=q.zs) J5.swap rfl rfl (by lia) (by lia)).mono ?_;rintro out t ⟨rfl,S6,a6,u6,n6,e9,hn6,J6,t6,w6,rfl⟩;show L2.W _ _ _;refine W_forL_nil.mpr ?_;exact⟨rfl,S6,a5,a6,u6,u5,n6,_,_,_,_,by lia,J6.swap,by rw[w6];exact t5,t6,rfl⟩
 rintro out t ⟨rfl,S6,a6,b6,u6,v6,n6,f6,f7,f8,f9,hn6,J6,ta,tb,rfl⟩;have h:=J6.pa;have ea:a6.m1=mv:=h.vx.done (by rw[h.eo,A3,ta]);have eb:b6.m1=mv:=h.vo.done (by rw[h.ex,A3,tb]);clear 5 J6.z hs6 Z hh6;have js:=Z.js;rw[ea,eb] at js;symm;refine Aw Z.jz G8 ?_;symm;refine Aw js (BW (.inl rfl)) ?_;symm;refine Aw Z.jz G8 ?_;symm;refine Aw js (BF h.two) ?_;symm;refine DT (by simp) ?_;symm;refine(PL h1 h12 he hg J6 (by lia)).mono ?_;rintro r0 S7 ⟨rfl,J7⟩;symm;rfl
end LW
namespace L2
open PySem PySem.Spec PySem.W
theorem T4{k:Kd}{P:im}{w:ir}{K:ib}{mg:Str->Option ie}{base:Heap}{n:Nat}{fa:ig}{fd:iu}{ps:List Str}:okK k P w K mg base n fa fd ps (λ_ _=>none):=by
 cases k<;>exact⟨λvs H Q E h=>(by obtain⟨c,ds,S,_,_,r,S',e,_⟩:=h;cases e),λA' outer s H args us vs Q E _ _ _ _ h=>(by obtain⟨c,ds,S,_,_,r,S',e,_⟩:=h;cases e)⟩
theorem us0{n:Nat}:∀{us:List ie},us.length=n+1->∃a vs,us=a::vs/\vs.length=n
 |_::_,h=>⟨_,_,rfl,Nat.succ.inj h⟩
section
variable{us:List ie}
theorem us1(h:us.length=1):∃a,us=[a]:=by
 clear 5(us0 h)a vs rfl q;exact⟨a,by rw[ua2 q]⟩
theorem us2(h:us.length=2):∃a b,us=[a,b]:=by
 obtain⟨_,vs,rfl,q⟩:=us0 h;obtain⟨_,rfl⟩:=us1 q;exact⟨_,_,rfl⟩
theorem us3(h:us.length=3):∃a b c,us=[a,b,c]:=by
 obtain⟨_,vs,rfl,q⟩:=us0 h;obtain⟨_,_,rfl⟩:=us2 q;exact⟨_,_,_,rfl⟩
theorem us4(h:us.length=4):∃a b c d,us=[a,b,c,d]:=by
 obtain⟨_,vs,rfl,q⟩:=us0 h;obtain⟨_,_,_,rfl⟩:=us3 q;exact⟨_,_,_,_,rfl⟩
theorem us5(h:us.length=5):∃a b c d e,us=[a,b,c,d,e]:=by
 obtain⟨_,vs,rfl,q⟩:=us0 h;obtain⟨_,_,_,_,rfl⟩:=us4 q;exact⟨_,_,_,_,_,rfl⟩
theorem us6(h:us.length=6):∃a b c d e f,us=[a,b,c,d,e,f]:=by
 obtain⟨_,vs,rfl,q⟩:=us0 h;obtain⟨_,_,_,_,_,rfl⟩:=us5 q;exact⟨_,_,_,_,_,_,rfl⟩
theorem us7(h:us.length=7):∃a b c d e f g,us=[a,b,c,d,e,f,g]:=by
 obtain⟨_,vs,rfl,q⟩:=us0 h;obtain⟨_,_,_,_,_,_,rfl⟩:=us6 q;exact⟨_,_,_,_,_,_,_,rfl⟩
end
end L2
namespace K37
open PySem L2 LW
inductive Fx where
 |Gg|CY|Bf|EW|CW|Dv|Ds|Dt|CF|CB|Ce|Ck|Dk|DN|Cw|BC|BV|B2|Dw|BJ|C6|BS|CI|DE|Ej|DB|DC|CH|BO|Eg|B3|BB|E9|Du|CT|C7|Cb|Cc|Bw|Ca|B0|CU|D5|CV|Cv|Cu|Dq|Dp|law_|AN|AZ|A4|AA|A9|Bi|Ba|Bc|A5|A2|A0|A1|AK|AW|AB|AS|Ax|Ay|Bb|AJ|AQ|AV
noncomputable def top(i:Nat):Stmt:=PySem.Challenge.pw_wireparley_k37_parleys_in_any_order.main.body.getD i (.Pass ⟨0,0,0,0⟩)
noncomputable abbrev nm:Fx->Str
 |.Gg=>"_wall"
 |.CY=>"is_number"
 |.Bf=>"is_number_within"
 |.EW=>"fits"
 |.CW=>"fits_text"
 |.Dv=>"is_sign"
 |.Ds=>"fits_list"
 |.Dt=>"fits_pair"
 |.CF=>"fits_choice"
 |.CB=>"state_next"
 |.Ce=>"place_said"
 |.Ck=>"place_named"
 |.Dk=>"words_of"
 |.DN=>"is_end"
 |.Cw=>"grammar_copy"
 |.BC=>"fitting_bytes"
 |.BV=>"width_up_to"
 |.B2=>"number_bytes"
 |.Dw=>"leading"
 |.BJ=>"read_value"
 |.C6=>"byte_at"
 |.BS=>"byte_up_to"
 |.CI=>"read_number"
 |.DE=>"read_text"
 |.Ej=>"sign_at"
 |.DB=>"read_list"
 |.DC=>"read_pair"
 |.CH=>"read_choice"
 |.BO=>"message_bytes"
 |.Eg=>"read_on"
 |.B3=>"read_message"
 |.BB=>"other_side"
 |.E9=>"is_act"
 |.Du=>"is_one_of"
 |.CT=>"_law_cell"
 |.C7=>"_law_mixed"
 |.Cb=>"_law_shape"
 |.Cc=>"_law_value"
 |.Bw=>"_law_number_bytes"
 |.Ca=>"_law_bytes"
 |.B0=>"_law_grammar"
 |.CU=>"_law_may"
 |.D5=>"_law_say"
 |.CV=>"_law_take"
 |.Cv=>"_law_refused"
 |.Cu=>"_law_no_acts"
 |.Dq=>"_law_step"
 |.Dp=>"_law_good"
 |.law_=>"law"
 |.AN=>"__init__"
 |.AZ=>"state"
 |.A4=>"hear"
 |.AA=>"unread_of"
 |.A9=>"__init__"
 |.Bi=>"say"
 |.Ba=>"take"
 |.Bc=>"speak"
 |.A5=>"listen"
 |.A2=>"waiting"
 |.A0=>"may_say"
 |.A1=>"shape_to_say"
 |.AK=>"has_ended"
 |.AW=>"__init__"
 |.AB=>"of_side"
 |.AS=>"do"
 |.Ax=>"do_saying"
 |.Ay=>"do_taking"
 |.Bb=>"may"
 |.AJ=>"is_over"
 |.AQ=>"states"
 |.AV=>"lying"
abbrev ql:Fx->Str
 |.AN=>"Hearer.__init__"
 |.AZ=>"Hearer.state"
 |.A4=>"Hearer.hear"
 |.AA=>"Hearer.unread_of"
 |.A9=>"Side.__init__"
 |.Bi=>"Side.say"
 |.Ba=>"Side.take"
 |.Bc=>"Side.speak"
 |.A5=>"Side.listen"
 |.A2=>"Side.waiting"
 |.A0=>"Side.may_say"
 |.A1=>"Side.shape_to_say"
 |.AK=>"Side.has_ended"
 |.AW=>"Parley.__init__"
 |.AB=>"Parley.of_side"
 |.AS=>"Parley.do"
 |.Ax=>"Parley.do_saying"
 |.Ay=>"Parley.do_taking"
 |.Bb=>"Parley.may"
 |.AJ=>"Parley.is_over"
 |.AQ=>"Parley.states"
 |.AV=>"Parley.lying"
 |x=>nm x
noncomputable abbrev me:Fx->Bool
 |.AN=>true
 |.AZ=>true
 |.A4=>true
 |.AA=>true
 |.A9=>true
 |.Bi=>true
 |.Ba=>true
 |.Bc=>true
 |.A5=>true
 |.A2=>true
 |.A0=>true
 |.A1=>true
 |.AK=>true
 |.AW=>true
 |.AB=>true
 |.AS=>true
 |.Ax=>true
 |.Ay=>true
 |.Bb=>true
 |.AJ=>true
 |.AQ=>true
 |.AV=>true
 |_=>false
noncomputable abbrev ow:Fx->Str
 |.AN=>"Hearer"
 |.AZ=>"Hearer"
 |.A4=>"Hearer"
 |.AA=>"Hearer"
 |.A9=>"Side"
 |.Bi=>"Side"
 |.Ba=>"Side"
 |.Bc=>"Side"
 |.A5=>"Side"
 |.A2=>"Side"
 |.A0=>"Side"
 |.A1=>"Side"
 |.AK=>"Side"
 |.AW=>"Parley"
 |.AB=>"Parley"
 |.AS=>"Parley"
 |.Ax=>"Parley"
 |.Ay=>"Parley"
 |.Bb=>"Parley"
 |.AJ=>"Parley"
 |.AQ=>"Parley"
 |.AV=>"Parley"
 |_=>""
abbrev st:Fx->Stmt
 |.Gg=>top 0
 |.CY=>top 11
 |.Bf=>top 12
 |.EW=>top 13
 |.CW=>top 14
 |.Dv=>top 15
 |.Ds=>top 16
 |.Dt=>top 17
 |.CF=>top 18
 |.CB=>top 20
 |.Ce=>top 21
 |.Ck=>top 22
 |.Dk=>top 23
 |.DN=>top 24
 |.Cw=>top 25
 |.BC=>top 28
 |.BV=>top 29
 |.B2=>top 30
 |.Dw=>top 31
 |.BJ=>top 32
 |.C6=>top 33
 |.BS=>top 34
 |.CI=>top 35
 |.DE=>top 36
 |.Ej=>top 37
 |.DB=>top 38
 |.DC=>top 39
 |.CH=>top 40
 |.BO=>top 42
 |.Eg=>top 43
 |.B3=>top 44
 |.BB=>top 49
 |.E9=>top 52
 |.Du=>top 53
 |.CT=>top 55
 |.C7=>top 56
 |.Cb=>top 57
 |.Cc=>top 58
 |.Bw=>top 59
 |.Ca=>top 60
 |.B0=>top 61
 |.CU=>top 62
 |.D5=>top 63
 |.CV=>top 64
 |.Cv=>top 65
 |.Cu=>top 66
 |.Dq=>top 67
 |.Dp=>top 68
 |.law_=>top 69
 |.AN=>Bg (top 46) 0
 |.AZ=>Bg (top 46) 1
 |.A4=>Bg (top 46) 2
 |.AA=>Bg (top 46) 3
 |.A9=>Bg (top 50) 0
 |.Bi=>Bg (top 50) 1
 |.Ba=>Bg (top 50) 2
 |.Bc=>Bg (top 50) 3
 |.A5=>Bg (top 50) 4
 |.A2=>Bg (top 50) 5
 |.A0=>Bg (top 50) 6
 |.A1=>Bg (top 50) 7
 |.AK=>Bg (top 50) 8
 |.AW=>Bg (top 51) 0
 |.AB=>Bg (top 51) 1
 |.AS=>Bg (top 51) 2
 |.Ax=>Bg (top 51) 3
 |.Ay=>Bg (top 51) 4
 |.Bb=>Bg (top 51) 5
 |.AJ=>Bg (top 51) 6
 |.AQ=>Bg (top 51) 7
 |.AV=>Bg (top 51) 8
noncomputable abbrev ps:Fx->List Str
 |.Gg=>["k"]
 |.CY=>["thing"]
 |.Bf=>["thing", "low", "high"]
 |.EW=>["s", "thing"]
 |.CW=>["s", "thing"]
 |.Dv=>["number"]
 |.Ds=>["s", "thing"]
 |.Dt=>["s", "thing"]
 |.CF=>["s", "thing"]
 |.CB=>["g", "step"]
 |.Ce=>["state", "thing"]
 |.Ck=>["state", "thing"]
 |.Dk=>["state"]
 |.DN=>["state"]
 |.Cw=>["g"]
 |.BC=>["s", "value"]
 |.BV=>["most"]
 |.B2=>["number", "width"]
 |.Dw=>["number", "cut"]
 |.BJ=>["s", "wire", "at"]
 |.C6=>["wire", "at"]
 |.BS=>["most", "wire", "at"]
 |.CI=>["s", "wire", "at"]
 |.DE=>["s", "wire", "at"]
 |.Ej=>["wire", "at"]
 |.DB=>["s", "wire", "at"]
 |.DC=>["s", "wire", "at"]
 |.CH=>["s", "wire", "at"]
 |.BO=>["state", "place", "value"]
 |.Eg=>["g", "state", "wires", "places"]
 |.B3=>["state", "wire", "at"]
 |.BB=>["side"]
 |.E9=>["thing", "kind", "parts"]
 |.Du=>["thing", "texts"]
 |.CT=>["script", "k"]
 |.C7=>["cell", "k"]
 |.Cb=>["cell", "depth"]
 |.Cc=>["shape", "cell"]
 |.Bw=>["n", "most"]
 |.Ca=>["shape", "value"]
 |.B0=>["script", "start", "ends"]
 |.CU=>["grammar", "stands"]
 |.D5=>["parley", "grammar", "stands", "side", "cell"]
 |.CV=>["parley", "stands", "side", "other", "size"]
 |.Cv=>["parley", "act"]
 |.Cu=>["parley", "grammar", "stands", "cell"]
 |.Dq=>["parley", "grammar", "stands", "cell"]
 |.Dp=>["parley", "grammar", "stands"]
 |.law_=>["script"]
 |.AN=>["self", "g", "sides"]
 |.AZ=>["self"]
 |.A4=>["self", "side", "piece"]
 |.AA=>["self", "side"]
 |.A9=>["self", "g", "side"]
 |.Bi=>["self", "name", "value"]
 |.Ba=>["self", "piece"]
 |.Bc=>["self", "name", "value"]
 |.A5=>["self", "piece"]
 |.A2=>["self"]
 |.A0=>["self"]
 |.A1=>["self", "name"]
 |.AK=>["self"]
 |.AW=>["self", "g"]
 |.AB=>["self", "side"]
 |.AS=>["self", "act"]
 |.Ax=>["self", "side", "name", "value"]
 |.Ay=>["self", "side", "n"]
 |.Bb=>["self"]
 |.AJ=>["self"]
 |.AQ=>["self"]
 |.AV=>["self"]
noncomputable abbrev ns:Fx->List Str
 |.Gg=>["k"]
 |.CY=>["thing"]
 |.Bf=>["thing", "low", "high"]
 |.EW=>["s", "thing", "kind"]
 |.CW=>["s", "thing", "sign"]
 |.Dv=>["number"]
 |.Ds=>["s", "thing", "part"]
 |.Dt=>["s", "thing"]
 |.CF=>["s", "thing"]
 |.CB=>["g", "step"]
 |.Ce=>["state", "thing", "place"]
 |.Ck=>["state", "thing", "words", "place"]
 |.Dk=>["state"]
 |.DN=>["state"]
 |.Cw=>["g"]
 |.BC=>["s", "value", "kind", "row", "thing"]
 |.BV=>["most"]
 |.B2=>["number", "width"]
 |.Dw=>["number", "cut"]
 |.BJ=>["s", "wire", "at", "kind"]
 |.C6=>["wire", "at"]
 |.BS=>["most", "wire", "at", "byte"]
 |.CI=>["s", "wire", "at", "most", "width", "number", "k"]
 |.DE=>["s", "wire", "at", "length", "place", "text", "k"]
 |.Ej=>["wire", "at", "number"]
 |.DB=>["s", "wire", "at", "length", "place", "things", "k", "part"]
 |.DC=>["s", "wire", "at", "first", "second"]
 |.CH=>["s", "wire", "at", "k", "part"]
 |.BO=>["state", "place", "value"]
 |.Eg=>["g", "state", "wires", "places", "talk", "standing", "behind", "side", "read"]
 |.B3=>["state", "wire", "at", "word", "read", "e"]
 |.BB=>["side"]
 |.E9=>["thing", "kind", "parts"]
 |.Du=>["thing", "texts"]
 |.CT=>["script", "k"]
 |.C7=>["cell", "k", "number"]
 |.Cb=>["cell", "depth", "kind", "low", "one", "other"]
 |.Cc=>["shape", "cell", "kind", "many", "size", "text", "found", "k", "one", "other"]
 |.Bw=>["n", "most", "found"]
 |.Ca=>["shape", "value", "kind", "signs", "codes", "found", "one"]
 |.B0=>["script", "start", "ends", "many", "grammar", "k", "cell", "kind", "words", "j", "then", "shape"]
 |.CU=>["grammar", "stands", "found", "side", "other"]
 |.D5=>["parley", "grammar", "stands", "side", "cell", "words", "k", "name", "shape", "then", "value", "due", "found"]
 |.CV=>["parley", "stands", "side", "other", "size", "due", "many", "message", "then", "found"]
 |.Cv=>["parley", "act", "found", "e"]
 |.Cu=>["parley", "grammar", "stands", "cell", "side", "other", "state", "act", "more"]
 |.Dq=>["parley", "grammar", "stands", "cell", "may", "act", "other"]
 |.Dp=>["parley", "grammar", "stands", "may", "lying", "found", "over"]
 |.law_=>["script", "grammar", "handed", "state", "parley", "stands", "k", "side", "other", "size"]
 |.AN=>["self", "g", "sides", "side"]
 |.AZ=>["self"]
 |.A4=>["self", "side", "piece", "read"]
 |.AA=>["self", "side"]
 |.A9=>["self", "g", "side"]
 |.Bi=>["self", "name", "value"]
 |.Ba=>["self", "piece"]
 |.Bc=>["self", "name", "value", "state", "place"]
 |.A5=>["self", "piece"]
 |.A2=>["self"]
 |.A0=>["self"]
 |.A1=>["self", "name"]
 |.AK=>["self"]
 |.AW=>["self", "g"]
 |.AB=>["self", "side"]
 |.AS=>["self", "act"]
 |.Ax=>["self", "side", "name", "value", "said"]
 |.Ay=>["self", "side", "n", "wire", "told"]
 |.Bb=>["self", "says", "takes"]
 |.AJ=>["self", "ended", "waits"]
 |.AQ=>["self"]
 |.AV=>["self"]
def body(Φ:Fx->Fn):Fx->Fn
 |.Gg=>fnOf 1 1 (TR)
 |.CY=>fnOf 1 1 (GZ)
 |.Bf=>fnOf 3 3 (Ec (Φ .CY))
 |.EW=>fnOf 2 3 (Nt (Φ .CF) (Φ .Dt) (Φ .Ds) (Φ .CW) (Φ .Bf))
 |.CW=>fnOf 2 3 (GY (Φ .Dv))
 |.Dv=>fnOf 1 1 (IB)
 |.Ds=>fnOf 2 3 (GW (Φ .EW))
 |.Dt=>fnOf 2 2 (GX (Φ .EW))
 |.CF=>fnOf 2 2 (FA (Φ .EW) (Φ .Bf))
 |.CB=>fnOf 2 2 (Gx)
 |.Ce=>fnOf 2 3 (Ed (Φ .EW) (Φ .Ck))
 |.Ck=>fnOf 2 4 (FB (Φ .Dk))
 |.Dk=>fnOf 1 1 (HF (Φ .DN))
 |.DN=>fnOf 1 1 (Eb)
 |.Cw=>fnOf 1 1 (De (Φ .DN))
 |.BC=>fnOf 2 5 (EZ (Φ .BC) (Φ .BV) (Φ .B2))
 |.BV=>fnOf 1 1 (FC)
 |.B2=>fnOf 2 2 (Fb (Φ .Dw))
 |.Dw=>fnOf 2 2 (ID)
 |.BJ=>fnOf 3 4 (DZ (Φ .CH) (Φ .DC) (Φ .DB) (Φ .DE) (Φ .CI))
 |.C6=>fnOf 2 2 (Gq)
 |.BS=>fnOf 3 4 (EY (Φ .C6))
 |.CI=>fnOf 3 7 (Dz (Φ .Dw) (Φ .C6) (Φ .BV))
 |.DE=>fnOf 3 7 (Es (Φ .Ej) (Φ .BS))
 |.Ej=>fnOf 2 3 (Gv (Φ .Dv) (Φ .C6))
 |.DB=>fnOf 3 8 (Eo (Φ .BJ) (Φ .BS))
 |.DC=>fnOf 3 5 (Ep (Φ .BJ))
 |.CH=>fnOf 3 5 (Dy (Φ .BJ) (Φ .BS))
 |.BO=>fnOf 3 3 (E1 (Φ .BC))
 |.Eg=>fnOf 4 9 (Gu (Φ .B3))
 |.B3=>fnOf 3 6 (Ew (Φ .BJ))
 |.BB=>fnOf 1 1 (Gs)
 |.E9=>fnOf 3 3 (BM (Φ .Du))
 |.Du=>fnOf 2 2 (Bd)
 |.CT=>fnOf 2 2 (DW)
 |.C7=>fnOf 2 3 (Fz)
 |.Cb=>fnOf 2 6 (CG (Φ .Cb))
 |.Cc=>fnOf 2 10 (EI (Φ .Cc))
 |.Bw=>fnOf 2 3 (Dx)
 |.Ca=>fnOf 2 7 (EH (Φ .Ca) (Φ .Bw))
 |.B0=>fnOf 3 12 (Ea (Φ .Cb) (Φ .CT) (Φ .C7))
 |.CU=>fnOf 2 5 (CA)
 |.D5=>fnOf 5 13 (Di (Φ .AS) (Φ .Ca) (Φ .Cc))
 |.CV=>fnOf 5 10 (BT (Φ .AS))
 |.Cv=>fnOf 2 4 (A8 (Φ .AS))
 |.Cu=>fnOf 4 9 (C1 (Φ .Cv))
 |.Dq=>fnOf 4 7 (DY (Φ .CV) (Φ .D5) (Φ .CU))
 |.Dp=>fnOf 3 7 (DX (Φ .AJ) (Φ .AQ) (Φ .AV) (Φ .Bb) (Φ .CU))
 |.law_=>fnOf 1 10 (IC (Φ .Dp) (Φ .CV) (Φ .CT) (Φ .Dq) (Φ .CU) (Φ .Cu) (Φ .AW) (Φ .B0))
 |.AN=>fnOf 3 4 (Cq (Φ .Cw))
 |.AZ=>fnOf 1 1 (CD)
 |.A4=>fnOf 3 4 (EF (Φ .Eg))
 |.AA=>fnOf 2 2 (Bx)
 |.A9=>fnOf 3 3 (DJ (Φ .BB) (Φ .AN))
 |.Bi=>fnOf 3 3 (DK (Φ .Bc))
 |.Ba=>fnOf 2 2 (Fa (Φ .A5))
 |.Bc=>fnOf 3 5 (D9 (Φ .BO) (Φ .CB) (Φ .Ce))
 |.A5=>fnOf 2 2 (EG (Φ .BB) (Φ .A4))
 |.A2=>fnOf 1 1 (BG (Φ .BB) (Φ .AA))
 |.A0=>fnOf 1 1 (BX)
 |.A1=>fnOf 2 2 (GV (Φ .Gg))
 |.AK=>fnOf 1 1 (Bt (Φ .DN))
 |.AW=>fnOf 2 2 (DV (Φ .A9))
 |.AB=>fnOf 2 2 (Ar)
 |.AS=>fnOf 2 2 (A6 (Φ .E9) (Φ .Ay) (Φ .Ax))
 |.Ax=>fnOf 4 5 (AH (Φ .AB) (Φ .Bi))
 |.Ay=>fnOf 3 5 (AF (Φ .BB) (Φ .AB) (Φ .Ba) (Φ .Bf))
 |.Bb=>fnOf 1 3 (D8 (Φ .BB) (Φ .AB) (Φ .A0))
 |.AJ=>fnOf 1 3 (By (Φ .AV) (Φ .A2) (Φ .AK))
 |.AQ=>fnOf 1 1 (CZ (Φ .AZ))
 |.AV=>fnOf 1 1 (BD)
def run:Nat->Fx->Fn
 |0=>λ_ _ _=>none
 |n+1=>body (run n)
structure Md(K:ib)(mg:Str->Option ie)(A:Fx->ig)(fd:Fx->iu):Prop where
 fn:∀x,Fun K (nm x) (ql x) (st x) (A x) (fd x)
 mgs:∀x,me x=false->mg (nm x)=some (.ref (A x))
 bd:∀x,Binds K (fd x) (ps x) []
 cm:CM K
 MR:∃C,PySem.W.nsIn K mainGlobals "Parley" = some (some (.ref C))/\mg "Parley" = some (.ref C)/\Mk K C (A .AW)/\Meth K C "of_side" (A .AB)/\Meth K C "do" (A .AS)/\Meth K C "do_saying" (A .Ax)/\Meth K C "do_taking" (A .Ay)/\Meth K C "may" (A .Bb)/\Meth K C "is_over" (A .AJ)/\Meth K C "states" (A .AQ)/\Meth K C "lying" (A .AV)
 QI:∃C,PySem.W.nsIn K mainGlobals "Side" = some (some (.ref C))/\mg "Side" = some (.ref C)/\Mk K C (A .A9)/\Meth K C "say" (A .Bi)/\Meth K C "take" (A .Ba)/\Meth K C "speak" (A .Bc)/\Meth K C "listen" (A .A5)/\Meth K C "waiting" (A .A2)/\Meth K C "may_say" (A .A0)/\Meth K C "shape_to_say" (A .A1)/\Meth K C "has_ended" (A .AK)/\Meth K C "state" (A .AZ)/\Meth K C "hear" (A .A4)/\Meth K C "unread_of" (A .AA)
 jI:∃C,mg "Hearer" = some (.ref C)/\ByCls K C "__init__" (A .AN)
 i9:mg "bool" = none
 iA:mg "dict" = none
 iD:mg "int" = none
 gH:mg "isinstance" = none
 iO:mg "len" = none
 gS:mg "list" = none
 iN:mg "max" = none
 iM:mg "min" = none
 iP:mg "ord" = none
 gR:mg "range" = none
 gI:mg "reversed" = none
 iQ:mg "str" = none
 gZ:mg "tuple" = none
 g9:∃tk,mg "FIRST_SIGN" = some (.int 32 tk)
 gG:∃tk,mg "LAST_SIGN" = some (.int 126 tk)
 g8:∃tk,mg "PERCENT_SIGN" = some (.int 37 tk)
 gM:∃a,mg "SIDES" = some (.ref a)/\Pc K a ["left", "right"]
 gL:∃tk,mg "SIGNS" = some (.str " !\"#$ &'()*+,-./0123456789:;<=>?@ABCDEFGHIJKLMNOPQRSTUVWXYZ[\\]^_`abcdefghijklmnopqrstuvwxyz{|}~" tk)
 xm:∃(P:ig) (ca:Str->ig),XM K mg P ca/\XF1 K (ca "NoTalk") P "NoTalk.__init__" (Bg (top 5) 0)/\∀n∈(["NoRow", "Short"]:List Str),XN0 K (ca n)
noncomputable abbrev kd:Fx->Kd
 |.Gg=>.pl
 |.CY=>.pl
 |.Bf=>.pl
 |.EW=>.pl
 |.CW=>.pl
 |.Dv=>.pl
 |.Ds=>.pl
 |.Dt=>.pl
 |.CF=>.pl
 |.CB=>.pl
 |.Ce=>.pl
 |.Ck=>.pl
 |.Dk=>.pl
 |.DN=>.pl
 |.Cw=>.pl
 |.BC=>.fr
 |.BV=>.pl
 |.B2=>.fr
 |.Dw=>.pl
 |.BJ=>.ex
 |.C6=>.ex
 |.BS=>.ex
 |.CI=>.ex
 |.DE=>.ex
 |.Ej=>.ex
 |.DB=>.ex
 |.DC=>.ex
 |.CH=>.ex
 |.BO=>.pl
 |.Eg=>.pl
 |.B3=>.pl
 |.BB=>.pl
 |.E9=>.pl
 |.Du=>.pl
 |.CT=>.pl
 |.C7=>.pl
 |.Cb=>.pl
 |.Cc=>.pl
 |.Bw=>.pl
 |.Ca=>.pl
 |.B0=>.pl
 |.CU=>.pl
 |.D5=>.pl
 |.CV=>.pl
 |.Cv=>.pl
 |.Cu=>.pl
 |.Dq=>.pl
 |.Dp=>.pl
 |.law_=>.pl
 |.AN=>.pl
 |.AZ=>.pl
 |.A4=>.pl
 |.AA=>.pl
 |.A9=>.pl
 |.Bi=>.ex
 |.Ba=>.pl
 |.Bc=>.ex
 |.A5=>.pl
 |.A2=>.pl
 |.A0=>.pl
 |.A1=>.pl
 |.AK=>.pl
 |.AW=>.pl
 |.AB=>.pl
 |.AS=>.ex
 |.Ax=>.ex
 |.Ay=>.ex
 |.Bb=>.pl
 |.AJ=>.pl
 |.AQ=>.pl
 |.AV=>.pl
theorem bO:FnScope ["self", "at"] ["self", "at"] (AD (Bg (top 5) 0)):=⟨rfl,rfl,rfl,by decide +kernel,rfl,by decide +kernel,by decide +kernel⟩
section
variable{P:im}{w:ir}{K:ib}{mg:Str->Option ie}{base:Heap}{A:Fx->ig}{fd:Fx->iu}{n:Nat}
theorem NC{a:Kd}(k:Kd){P:im}{w:ir}{K:ib}{mg:Str->Option ie}{base:Heap}{n:Nat}{fa:ig}{fd:iu}{ps:List Str}{f:Fn}(h:okK a P w K mg base n fa fd ps f)(e:a=k):okK k P w K mg base n fa fd ps f:=e ▸ h
section
variable{X:Cx}{A:Fx->ig}{fd:Fx->iu}{n k:Nat}{x:Fx}{s:Str}{e:Expr}{es:List Expr}{f:M (List D)}{p pos:Pos}{E:L2.St->XK}
theorem cP(M:Md X.K X.mg A fd)(ih:∀x,okK (kd x) X.prog X.w X.K X.mg X.base k (A x) (fd x) (ps x) (run n x))(hr:Room k X.A)(ha:PA X (e::es) (RA X.K f))(hk:kd x=.pl)(hm:me x=false)(hs:nm x=s)(hg:Gl X s)(h1:Bn e=false)(h2:Bs es=true)(hd:(s==("__debug__":Str))=false):PE X (.Call (.Name s p) (e::es) [] pos) (RE X.K (Ak (run n x) f)):=by subst hs;exact Ti (NC .pl (ih x) hk) hr hg (M.mgs x hm) (Fun.kp (M.fn x)) (M.bd x) ha hd h1 h2
theorem fF(M:Md X.K X.mg A fd)(ih:∀x,okK (kd x) X.prog X.w X.K X.mg X.base k (A x) (fd x) (ps x) (run n x))(hr:Room k X.A)(ha:PA X (e::es) (RA X.K f))(hk:kd x=.fr)(hm:me x=false)(hs:nm x=s)(hg:Gl X s)(h1:Bn e=false)(h2:Bs es=true)(hd:(s==("__debug__":Str))=false):PE X (.Call (.Name s p) (e::es) [] pos) (RF X.K (Ez (run n x) f)):=by subst hs;exact Tn (NC .fr (ih x) hk) hr hg (M.mgs x hm) (Fun.kp (M.fn x)) (M.bd x) ha hd h1 h2
theorem xex(M:Md X.K X.mg A fd)(ih:∀x,okK (kd x) X.prog X.w X.K X.mg X.base k (A x) (fd x) (ps x) (run n x))(hr:Room k X.A)(hp:DM (CX1 true X.prog X.w) X E)(ha:PA X (e::es) (RA X.K f))(hk:kd x=.ex)(hm:me x=false)(hs:nm x=s)(hg:Gl X s)(h1:Bn e=false)(h2:Bs es=true)(hd:(s==("__debug__":Str))=false):PE X (.Call (.Name s p) (e::es) [] pos) (RX X.K E (Ak (run n x) f)):=by subst hs;exact V3 (NC .ex (ih x) hk) hr hg (M.mgs x hm) (Fun.kp (M.fn x)) (M.bd x) hp ha hd h1 h2
end
seal PE PA PSs PS PT PG PGs PPf PI PW PIf PO PH BE F1 Pg J2 Ph Pi
theorem sc(x:Fx):FnScope (ns x) (ps x) (AD (st x)):=by
 cases x<;>exact⟨rfl,rfl,rfl,by decide +kernel,rfl,by decide +kernel,by decide +kernel⟩
local macro_rules | `(tactic| clear 30 $t)=>`(tactic| with_reducible refine(?_ : $t))
seal Ho
theorem step(M:Md K mg A fd)(ih0:∀x,okK (kd x) P w K mg base (2*n+2) (A x) (fd x) (ps x) (run n x))(y:Fx):okK (kd y) P w K mg base (2*n+2+1+1) (A y) (fd y) (ps y) (run (n+1) y):=by
 have ih:=λx=>Zd (ih0 x);obtain⟨_,g9⟩:=M.g9;obtain⟨_,gG⟩:=M.gG;obtain⟨_,g8⟩:=M.g8;clear 5 M.xm P' ca x xt x0;obtain⟨_,gL⟩:=M.gL;obtain⟨_,gM,kt_SIDES⟩:=M.gM;clear 5 M.MR Parley_ g6 kA k8 k9 kK jP jN kJ jZ kD kG;have kE:MAt K "Parley" "do" Parley_ (A .AS):=⟨by decide,g6,kK,by decide⟩;have jS:MAt K "Parley" "is_over" Parley_ (A .AJ):=⟨by decide,g6,jZ,by decide⟩;have kB:MAt K "Parley" "lying" Parley_ (A .AV):=⟨by decide,g6,kG,by decide⟩;have kH:MAt K "Parley" "may" Parley_ (A .Bb):=⟨by decide,g6,kJ,by decide⟩;have k7:MAt K "Parley" "states" Parley_ (A .AQ):=⟨by decide,g6,kD,by decide⟩;clear 5 M.jI Hearer_b jY k6;clear 5 M.QI Side_ g7 kI kF jT jR jJ j9 j7 j6 jW iY jK jQ iU;have j8:MAt K "Side" "speak" Side_ (A .Bc):=⟨by decide,g7,jJ,by decide⟩;have j4:MAt K "Side" "listen" Side_ (A .A5):=⟨by decide,g7,j9,by decide⟩;have xn:XN1 P w K mg base (ca "NoTalk") P':=TJ rfl bO rfl rfl xt;have jG:MAt K "Side" "hear" Side_ (A .A4):=⟨by decide,g7,jQ,by decide⟩;have iR:MAt K "Side" "unread_of" Side_ (A .AA):=⟨by decide,g7,iU,by decide⟩;have jF:MAt K "Parley" "do_saying" Parley_ (A .Ax):=⟨by decide,g6,jP,by decide⟩;have jE:MAt K "Parley" "do_taking" Parley_ (A .Ay):=⟨by decide,g6,jN,by decide⟩;have jV:MAt K "Parley" "of_side" Parley_ (A .AB):=⟨by decide,g6,k9,by decide⟩;have jM:MAt K "Side" "say" Side_ (A .Bi):=⟨by decide,g7,jT,by decide⟩;have jD:MAt K "Side" "take" Side_ (A .Ba):=⟨by decide,g7,jR,by decide⟩;have j2:MAt K "Side" "may_say" Side_ (A .A0):=⟨by decide,g7,j6,by decide⟩;have iS:MAt K "Side" "has_ended" Side_ (A .AK):=⟨by decide,g7,iY,by decide⟩;have j3:MAt K "Side" "waiting" Side_ (A .A2):=⟨by decide,g7,j7,by decide⟩;have jA:MAt K "Side" "state" Side_ (A .AZ):=⟨by decide,g7,jK,by decide⟩;have sy:=sc y;have nd:=sy.nd;have mf:=M.fn y
 cases y<;>first|(clear 30 (okK .pl ..);refine Z9 (g:=fnOf _ _ _) rfl (YA rfl rfl mf sy (λcdv A' outer s H E hr=>?_)))|(clear 30 (okK .ex ..);refine W6 (g:=fnOf _ _ _) rfl (VU rfl rfl mf sy (λcdv A' outer s H E hr hp hq ho=>?_)))|(clear 30 (okK .fr ..);refine W5 (g:=fnOf _ _ _) rfl (VT rfl rfl mf sy (λcdv A' outer s H E hr=>?_)))
 all_goals repeat' first
  | (clear 30 (PE ..);first
    | (clear 30 (PE _ (.Name ..) ..);first
      |(clear 30 (PE _ _ (RE _ (Aa _)));exact(Yv _))
      |(clear 30 (PE _ (.Name _ _) (RE _ (fC (.ty _))));exact(Ks rfl M.iQ X9))
      |(clear 30 (PE _ (.Name _ _) (RE _ (fC (.ty _))));exact(Ks rfl M.gZ SY))
      |(clear 30 (PE _ _ (RE _ (fC (.gts _))));exact(Yo rfl gM kt_SIDES))
      |(clear 30 (PE _ (.Name _ _) (RE _ (fC (.int _))));exact(Lk rfl g9))
      |(clear 30 (PE _ (.Name _ _) (RE _ (fC (.ty _))));exact(Ks rfl M.iD QH))
      |(clear 30 (PE _ (.Name _ _) (RE _ (fC (.ty _))));exact(Ks rfl M.i9 Vx))
      |(clear 30 (PE _ (.Name _ _) (RE _ (fC (.int _))));exact(Lk rfl gG))
      |(clear 30 (PE _ (.Name _ _) (RE _ (fC (.int _))));exact(Lk rfl g8))
      |(clear 30 (PE _ (.Name _ _) (RE _ (fC (.ty _))));exact(Ks rfl M.gS Ol))
      |(clear 30 (PE _ _ (RE _ (fC (.str _))));exact(Tl rfl gL)))
    | (clear 30 (PE _ (.Constant ..) ..);first
      |(clear 30 (PE _ _ (RE _ (fC (.int _))));exact Yp)
      |(clear 30 (PE _ _ (RE _ (fC (.str _))));exact Yu)
      |(clear 30 (PE _ _ (RE _ (fC (.bl _))));exact a9)
      |(clear 30 (PE _ _ (RE _ (fC .non)));exact Yq))
    | (clear 30 (PE _ (.Subscript ..) ..);first
      |(clear 30 (PE _ _ (RE _ (Ac _ _ ixD)));refine U2 YQ af ?_ ?_ (λ_ _=>rfl))
      |(clear 30 (PE _ _ (RE _ (Ac _ _ As)));refine U2 YM Sn ?_ ?_ (λ_ _=>rfl))
      |(clear 30 (PE _ _ (RE _ (fSl _ _ _ GC)));refine Na sl3 O5 ?_ ?_ ?_)
      |(clear 30 (PE _ _ (RE _ (fSl _ _ _ LD)));refine Na sl3 UA ?_ ?_ ?_)
      |(clear 30 (PE _ _ (RF _ (Pv _ _ _)));refine To ?_ ?_ ?_))
    | (clear 30 (PE _ (.Call ..) ..);first
      |(clear 30 (PE _ _ (RE _ (Ak (run _ _) _)));refine @cP _ _ _ _ _ _ _ _ _ _ _ _ M ih hr ?_ (by rfl) (by rfl) (by rfl) (by rfl) (by rfl) (by rfl) (by decide))
      |(clear 30 (PE _ _ (RE _ (fB _ AY)));refine Kr Ta Xd rfl M.iO XY ?_)
      |(clear 30 (PE _ _ (RX _ _ (Ak (run _ _) _)));refine @xex _ _ _ _ _ _ _ _ _ _ _ _ _ M ih hr hp ?_ (by rfl) (by rfl) (by rfl) (by rfl) (by rfl) (by rfl) (by decide))
      |(clear 30 (PE _ _ (RE _ (fB _ Da)));refine Kr S8 Xc rfl M.gH Ml ?_)
      |(clear 30 (PE _ _ (RF _ (Ez (run _ _) _)));refine @fF _ _ _ _ _ _ _ _ _ _ _ _ M ih hr ?_ (by rfl) (by rfl) (by rfl) (by rfl) (by rfl) (by rfl) (by decide))
      |(clear 30 (PE _ _ (RE _ (objM BH _ _)));refine QT ?_ ?_)
      |(clear 30 (PE _ _ (RE _ (AT _ (run _ .AB) _ _)));refine FU M.cm jV (ih .AB) hr (M.bd .AB) ?_ ?_)
      |(clear 30 (PE _ _ (RE _ (fB _ JT)));refine Kr Tb Xk rfl M.iP X8 ?_)
      |(clear 30 (PE _ _ (RF _ (fBF _ Gp)));refine bb M1 Xe rfl M.gS Ol ?_)
      |(clear 30 (PE _ _ (RE _ (fB _ JO)));refine a8 QJ Xb rfl M.iD QH ?_)
      |(clear 30 (PE _ _ (RE _ (AT _ (II (run _ .AS)) _ _)));refine FU M.cm kE (aX (ih .AS)) hr (M.bd .AS) ?_ ?_)
      |(clear 30 (PE _ _ (RE _ (AT _ (run _ .AV) _ (ret []))));refine D6 M.cm kB (ih .AV) hr (M.bd .AV) ?_)
      |(clear 30 (PE _ _ (RE _ (objM EV _ _)));refine QX ?_ ?_)
      |(clear 30 (PE _ (.Call (.Name _ _) (_::_) [] _) (RE _ (Hv _ _ _)));refine Ov (by decide) g7 kF (ih0 .A9) hr rfl kI (M.bd .A9) ?_)
      |(clear 30 (PE _ _ (RE _ (AT _ (run _ .AK) _ (ret []))));refine D6 M.cm iS (ih .AK) hr (M.bd .AK) ?_)
      |(clear 30 (PE _ _ (RE _ (AT _ (run _ .A2) _ (ret []))));refine D6 M.cm j3 (ih .A2) hr (M.bd .A2) ?_)
      |(clear 30 (PE _ _ (RE _ (AT _ (run _ .AZ) _ (ret []))));refine D6 M.cm jA (ih .AZ) hr (M.bd .AZ) ?_)
      |(clear 30 (PE _ _ (RE _ (fUn _ Kb)));refine QU ?_)
      |(clear 30 (PE _ _ (RE _ (fB _ IW)));refine Tk rfl M.iA ?_)
      |(clear 30 (PE _ _ (RF _ (fBF _ Lx)));refine Px rfl rfl M.gS rfl M.gI ?_)
      |(clear 30 (PE _ (.Call (.Attribute _ _ _) (_::_) [] _) (RE _ (findM _ _)));refine VI ?_ ?_)
      |(clear 30 (PE _ (.Call (.Attribute _ _ _) (_::_) [] _) (RE _ (NF _ _)));refine VJ ?_ ?_)
      |(clear 30 (PE _ _ (RX _ _ (AT _ (run _ .AS) _ _)));refine Hd M.cm kE (ih .AS) hr (M.bd .AS) hp ?_ ?_)
      |(clear 30 (PE _ _ (RE _ (AT _ (run _ .Bb) _ (ret []))));refine D6 M.cm kH (ih .Bb) hr (M.bd .Bb) ?_)
      |(clear 30 (PE _ _ (RE _ (AT _ (run _ .AQ) _ (ret []))));refine D6 M.cm k7 (ih .AQ) hr (M.bd .AQ) ?_)
      |(clear 30 (PE _ _ (RE _ (AT _ (run _ .AJ) _ (ret []))));refine D6 M.cm jS (ih .AJ) hr (M.bd .AJ) ?_)
      |(clear 30 (PE _ (.Call (.Name _ _) (_::_) [] _) (RE _ (Hv _ _ _)));refine Ov (by decide) g6 k8 (ih0 .AW) hr rfl kA (M.bd .AW) ?_)
      |(clear 30 (PE _ _ (RE _ (P7 _)));refine QV ?_)
      |(clear 30 (PE _ _ (RE _ (fB _ Ln)));refine Kr (QK rfl) Xg rfl M.iN XZ ?_)
      |(clear 30 (PE _ _ (RE _ (fB _ Lo)));refine Kr (QL rfl) Xh rfl M.iM X7 ?_)
      |(clear 30 (PE _ _ (RE _ (Ak _ _)));refine Th (ih .AN) hr rfl jY k6 (M.bd .AN) ?_)
      |(clear 30 (PE _ _ (RX _ _ (AT _ (run _ .Bc) _ _)));refine Hd M.cm j8 (ih .Bc) hr (M.bd .Bc) hp ?_ ?_)
      |(clear 30 (PE _ _ (RE _ (AT _ (run _ .A5) _ _)));refine FU M.cm j4 (ih .A5) hr (M.bd .A5) ?_ ?_)
      |(clear 30 (PE _ _ (RE _ (AT _ (run _ .A4) _ _)));refine FU M.cm jG (ih .A4) hr (M.bd .A4) ?_ ?_)
      |(clear 30 (PE _ _ (RE _ (AT _ (run _ .AA) _ _)));refine FU M.cm iR (ih .AA) hr (M.bd .AA) ?_ ?_)
      |(clear 30 (PE _ _ (RX _ _ (AT _ (run _ .Ax) _ _)));refine Hd M.cm jF (ih .Ax) hr (M.bd .Ax) hp ?_ ?_)
      |(clear 30 (PE _ _ (RX _ _ (AT _ (run _ .Ay) _ _)));refine Hd M.cm jE (ih .Ay) hr (M.bd .Ay) hp ?_ ?_)
      |(clear 30 (PE _ _ (RX _ _ (AT _ (run _ .Bi) _ _)));refine Hd M.cm jM (ih .Bi) hr (M.bd .Bi) hp ?_ ?_)
      |(clear 30 (PE _ _ (RE _ (AT _ (run _ .Ba) _ _)));refine FU M.cm jD (ih .Ba) hr (M.bd .Ba) ?_ ?_)
      |(clear 30 (PE _ _ (RE _ (AT _ (run _ .A0) _ (ret []))));refine D6 M.cm j2 (ih .A0) hr (M.bd .A0) ?_))
    | (clear 30 (PE _ (.List ..) ..);first
      |refine @Yw _ _ _ _ ?_)
    | (clear 30 (PE _ (.Tuple ..) ..);first
      |(clear 30 (PE _ (.Tuple _ _ _) (RE _ (AL _)));refine @QY _ _ _ _ _ ?_)
      |(clear 30 (PE _ (.Tuple _ _ _) (RE _ (AL _)));refine QY ?_))
    | (clear 30 (PE _ (.BinOp ..) ..);first
      |(clear 30 (PE _ _ (RE _ (Ac _ _ AU)));refine I9 OO NR ?_ ?_)
      |(clear 30 (PE _ _ (RE _ (Ac _ _ Bz)));refine I9 Zk Xi ?_ ?_)
      |(clear 30 (PE _ _ (RE _ (Ac _ _ Bv)));refine I9 Wy Ux ?_ ?_)
      |(clear 30 (PE _ _ (RE _ (Ac _ _ CO)));refine I9 Zn Xm ?_ ?_)
      |(clear 30 (PE _ _ (RE _ (Ac _ _ CN)));refine I9 Wz Uy ?_ ?_)
      |(clear 30 (PE _ _ (RF _ _));refine bf RM Uv ?_ ?_)
      |(clear 30 (PE _ _ (RX _ _ (IY _ _ AU)));refine bo OO NR ?_ ?_)
      |(clear 30 (PE _ _ (RE _ (Ac _ _ NT)));refine I9 Zm Xl ?_ ?_))
    | (clear 30 (PE _ (.Attribute ..) ..);first
      |(clear 30 (PE _ _ (RE _ (Bq _ _)));refine Yn M.cm (by decide) ?_ rfl)
      |(clear 30 (PE _ _ (RE _ (bnd _ (K5 _))));refine Ym x x.na ?_ rfl))
    | (clear 30 (PE _ (.BoolOp ..) ..);first
      |(clear 30 (PE _ _ (RE _ (Dd _ _)));refine Yl ?_ ?_)
      |(clear 30 (PE _ _ (RE _ _));refine Yt ?_)
      |(clear 30 (PE _ _ (RE _ (Lj _ _)));refine ba ?_ ?_))
    | (clear 30 (PE _ (.Compare ..) ..);first
      |(clear 30 (PE _ (.Compare _ [.Eq] [_] _) (RE _ (Ac _ _ (eqS _))));refine Ha (RN hr.units) (Jn (g:=id)) ?_ ?_ (Ee _))
      |(clear 30 (PE _ _ (RE _ (Fp _ _ _ _ _)));refine Tj RW RW O4 O4 ?_ ?_ ?_)
      |(clear 30 (PE _ (.Compare _ [.NotEq] [_] _) (RE _ (Ac _ _ (eqS _))));refine Ha (RY hr.units) (Jn (g:=λb=>!b)) ?_ ?_ (Ee _))
      |(clear 30 (PE _ _ (RE _ (Ac _ _ isC)));refine Ha RV So ?_ ?_ (Ee _))
      |(clear 30 (PE _ _ (RE _ (Ac _ _ (inD _))));refine Ha RU ae ?_ ?_ (by with_unfolding_all rfl))
      |(clear 30 (PE _ _ (RE _ (Ac _ _ gtA)));refine Ha RQ O3 ?_ ?_ (Ee _))
      |(clear 30 (PE _ _ (RE _ (Ac _ _ (Lh _))));refine Ha (Wx hr.units) (Uw (b:=true)) ?_ ?_ (Ee _)))
    | (clear 30 (PE _ (.Dict ..) ..);first
      |(clear 30 (PE _ _ (RE _ (El _)));refine VH ?_)
      |(clear 30 (PE _ _ (RE _ (Fq [])));exact QW))
    | (clear 30 (PE _ (.IfExp ..) ..);first
      |refine Tm ?_ ?_ ?_)
    | (clear 30 (PE _ (.UnaryOp ..) ..);first
      |refine Yr ?_)
    | (clear 30 (PE _ (.ListComp ..) ..);first
      |(clear 30 (PE _ (.ListComp _ [⟨(.Name ("state":Str) _),_,_,0⟩] _ _) (RF _ (Gf _ _ _ _ _ _)));refine Nb (Fm ["state"] [] rfl rfl rfl rfl rfl) rfl ?_ (λ_ _ _ _ _=>?_) (λ_ _ _ _ _=>?_) (λ_ _ _ _ _=>?_))
      |(clear 30 (PE _ (.ListComp _ [⟨(.Name ("sign":Str) _),_,_,0⟩] _ _) (RF _ (CL _ [] _ _ _ _)));refine Ja (Fm ["sign"] [] rfl rfl rfl rfl rfl) rfl ?_ (λ_ _ _ _ _=>?_) (λ_ _ _ _ _=>?_) (λ_ _ _ _ _=>?_))
      |(clear 30 (PE _ _ (RF _ (CL _ [0,1] _ _ _ _)));refine Ja (Fm ["k"] [(0, "number"),(1, "width")] rfl rfl rfl rfl rfl) rfl ?_ (λ_ _ _ _ _=>?_) (λ_ _ _ _ _=>?_) (λ_ _ _ _ _=>?_))
      |(clear 30 (PE _ (.ListComp _ [⟨(.Name ("k":Str) _),_,_,0⟩] _ _) (RF _ (CL _ [] _ _ _ _)));refine Ja (Fm ["k"] [] rfl rfl rfl rfl rfl) rfl ?_ (λ_ _ _ _ _=>?_) (λ_ _ _ _ _=>?_) (λ_ _ _ _ _=>?_))
      |(clear 30 (PE _ _ (RF _ (CL _ [4,3] _ _ _ _)));refine Ja (Fm ["sign"] [(4, "codes"),(3, "signs")] rfl rfl rfl rfl rfl) rfl ?_ (λ_ _ _ _ _=>?_) (λ_ _ _ _ _=>?_) (λ_ _ _ _ _=>?_))
      |(clear 30 (PE _ (.ListComp _ [⟨(.Name ("pair":Str) _),_,_,0⟩] _ _) (RF _ (Gf _ _ _ _ _ _)));refine Nb (Fm ["pair"] [] rfl rfl rfl rfl rfl) rfl ?_ (λ_ _ _ _ _=>?_) (λ_ _ _ _ _=>?_) (λ_ _ _ _ _=>?_)))
    |(clear 30 (PE _ _ (RE _ (Au _)));refine VL ?_)
    |(clear 30 (PE _ _ (RE _ (D4 _)));refine Ys ?_))
  | (clear 30 (PA ..);first
    |refine @Tg _ _ _ _ _ ?_ ?_ rfl
    |exact Yk)
  | (clear 30 (PSs ..);first
    |refine @Tv _ _ _ _ _ _ ?_ ?_
    |refine @Jb _ _ _ _ ?_
    |exact V1
    |exact(Jb Oz)
    |refine Tw ?_
    |exact(Jb OA)
    |exact(Jb Jw))
  | (clear 30 (PS ..);first
    | (clear 30 (PS _ (.Return ..) ..);first
      |(clear 30 (PS _ _ (RSg _ (μR _) (An _)));refine Q7 ?_)
      |(clear 30 (PS _ _ (RSg _ (μX _ _) (An (nxD _))));refine OC ?_)
      |(clear 30 (PS _ _ (RSg _ (μX _ _) (An _)));refine Jl (OD ?_))
      |(clear 30 (PS _ _ (RSg _ (μF _) (HK _)));refine OB ?_)
      |(clear 30 (PS _ _ (RSg _ (μF _) (Hi _)));exact(Q8 _)))
    | (clear 30 (PS _ (.If ..) ..);first
      |refine bi ?_ ?_ ?_)
    | (clear 30 (PS _ (.Assign ..) ..);first
      |(clear 30 (PS _ _ (RSg _ _ (setS _ (D4 (CL _ [] _ _ _ _)))));refine fs_objC (Fm ["g"] [] rfl rfl rfl rfl rfl) rfl nd rfl rfl ?_ (λ_ _ _ _ _=>?_) (λ_ _ _ _ _=>?_) (λ_ _ _ _ _=>?_))
      |(clear 30 (PS _ (.Assign [.Name _ _] _ _) (RSg _ _ (setS _ _)));refine Nh nd rfl (.inl rfl) ?_)
      |(clear 30 (PS _ _ (RSg _ _ (parS _ _ _)));refine fs_par rfl nd rfl rfl (by decide) rfl rfl ?_ rfl)
      |(clear 30 (PS _ _ (RSg _ _ (Cg _ _)));refine YB ?_ ?_)
      |(clear 30 (PS _ _ (RSg _ (μX _ _) (setX _ _)));refine Jl (OE nd rfl (.inl rfl) ?_))
      |(clear 30 (PS _ _ (RSg _ _ (Ef _ _)));refine YD nd rfl (.inl rfl) ?_)
      |(clear 30 (PS _ _ (RSg _ _ (C3 _ _ _)));refine YC M.cm (by decide) ?_ ?_)
      |(clear 30 (PS _ _ (RSX _ _ (setX _ _)));refine OE nd rfl (.inl rfl) ?_)
      |(clear 30 (PS _ _ (RSg _ _ (setS _ (Au (CL _ [0] _ _ _ _)))));refine V0 (Fm ["side"] [(0, "self")] rfl rfl rfl rfl rfl) rfl nd rfl rfl ?_ (λ_ _ _ _ _=>?_) (λ_ _ _ _ _=>?_) (λ_ _ _ _ _=>?_))
      |(clear 30 (PS _ (.Assign [.Name _ _] _ _) (RSg _ _ (setS _ _)));refine Nh nd rfl (.inr rfl) ?_)
      |(clear 30 (PS _ (.Assign [.Name _ _] _ _) (RSg _ _ (setS _ _)));refine Nh nd rfl (.inr rfl) ?_))
    | (clear 30 (PS _ (.For ..) ..);first
      |(clear 30 (PS _ (.For _ _ _ [] _) (RSg _ _ (B7 (fEnum _) _ _)));refine fs_for2 kS rfl ?_ ?_ ?_)
      |(clear 30 (PS _ (.For _ _ _ [] _) (RSg _ _ (B7 _ _ _)));refine Q5 kS rfl ?_ ?_ ?_)
      |(clear 30 (PS _ (.For _ _ _ [] _) (RSg _ _ (B7 _ _ _)));refine Q5 ho rfl ?_ ?_ ?_)
      |(clear 30 (PS _ _ (RSg _ _ (Kw _ _ _)));refine VZ kS rfl ?_ ?_ ?_))
    | (clear 30 (PS _ (.Expr ..) ..);first
      |(clear 30 (PS _ _ (RSg _ _ (ownM _ BH _)));refine PF _ ?_)
      |(clear 30 (PS _ _ (RSg _ _ (Dm _)));refine Oy ?_)
      |(clear 30 (PS _ _ (RSg _ _ (ownM _ EV _)));refine PJ _ ?_))
    |exact OA
    |exact Jw
    |exact Oz
    | (clear 30 (PS _ (.While ..) ..);first
      |refine Tu kS ?_ ?_)
    | (clear 30 (PS _ (.Try ..) ..);first
      |(clear 30 (PS _ _ (RSg _ (μR _) (FG _ _)));refine YE (qx:=true) x Y2 rfl rfl (λpn E hp=>?_) ?_))
    | (clear 30 (PS _ (.Raise ..) ..);first
      |(clear 30 (PS _ _ (RSg _ (μX _ _) (Fs ("NoRow":Str) _)));refine Jl (LZ (n:="NoRow") x (by decide) rfl (x0 "NoRow" (by decide)) rfl hq rfl ?_))
      |(clear 30 (PS _ _ (RSg _ (μX _ _) (Fs ("Short":Str) _)));refine Jl (LZ (n:="Short") x (by decide) rfl (x0 "Short" (by decide)) rfl hq rfl ?_))
      |(clear 30 (PS _ _ (RSg _ (μX _ _) (IN _ _)));refine Jl (Q6 x xn (hr.mono (by omega)) rfl hq rfl ?_)))
    | (clear 30 (PS _ (.Break ..) ..);first
      |exact Tt)
    |refine Q7 ?_
    |refine OB ?_
    |refine OC ?_
    |refine Jl (OD ?_)
    |refine Oy ?_)
  | (clear 30 (PT ..);first
    | (clear 30 (PT _ (.Compare ..) ..);first
      |(clear 30 (PT _ (.Compare _ [.Eq] [_] _) (RT _ (Am (Ac _ _ (eqS _)))));refine Gj (RN hr.units) (Jn (g:=id)) ?_ ?_ (Ee _))
      |(clear 30 (PT _ (.Compare _ [.NotEq] [_] _) (RT _ (Am (Ac _ _ (eqS _)))));refine Gj (RY hr.units) (Jn (g:=λb=>!b)) ?_ ?_ (Ee _))
      |(clear 30 (PT _ _ (RT _ (Am (Ac _ _ gtA))));refine Gj RQ O3 ?_ ?_ (Ee _))
      |(clear 30 (PT _ _ (RT _ (Am (Ac _ _ geA))));refine Gj Zh W9 ?_ ?_ (Ee _))
      |(clear 30 (PT _ _ (RT _ (Am (Ac _ _ isC))));refine Gj RV So ?_ ?_ (Ee _))
      |(clear 30 (PT _ _ (RT _ (Am (Ac _ _ ltA))));refine Gj Zj Xf ?_ ?_ (Ee _))
      |(clear 30 (PT _ _ (RT _ (Am (Ac _ _ (inS _)))));refine Gj (Zi hr.units) (Xa (neg:=false)) ?_ ?_ (by with_unfolding_all rfl)))
    | (clear 30 (PT _ (.UnaryOp ..) ..);first
      |refine YF ?_)
    | (clear 30 (PT _ (.BoolOp ..) ..);first
      |refine bj ?_)
    |(clear 30 (PT _ _ (RT _ (Am _)));refine Q9 ?_)
    |(clear 30 (PT _ _ (RT _ (Am _)));refine Q9 ?_))
  | (clear 30 (PG ..);first
    | (clear 30 (PG _ (.Name ..) ..);first
      |(clear 30 (PG _ (.Name _ _) (RG _ (AE _)));exact(EO nd rfl (.inl rfl)))
      |(clear 30 (PG _ (.Name _ _) (RG _ (AE _)));exact(EO (by show List.Nodup [("side":Str),("self":Str)] ;decide +kernel) rfl (.inl rfl)))
      |(clear 30 (PG _ (.Name _ _) (RG _ (AE _)));exact(EO (by show List.Nodup [("state":Str)] ;decide +kernel) rfl (.inl rfl)))
      |(clear 30 (PG _ (.Name _ _) (RG _ (AE _)));exact(EO (by show List.Nodup [("sign":Str)] ;decide +kernel) rfl (.inl rfl)))
      |(clear 30 (PG _ (.Name _ _) (RG _ (AE _)));exact(EO (by show List.Nodup [("k":Str),("number":Str),("width":Str)] ;decide +kernel) rfl (.inl rfl)))
      |(clear 30 (PG _ (.Name _ _) (RG _ (AE _)));exact(EO (by show List.Nodup [("k":Str)] ;decide +kernel) rfl (.inl rfl)))
      |(clear 30 (PG _ (.Name _ _) (RG _ (AE _)));exact(EO (by show List.Nodup [("sign":Str),("codes":Str),("signs":Str)] ;decide +kernel) rfl (.inl rfl)))
      |(clear 30 (PG _ (.Name _ _) (RG _ (AE _)));exact(EO (by show List.Nodup [("pair":Str)] ;decide +kernel) rfl (.inl rfl))))
    | (clear 30 (PG _ (.Subscript ..) ..);first
      |refine Q0 ?_ ?_)
    | (clear 30 (PG _ (.Tuple ..) ..);first
      |refine bg rfl ?_))
  | (clear 30 (PGs ..);first
    |refine Tp ?_ ?_
    |exact VM)
  | (clear 30 (PPf ..);first
    |refine Ts ?_ ?_
    |exact VY)
  | (clear 30 (PI ..);first
    | (clear 30 (PI _ _ (.Call ..) ..);first
      |(clear 30 (PI _ _ _ (RI _ (Do _)));refine Py rfl M.gR ?_)
      |(clear 30 (PI _ _ _ (RI _ (GN _)));refine Pz rfl M.gR ?_))
    |(clear 30 (PI _ _ _ (RI _ (Dn _)));refine Yy ?_)
    |(clear 30 (PI _ _ _ (RIG _ (Li _)));refine VN ?_))
  | (clear 30 (PW ..);first
    |(clear 30 (PW _ (.BoolOp .Or (_::_::_) _) (RT _ (fOr _ _)));refine bn ?_ ?_)
    |(clear 30 (PW _ (.BoolOp .Or [_] _) (RT _ _));refine YH ?_)
    |(clear 30 (PW _ (.BoolOp .And (_::_::_) _) (RT _ (Fy _ _)));refine YG ?_ ?_)
    |(clear 30 (PW _ (.BoolOp .And [_] _) (RT _ _));refine V2 ?_))
  | (clear 30 (PIf ..);first
    |exact VO
    |(clear 30 (PIf _ [_] (RT _ _));refine VP ?_))
  | (clear 30 (PO ..);first
    |refine VX ?_
    |exact VW)
  | (clear 30 (PH ..);first
    |exact Yx
    |(clear 30 (PH _ _ (.ExceptHandler (some (.Name _ _)) none (_::_) _::_) (RH _ _ _ (hNo _ _ _)));refine U4 x rfl (x.ms "Short" (by decide)) (x.cl "Short" (by decide)) (λ_ hn=>x.subE hn (by decide)) (λy=>?_) ?_)
    |(clear 30 (PH _ _ (.ExceptHandler (some (.Name _ _)) (some _) (_::_) _::_) (RH _ _ _ (hAs _ _ _ _)));refine U3 x rfl (x.ms "Broken" (by decide)) (x.cl "Broken" (by decide)) (λ_ hn=>x.subE hn (by decide)) nd rfl rfl (λy=>?_) ?_)
    |(clear 30 (PH _ _ (.ExceptHandler (some (.Name _ _)) (some _) (_::_) _::_) (RH _ _ _ (hAs _ _ _ _)));refine U3 x rfl (x.ms "NoTalk" (by decide)) (x.cl "NoTalk" (by decide)) (λ_ hn=>x.subE hn (by decide)) nd rfl rfl (λy=>?_) ?_)
    |(clear 30 (PH _ _ (.ExceptHandler (some (.Name _ _)) none (_::_) _::_) (RH _ _ _ (hNo _ _ _)));refine U4 x rfl (x.ms "NoRow" (by decide)) (x.cl "NoRow" (by decide)) (λ_ hn=>x.subE hn (by decide)) (λy=>?_) ?_))
theorem all_ok(M:Md K mg A fd):∀(n:Nat) (x:Fx),okK (kd x) P w K mg base (2*n+2) (A x) (fd x) (ps x) (run n x)
 |0,x=>T4
 |n+1,x=>by
   have ih:=all_ok M n;exact step M ih x
end
abbrev fno(x:Fx)(kV dc pm:ie)(an:Option ig)(cd ct:ie):iu:=PySem.W.fnOf (nm x) (ql x) (EN (st x)) (B6 (st x)) (AD (st x)) .none kV dc pm an cd ct
structure At(K:ib)(x:Fx)(f:ig)(fd:iu):Prop where
 a:me x=false->PySem.W.nsIn K mainGlobals (nm x)=some (some (.ref f))
 m:me x=true->∃C,PySem.W.nsIn K mainGlobals (ow x)=some (some (.ref C))/\PySem.W.findIn K (.ref C) (nm x)=some (some (.ref f))/\PySem.W.isFn K (.ref f)=true
 fn:Fun K (nm x) (ql x) (st x) f fd
 bd:Binds K fd (ps x) []
 eq:∃kV dc pm an cd ct,fd=fno x kV dc pm an cd ct
theorem at_mk{K:ib}{x:Fx}{f:ig}{od an:Option ig}{sl:Array (Option ie)}{oc kV dc pm cd ct:ie}(e:me x=false)(a:PySem.W.nsIn K mainGlobals (nm x)=some (some (.ref f)))(l:K.lookup f=some ⟨oc,od,.func (fno x kV dc pm an cd ct),sl⟩)(c:PySem.W.codeIn K cd (ql x)=true)(k:PySem.W.keepIn K (.ref f)=true):∃p:ig×iu,At K x p.1 p.2:=by
 refine⟨(f,fno x kV dc pm an cd ct),λ_=>a,λz=>(by rw[e] at z;cases z),Hc (st:=st x) l c k,(Hc (st:=st x) l c k).binds (ps:=ps x) λ_ _ _ _ _ _ us hl=>?_,_,_,_,_,_,_,rfl⟩
 cases x<;>first|(obtain rfl:=ua2 hl;rfl)|(obtain⟨_,rfl⟩:=us1 hl;rfl)|(obtain⟨_,_,rfl⟩:=us2 hl;rfl)|(obtain⟨_,_,_,rfl⟩:=us3 hl;rfl)|(obtain⟨_,_,_,_,rfl⟩:=us4 hl;rfl)|(obtain⟨_,_,_,_,_,rfl⟩:=us5 hl;rfl)|(obtain⟨_,_,_,_,_,_,rfl⟩:=us6 hl;rfl)|(obtain⟨_,_,_,_,_,_,_,rfl⟩:=us7 hl;rfl)
theorem XX{K:ib}{x:Fx}{f C:ig}{od an:Option ig}{sl:Array (Option ie)}{oc kV dc pm cd ct:ie}(e:me x=true)(hc:PySem.W.nsIn K mainGlobals (ow x)=some (some (.ref C)))(a:PySem.W.findIn K (.ref C) (nm x)=some (some (.ref f)))(l:K.lookup f=some ⟨oc,od,.func (fno x kV dc pm an cd ct),sl⟩)(c:PySem.W.codeIn K cd (ql x)=true)(k:PySem.W.keepIn K (.ref f)=true)(t:PySem.W.isFn K (.ref f)=true):∃p:ig×iu,At K x p.1 p.2:=by
 refine⟨(f,fno x kV dc pm an cd ct),λz=>(by rw[e] at z;cases z),λ_=>⟨C,hc,a,t⟩,Hc (st:=st x) l c k,(Hc (st:=st x) l c k).binds (ps:=ps x) λ_ _ _ _ _ _ us hl=>?_,_,_,_,_,_,_,rfl⟩
 cases x<;>first|(obtain rfl:=ua2 hl;rfl)|(obtain⟨_,rfl⟩:=us1 hl;rfl)|(obtain⟨_,_,rfl⟩:=us2 hl;rfl)|(obtain⟨_,_,_,rfl⟩:=us3 hl;rfl)|(obtain⟨_,_,_,_,rfl⟩:=us4 hl;rfl)|(obtain⟨_,_,_,_,_,rfl⟩:=us5 hl;rfl)|(obtain⟨_,_,_,_,_,_,rfl⟩:=us6 hl;rfl)|(obtain⟨_,_,_,_,_,_,_,rfl⟩:=us7 hl;rfl)
theorem xm_all{K:ib}{h:Heap}{mg:Str->Option ie}{P c1 c2 c3 c4:ig}{f:ig}{od an:Option ig}{sl:Array (Option ie)}{oc kV dc pm cd ct:ie}(X:K.In h)(G:h.Ns mainGlobals mg)(p:PySem.W.nsIn K mainGlobals "ParleyError" = some (some (.ref P)))(a1:PySem.W.nsIn K mainGlobals "Short" = some (some (.ref c1)))(a2:PySem.W.nsIn K mainGlobals "Broken" = some (some (.ref c2)))(a3:PySem.W.nsIn K mainGlobals "NoTalk" = some (some (.ref c3)))(a4:PySem.W.nsIn K mainGlobals "NoRow" = some (some (.ref c4)))(q:Qw K P [c1,c2,c3,c4]=true)(nd:[P,c1,c2,c3,c4].Nodup)(fi:PySem.W.findIn K (.ref c3) "__init__" = some (some (.ref f)))(l:K.lookup f=some ⟨oc,od,.func (PySem.W.fnOf "__init__" "NoTalk.__init__" (EN (Bg (top 5) 0)) (B6 (Bg (top 5) 0)) (AD (Bg (top 5) 0)) .none kV dc pm an cd ct),sl⟩)(ii:Nk K c3 f=true)(hf:PySem.W.isFn K (.ref f)=true)(hs:PySem.W.findIn K (.ref c3) "__setattr__" = some (some (.builtin "object.__setattr__")))(cc:PySem.W.codeIn K cd "NoTalk.__init__" = true)(k:PySem.W.keepIn K (.ref f)=true)(n4:KD K c4=true)(n1:KD K c1=true):∃(P:ig) (ca:Str->ig),XM K mg P ca/\XF1 K (ca "NoTalk") P "NoTalk.__init__" (Bg (top 5) 0)/\∀n∈(["NoRow", "Short"]:List Str),XN0 K (ca n):=by
 have x:=de X G p a1 a2 a3 a4 q nd;refine⟨P,_,x,aT (C:=c3) (st:=(Bg (top 5) 0)) ⟨x.cl "NoTalk" (by decide),x.kp "NoTalk" (by decide),x.gt "NoTalk" (by decide),x.gc "NoTalk" (by decide),x.na "NoTalk" (by decide),x.nd "NoTalk" (by decide)⟩ ii hf hs l cc k (λ_ _ _ _ _ _ us hl=>by match us,hl with|[_,_],_=>rfl),?_⟩;intro n hn;simp only[uk3,uh6,lw] at hn;rcases hn with rfl|rfl
 .exact SO n4
 .exact SO n1
theorem fin_mk{K:ib}{h:Heap}{mg:Str->Option ie}{fa:ig}(X:K.In h)(G:h.Ns mainGlobals mg)(hmg:mg "law" = some (.ref fa))(H:∀x:Fx,∃p:ig×iu,At K x p.1 p.2)(i9:PySem.W.nsIn K mainGlobals "bool" = some none)(iA:PySem.W.nsIn K mainGlobals "dict" = some none)(iD:PySem.W.nsIn K mainGlobals "int" = some none)(gH:PySem.W.nsIn K mainGlobals "isinstance" = some none)(iO:PySem.W.nsIn K mainGlobals "len" = some none)(gS:PySem.W.nsIn K mainGlobals "list" = some none)(iN:PySem.W.nsIn K mainGlobals "max" = some none)(iM:PySem.W.nsIn K mainGlobals "min" = some none)(iP:PySem.W.nsIn K mainGlobals "ord" = some none)(gR:PySem.W.nsIn K mainGlobals "range" = some none)(gI:PySem.W.nsIn K mainGlobals "reversed" = some none)(iQ:PySem.W.nsIn K mainGlobals "str" = some none)(gZ:PySem.W.nsIn K mainGlobals "tuple" = some none){iE:Tok}(g9:PySem.W.nsIn K mainGlobals "FIRST_SIGN" = some (some (.int 32 iE))){iJ:Tok}(gG:PySem.W.nsIn K mainGlobals "LAST_SIGN" = some (some (.int 126 iJ))){i3:Tok}(g8:PySem.W.nsIn K mainGlobals "PERCENT_SIGN" = some (some (.int 37 i3))){a_SIDES:ig}(gM:PySem.W.nsIn K mainGlobals "SIDES" = some (some (.ref a_SIDES)))(kt_SIDES:TC K a_SIDES ["left", "right"]=true){jH:Tok}(gL:PySem.W.nsIn K mainGlobals "SIGNS" = some (some (.str " !\"#$ &'()*+,-./0123456789:;<=>?@ABCDEFGHIJKLMNOPQRSTUVWXYZ[\\]^_`abcdefghijklmnopqrstuvwxyz{|}~" jH)))(xm:∃(P:ig) (ca:Str->ig),XM K mg P ca/\XF1 K (ca "NoTalk") P "NoTalk.__init__" (Bg (top 5) 0)/\∀n∈(["NoRow", "Short"]:List Str),XN0 K (ca n)){hU i7 iZ:ig}(j1:PySem.W.nsIn K mainGlobals "Reader" = some none)(iK:PySem.W.nsIn K mainGlobals "Lasting" = some none)(iC:PySem.W.nsIn K mainGlobals "Listener" = some none)(j5:PySem.W.nsIn K mainGlobals "Relay" = some none)(jC:PySem.W.nsIn K mainGlobals "Desk" = some none)(gK:PySem.W.nsIn K mainGlobals "Hearer" = some (some (.ref hU)))(g7:PySem.W.nsIn K mainGlobals "Side" = some (some (.ref i7)))(g6:PySem.W.nsIn K mainGlobals "Parley" = some (some (.ref iZ)))(jL:M3 K i7=true)(iW:M3 K iZ=true)(iV:Mx K iZ=true)(jB:Mx K i7=true)(hJ:PySem.W.findIn K (.ref i7) "state" = PySem.W.findIn K (.ref hU) "state")(i6:PySem.W.findIn K (.ref i7) "hear" = PySem.W.findIn K (.ref hU) "hear")(gJ:PySem.W.findIn K (.ref i7) "unread_of" = PySem.W.findIn K (.ref hU) "unread_of")(iX:byB K hU "__init__" = true):∃(A:Fx->ig) (fd:Fx->iu),Md K mg A fd/\A .law_=fa/\∀(s:ij) (u:ie),BindsTo s (fd .law_) ⟨[u],[]⟩ [("script",u)]:=by
 clear 5(Classical.axiomOfChoice H)F hF;have fm:∀x,me x=true->∀C,PySem.W.nsIn K mainGlobals (ow x)=some (some (.ref C))->PySem.W.findIn K (.ref C) (nm x)=some (some (.ref (F x).1))/\PySem.W.isFn K (.ref (F x).1)=true:=λx hx C h=>by
  clear 5((hF x).m hx)C e1 e2 e3;have e4:=e1.symm.trans h
  cases e4
  exact⟨e2,e3⟩
 have iI:=fm .AN rfl _ gK;have i5:=fm .AZ rfl _ gK;have iB:=fm .A4 rfl _ gK;have gP:=fm .AA rfl _ gK;have hV:=fm .A9 rfl _ g7;have iT:=fm .Bi rfl _ g7;have iH:=fm .Ba rfl _ g7;have iG:=fm .Bc rfl _ g7;have i8:=fm .A5 rfl _ g7;have i0:=fm .A2 rfl _ g7;have i4:=fm .A0 rfl _ g7;have gN:=fm .A1 rfl _ g7;have gY:=fm .AK rfl _ g7;have gU:=fm .AW rfl _ g6;have gW:=fm .AB rfl _ g6;have iL:=fm .AS rfl _ g6;have gQ:=fm .Ax rfl _ g6;have gO:=fm .Ay rfl _ g6;have iF:=fm .Bb rfl _ g6;have gX:=fm .AJ rfl _ g6;have hX:=fm .AQ rfl _ g6;have hZ:=fm .AV rfl _ g6;have cm:CM K:=aY λn hn=>by
  simp only[Lf,uk3,uh6,lw] at hn;rcases hn with rfl|rfl|rfl|rfl|rfl|rfl|rfl
  .exact .inl j1
  .exact .inr ⟨_,g7,jL⟩
  .exact .inl iK
  .exact .inr ⟨_,g6,iW⟩
  .exact .inl iC
  .exact .inl j5
  .exact .inl jC
 refine⟨λx=>(F x).1,λx=>(F x).2,{fn:=λx=>(hF x).fn,mgs:=λx e=>ul3 X G ((hF x).a e),bd:=λx=>(hF x).bd,cm:=cm,MR:=⟨_,g6,ul3 X G g6,U7 iV gU.1 gU.2,⟨gW.1,gW.2,Fun.kp (hF .AB).fn⟩,⟨iL.1,iL.2,Fun.kp (hF .AS).fn⟩,⟨gQ.1,gQ.2,Fun.kp (hF .Ax).fn⟩,⟨gO.1,gO.2,Fun.kp (hF .Ay).fn⟩,⟨iF.1,iF.2,Fun.kp (hF .Bb).fn⟩,⟨gX.1,gX.2,Fun.kp (hF .AJ).fn⟩,⟨hX.1,hX.2,Fun.kp (hF .AQ).fn⟩,⟨hZ.1,hZ.2,Fun.kp (hF .AV).fn⟩⟩,QI:=⟨_,g7,ul3 X G g7,U7 jB hV.1 hV.2,⟨iT.1,iT.2,Fun.kp (hF .Bi).fn⟩,⟨iH.1,iH.2,Fun.kp (hF .Ba).fn⟩,⟨iG.1,iG.2,Fun.kp (hF .Bc).fn⟩,⟨i8.1,i8.2,Fun.kp (hF .A5).fn⟩,⟨i0.1,i0.2,Fun.kp (hF .A2).fn⟩,⟨i4.1,i4.2,Fun.kp (hF .A0).fn⟩,⟨gN.1,gN.2,Fun.kp (hF .A1).fn⟩,⟨gY.1,gY.2,Fun.kp (hF .AK).fn⟩,⟨hJ.trans i5.1,i5.2,Fun.kp (hF .AZ).fn⟩,⟨i6.trans iB.1,iB.2,Fun.kp (hF .A4).fn⟩,⟨gJ.trans gP.1,gP.2,Fun.kp (hF .AA).fn⟩⟩,jI:=⟨_,ul3 X G gK,aW iX iI.1 (Fun.kp (hF .AN).fn)⟩,xm:=xm,i9:=uf2 X G i9,iA:=uf2 X G iA,iD:=uf2 X G iD,gH:=uf2 X G gH,iO:=uf2 X G iO,gS:=uf2 X G gS,iN:=uf2 X G iN,iM:=uf2 X G iM,iP:=uf2 X G iP,gR:=uf2 X G gR,gI:=uf2 X G gI,iQ:=uf2 X G iQ,gZ:=uf2 X G gZ,g9:=⟨iE,ul3 X G g9⟩,gG:=⟨iJ,ul3 X G gG⟩,g8:=⟨i3,ul3 X G g8⟩,gM:=⟨_,ul3 X G gM,YI kt_SIDES⟩,gL:=⟨jH,ul3 X G gL⟩ },?_,λs u=>?_⟩
 .have e:=hmg.symm.trans (ul3 X G ((hF .law_).a rfl))
  cases e
  rfl
 .obtain⟨_,_,_,_,_,_,e⟩:=(hF .law_).eq;show BindsTo s (F .law_).2 _ _;rw[e];exact .of_eq rfl
theorem walk{l:PySem.W.OpenLaw}{q:im}{loose:List Str}{XP:(Str->Option ie)->Heap->Prop}{YP:ir->Heap->Prop}{d:DefRec}{K:Params->ib}(m:Nat)(hm:Room (2*m+2) callerA)(hn:l.most=some 63)(hdf:d.params.defaults=[])
 (hY:∀(w:ir) (h:Heap),YP w h->(K w.params).In h) (lt:∀ns:List Int,ns.length<=63->∃S',run m .law_ [.scr ns] []=some (.bl true,S'))
 (F:∀(w:ir) (mg:Str->Option ie) (fa:ig) (h:Heap),(K w.params).In h->h.Ns mainGlobals mg->mg d.name=some (.ref fa)->
   ∃(A:Fx->ig) (fd:Fx->iu),Md (K w.params) mg A fd/\A .law_=fa/\∀(s:ij) (u:ie),BindsTo s (fd .law_) ⟨[u],[]⟩ [("script",u)]) :
 PySem.W.WalkO q loose XP YP l.row.toRowW d [] (λf vs=>PySem.call f vs):=
 L2.XI (n:=63) (k:=2*m+2) (x:="script") (CX:=λ_=>CX0) (sp:=λw=>spF (K w.params) (run m .law_)) hn (by decide) hdf hm hY
  (λw mg fa h KX G hmg=>by clear 5(F w mg fa h KX G hmg)A fd M e b;subst e;exact⟨fd .law_,b,λbase _ _=>all_ok M m .law_⟩)
  (λw H a ns hl hO hS=>by clear 5(lt ns hl)S' e;exact Rn hO hS e) λ_ _ _ _ _ z=>z
theorem RJ(k:Nat):Of (run (k+1) .CY):=λd h=>Nm h
theorem FS(k:Nat):C5 (run (k+2) .Bf):=SM (RJ k)
theorem NV(k:Nat):J8 (run (k+1) .Dv):=PN
theorem UI(k:Nat):MK (run (k+2) .CW):=Ng (NV k)
theorem JL:∀(n k:Nat),2*n+3<=k->FZ (run k .EW) n
 |0,k,_=>λs hs=>absurd s.depth_pos (by lia)
 |n+1,k,h=>by
   obtain⟨j,rfl⟩:∃j,k=j+4:=jt (by lia);have ih:=JL n (j+2) (by lia);exact VS (Ll ih (FS j)) (Nf ih) (Nd ih) (UI (j+1)) (FS (j+1))
theorem Nn(k:Nat):Ic (run (k+1) .Dw):=Wc
theorem T3(k:Nat):MG (run (k+2) .B2):=Wu (Nn k)
theorem O9(k:Nat):J9 (run (k+1) .BV):=UT
theorem Nc:∀(n k:Nat),n+3<=k->IT (run k .BC) n
 |0,k,_=>λs hs=>absurd s.depth_pos (by lia)
 |n+1,k,h=>by
   obtain⟨j,rfl⟩:∃j,k=j+3:=jt (by lia);exact VR (Nc n (j+2) (by lia)) (O9 (j+1)) (T3 j)
theorem MP(k:Nat):BXw (run (k+1) .C6):=Ya
theorem aA(k:Nat):UXn (run (k+2) .BS):=aB (MP k)
theorem ap(k:Nat):SXn (run (k+2) .Ej):=aq (NV k) (MP k)
theorem NK:∀(n k:Nat),2*n+4<=k->Ih (run k .BJ) n
 |0,k,_=>λs hs=>absurd s.depth_pos (by lia)
 |n+1,k,h=>by
   obtain⟨j,rfl⟩:∃j,k=j+5:=jt (by lia);exact Qh rfl rfl rfl rfl rfl (aA (j+1)) (ap (j+1)) (Nn (j+2)) (MP (j+2)) (O9 (j+2)) (NK n (j+3) (by lia))
theorem Wm(k:Nat):SQ (run (k+11) .B3):=Wl (NK 3 (k+10) (by lia))
theorem Oe(k:Nat):JD (run (k+12) .Eg):=NL (Wm k)
theorem Rb(k:Nat):FL arH (run (k+13) .A4):=TF (Oe k)
theorem FX(k:Nat):Cp (run (k+1) .BB):=Zp
theorem PU(k:Nat):FL arT (run (k+14) .A5):=PR (FX (k+12)) (Rb k)
theorem UH(k:Nat):FL arT (run (k+15) .Ba):=UG (PU k)
theorem L5(k:Nat):EK (run (k+1) .DN):=L4
theorem SN(k:Nat):KZ (run (k+2) .Dk):=UU (L5 k)
theorem KG(k:Nat):Hn (run (k+3) .Ck):=Ls (SN k)
theorem Qd(k:Nat):JC (run (k+10) .Ce):=Mr (JL 3 (k+9) (by lia)) (KG (k+6))
theorem T1(k:Nat):MF (run (k+1) .CB):=Wq
theorem TX(k:Nat):Pe (run (k+7) .BO):=Y1 (Nc 3 (k+6) (by lia))
theorem Uu(k:Nat):MJ (run (k+12) .Bi):=W7 (Su (TX (k+3)) (T1 (k+9)) (Qd k))
theorem Oc(k:Nat):KW (run (k+10) .Ce):=Qc (JL 3 (k+9) (by lia)) (KG (k+6))
theorem Sk(k:Nat):FK (run (k+12) .Bi):=Ut (Qm (Oc k))
theorem Uk(k:Nat):Ie arS (run (k+13) .Ax):=bL (Uu k)
theorem Sc(k:Nat):Fh SV (run (k+16) .Ay):=ZJ (UH k) (FX (k+14)) (FS (k+13))
theorem VC(k:Nat):Ie arD (run (k+14) .AS):=bz (Uk k)
theorem Oq(k:Nat):Fh JF (run (k+17) .AS):=bA (Sc k)
theorem Mf:∀(d k:Nat),d+1<=k->Ii (run k .Cb) d
 |0,k,h=>by
   obtain⟨j,rfl⟩:∃j,k=j+1:=jt (by lia);exact UC
 |d+1,k,h=>by
   obtain⟨j,rfl⟩:∃j,k=j+1:=jt (by lia);exact UD (Mf d j (by lia))
theorem O7:∀(n k:Nat),n<=k->JE (run k .Cc) n
 |0,k,_=>SH
 |n+1,k,h=>by
   obtain⟨j,rfl⟩:∃j,k=j+1:=jt (by lia);exact Xw (O7 n j (by lia))
theorem Ro:∀(n k:Nat),n+1<=k->KU (run k .Ca) n
 |0,k,_=>λs hs=>absurd s.depth_pos (by lia)
 |n+1,k,h=>by
   obtain⟨j,rfl⟩:∃j,k=j+2:=jt (by lia);exact Vy (Ro n (j+1) (by lia)) Y8
theorem TB:GrN (run 99 .B0):=dO (Mf 2 98 (by decide)) QM bw
theorem law_true(ns:List Int)(h:ns.length<=63):∃S',run 100 .law_ [.scr ns] []=some (.bl true,S'):=by
 clear 5(bu (ct:=run 95 .Ba) (Oq 81) (VC 83) (Oq 80) (Ro 3 97 (by decide)) (O7 3 97 (by decide)) (FX 95) (FX 96) (FX 94) (Sk 83) (FS 93) (L5 95) QM (FX 96) TB (ns:=ns) h)r S' e p;subst p;exact⟨S',e⟩
end K37
structure PySem.W.Fast:Prop where(tw1003283739720514267 tw10036632813266279107 tw10046061504788181535 tw10062569702419376120 tw10205221786678323129 tw10209275829768923052 tw10211320281139519852 tw102599761710375074 tw10268979697165709031 tw10303358522439355582 tw10332174327688287021 tw10336356891887293985 tw10344184834858264780 tw1036686274580992736 tw10370392349264618316 tw10380699796091961460 tw10388979724382277953 tw10525539991803046783 tw10654441619366987899 tw10741022026193725298 tw10763380553180931394 tw10821618328443747226 tw1083405237346575024 tw10834691835168272087 tw10841839727564699169 tw10874017530800095917 tw10885603214146958237 tw10891204455936176100 tw10892131702974798016 tw10980595229921493592 tw11038987176159173171 tw1107683064563236946 tw11107497867359589710 tw11112558030198917075 tw11123631081886238585 tw11190392653915723079 tw11223278494458313262 tw11225517469377848887 tw1124661218463748018 tw11250388429629241339 tw11323417059034732097 tw11330767133980498440 tw11334369651850055533 tw11380644975782293431 tw11381285742630780849 tw11395763989741434833 tw11398767531113828542 tw11448144511253893110 tw11449957597063847131 tw11455004321295219803 tw11466385317673683884 tw11476536712890120256 tw11500309408775137702 tw11567102544805684908 tw1164854786925655491 tw11649528213033073799 tw11651203460842228425 tw11680058384310695508 tw11691085358809455832 tw11742872504361748388 tw11769771046009541957 tw11778142090062478243 tw11801123642550259134 tw1180398026557437800 tw118491501469206359 tw11900298097452893283 tw1192740218483047146 tw1194010105670487742 tw11953885351999171923 tw11955559133577776654 tw11996597335688415148 tw12007970291945292011 tw12052200404286573096 tw12099382076820150014 tw12110922535651923848 tw1215466960871912467 tw12162880620613350855 tw12184244298815739508 tw12264839298920056518 tw12293541130407847966 tw12328201035281976326 tw12337331586997066893 tw12343247012469518268 tw12374175403656503457 tw12399853749888362470 tw12440478161390576707 tw12554862422148553109 tw1256598089081547188 tw12568633250080456191 tw12573813914143397145 tw12613112422671612629 tw12685432868036522405 tw12706746445355315707 tw12717714903599948120 tw12743934454679144859 tw12762371583041583324 tw12783012571895370231 tw12795923607058725839 tw12815116758942195766 tw1283263361854380388 tw12846193471042606529 tw12860620785325911126 tw12878071416506911581 tw12914958594457195342 tw12938801758195339352 tw13032168554804876732 tw13089216842363924752 tw13137963972489662567 tw13168856884335370616 tw13191376030652938375 tw13200116884012043359 tw1320191731501757974 tw13216374319301470936 tw13236313114235420782 tw13288460835663867271 tw13291924072296106680 tw13294875497429786208 tw13391156144646266953 tw13404975442886607827 tw13424579954289262785 tw13428741997300031547 tw13467405499703903250 tw13471905828176094404 tw13480942701346774734 tw13586478173014715813 tw13599065965332685176 tw13625900441725952232 tw13765164411085869345 tw1381937103077701999 tw13845882519301204386 tw13905942770318953402 tw14004017146601325589 tw1400633950476408998 tw1402360091345495571 tw1404453720710977351 tw14059945449861111337 tw14065825026470169428 tw14094643911217670627 tw1414545430168896598 tw14166645124756255518 tw14263589114456446668 tw14419419879599349505 tw14451886331000935377 tw14453438312311753698 tw14533093126206904608 tw14555175178066711650 tw14569021054877947383 tw14569624254289753457 tw1456993497990190912 tw14576752677400943564 tw14620033087797937031 tw14653665068836386092 tw14663328594651343268 tw14666218897435311562 tw14669284559765232320 tw14692285697822267738 tw14725144605859448842 tw14811258979817241015 tw14825178540887771053 tw14865661685282236125 tw14926632009005028382 tw14941570438028579303 tw14941933881823970444 tw14942101062479600553 tw14957832043187178350 tw14966629593339827047 tw14970827643031681426 tw14987627343374474352 tw15015145115319571408 tw15037418337547298943 tw15039603926938797243 tw1504136078636459466 tw15042630239962745897 tw15083568481144896242 tw151004306745262871 tw15128398169226812851 tw15194931058911225751 tw15195501102237143210 tw15294215024969868905 tw15295131049091458058 tw15351468853250490292 tw15382179573364053336 tw15385700195102996330 tw15392016848395285109 tw15392558861311410318 tw15417384338417138356 tw15485599335765780636 tw15518123901377673631 tw15552574688711863341 tw15567576835883176967 tw15606050909041845117 tw15689813033956619605 tw15729318637470476513 tw15771490854478763339 tw15913119263634400428 tw15917719025066426631 tw15927428317392683518 tw15927571198223747385 tw15956339522038119877 tw1596710444223271121 tw16034579559601289004 tw16043274309869315720 tw16049873802321032535 tw16093906009888791090 tw16105901132515572153 tw16164988100391517277 tw16166650757609245210 tw16177056479858371177 tw16185606969779849759 tw16271375038920135841 tw16274328154735526301 tw16302660421656829494 tw16303947768497488117 tw16424534628603722007 tw16475070973484863791 tw16528541627037025735 tw16543483954725067722 tw1656321886679570167 tw16569148946205608003 tw1660941741443836725 tw16617357812014991700 tw1664442538656023177 tw16650428954119974346 tw16686414658353717861 tw1676018334720558660 tw16765164288203556107 tw16771827421996021220 tw16793356409729957919 tw16812977072370670846 tw16815964429333735492 tw16856258869483733680 tw16907433450585919951 tw16921272434758751304 tw16924638280590935072 tw16939498255786224378 tw16960716777984585368 tw17017143557381830321 tw17080661088217988621 tw17153568015644292199 tw17188824385388565842 tw17284374864119635749 tw17288187138780027836 tw17294760533255865263 tw17305146045480362664 tw17406610567595691128 tw17428726732845657602 tw17452100164569342197 tw17529081166491164717 tw17543706029789227877 tw17558587438317115974 tw17562422020614481593 tw17583940321496093156 tw17607558934931812466 tw17610228336118217881 tw17623094676577556080 tw17650689044467899628 tw17662729797573297847 tw1768570487017544749 tw1769065506403396723 tw17693650359881328494 tw1773308829288505504 tw17764866805439836692 tw1785122366100538318 tw17934224898623012388 tw17984260181608785164 tw17992828980081114775 tw18006493747924985572 tw18054361934738288770 tw18061581555077321795 tw18091264483339669314 tw18093481026865019798 tw18119085552938535374 tw18123932199939746600 tw18131286931371718285 tw18168343538296158342 tw18173198877346502630 tw18179728456872782485 tw182513551350771631 tw18252596674365580917 tw18291744999245118816 tw18310953326796932854 tw18324058208312741171 tw18339341934629191617 tw18340153394816304552 tw18375070810247905394 tw18392198444475207488 tw18419400042377450352 tw18432044306989111798 tw18440005767069521712 tw18440017470894185683 tw1910395357263266121 tw1943954357282726603 tw1951746722616620345 tw1992879703292826977 tw2052583480538566429 tw2082439924379619597 tw2124076625391475302 tw214175597705905030 tw2169072478908607857 tw2183434174975040872 tw2187967252687214991 tw2198081574351883821 tw2206777570476550990 tw2239693537905286775 tw2275963225269216945 tw2300008553131755914 tw2302716281471308461 tw2391820555580450503 tw2397758995396160473 tw2440507892006713925 tw2458795753284702180 tw2465857407455760228 tw2494467101507788359 tw2505219783741048685 tw2509391218841629801 tw2548119579437712537 tw2562938800470397522 tw2584772155751343725 tw261272293743489358 tw2666502345753839827 tw2687784220341366535 tw2785598681228148033 tw2812540744532809678 tw2827740120195115531 tw2887527180333129745 tw2889903678244613779 tw2971179045865757570 tw2978782821833432839 tw3017849650705290057 tw3027584868670484794 tw3065311538460709568 tw3072013355950088316 tw3087433428907968252 tw3102966319715975516 tw3135350565181340183 tw3140451532273295685 tw3163744844070439835 tw3177414763510051001 tw3249029882375881501 tw3267664651217155830 tw3269191780214153213 tw3269738728516420954 tw3341685683749566270 tw3370321718096465504 tw3399910174184115917 tw3420704108539407682 tw3491208554520253574 tw3493832288702523331 tw3493854550787426780 tw3511415692737952645 tw3552990478825594822 tw3581459012716254476 tw3584122596916596825 tw364564354956596853 tw3673334663082268871 tw3690428729866238487 tw3698848947453962168 tw3745548073022385353 tw3770408319707829018 tw3781383902626964021 tw3796038028361386034 tw3808611878431266707 tw3834477163826888080 tw3861983607489455333 tw392506580104477496 tw3973810578341421383 tw3979880355333885363 tw3980444906663846739 tw3998138611847686111 tw399999249041957447 tw4031160389784387129 tw4038230557909617008 tw4042921618367553261 tw4058017678456257132 tw4079158302735751903 tw4109386557259537774 tw4121126978306215050 tw4131148068047138224 tw4159755981460683465 tw4203908693415091514 tw4216491532311414524 tw4223927063766053035 tw4245180073392647093 tw425243798627147083 tw4275493515888224873 tw4322470924468582160 tw4361746126885031983 tw4364554438785059164 tw441854155917885189 tw4427856135643369711 tw445793410724608427 tw4494841390058166984 tw4500875893432401537 tw4509606543209838990 tw4520245804439736937 tw45396386426991853 tw4589972184841298913 tw4590521930167121186 tw4617187345551457914 tw4640193622517776111 tw4669958767349776754 tw4669965108636947945 tw4682536550444821197 tw4701895538597103218 tw4763502873473189104 tw4772258559816840056 tw479229385474632064 tw4902382032347477692 tw4934933788517278855 tw4962442859462368065 tw498474893921575938 tw5005029773399915595 tw5005916720895528129 tw5024484750049047590 tw5125975350808680576 tw5177080322949064166 tw5193067838682068932 tw5220970828470298120 tw5232124302973537144 tw5256929330052222860 tw5265052128907898909 tw5281246899476105916 tw5319701821313987558 tw5382622271902224244 tw5390285399197601621 tw5403666735466600960 tw5418013714034877500 tw5419973172088635907 tw5466460762282286468 tw5479447816601683858 tw5506668102749789633 tw5542574824083564095 tw5590662052497926323 tw5625299693096784761 tw5654547688898423553 tw5669888509651914076 tw5692190325781504868 tw5737032361092156849 tw5789271649930380493 tw5799828315453041132 tw5827894362055907478 tw584887827688920257 tw5859128932396045274 tw5870939287135164077 tw5898533749706910423 tw5911608936088425292 tw5918497773386584668 tw594312075423495195 tw6046818216536599850 tw6056118819229384069 tw6067701709637439339 tw6125895739679951814 tw6142666250280100542 tw6160509031556482148 tw6247193971519289297 tw6261395505239032922 tw6338780270774227785 tw6341989588377829279 tw6400927346292538355 tw6415254274552032541 tw6474007994543969542 tw6492522794482171778 tw6515025837983675993 tw6522656359532105924 tw6529306900733051416 tw6536193994881451185 tw6556888477721125922 tw6556980190140461822 tw6558326994411920188 tw671500417343250117 tw6718693517815180845 tw6780134230981016030 tw6818479324516899853 tw6870771358451493118 tw6885845277992395579 tw6921974088324663327 tw6987418205616486667 tw6993305198454630966 tw6996164852537130753 tw7004684112241797593 tw7008680598357541321 tw7150748627044679896 tw7171249578471307127 tw7215227383298742026 tw7236323399331043146 tw7272145242796085109 tw7284058388874939628 tw7286729520109627467 tw7289217396079208592 tw7296880418021450140 tw7327817454378127400 tw7330968403791686393 tw7354406569805437936 tw7360081583110288690 tw7362751600624691732 tw7386241655296507228 tw7395588102576335802 tw7429786990508983320 tw7505373220131137418 tw7524834657136764425 tw7541105563732952840 tw7589868240456275169 tw7597864798270188441 tw7652462921647410158 tw7674784053221239642 tw7677792525034101627 tw7741998867955938512 tw7758818322014982024 tw7766139209124502420 tw7886950156027668779 tw7887464177556662469 tw7917075226844453230 tw7958590206356757305 tw7990032154536145036 tw8036774136960486293 tw8039933305119422452 tw8063666983255340224 tw8066412478738243162 tw807023820712682839 tw8117067113434281914 tw8118239647626053687 tw8209808187602705186 tw8210526817085634892 tw8259842073784430640 tw8356716902849049682 tw8492503815226083590 tw8496904614942786845 tw8508489944487638722 tw851910131782616290 tw8534404665302095220 tw8535475915221674943 tw8623063301303122882 tw8629497502565026207 tw8670369369041201017 tw8752164254625446011 tw8767991389711343411 tw8852203828565763228 tw8886097795089034465 tw891611855662841285 tw8928000433648679630 tw8948840671410867306 tw8953415227339055878 tw8998078197578991999 tw9024455348741997613 tw9061004838528704788 tw9132650049256978960 tw9157197165116565599 tw917814389843001825 tw9197175238327280428 tw9223224596553701282 tw9233815554755581308 tw9235927278008840595 tw9239061454524930210 tw9244106968866587916 tw9272431421960231507 tw9290789640924980879 tw9319072121332924189 tw9324529505192645932 tw9327083900320991879 tw9357978388842861671 tw9363392497981510816 tw9383438906920373166 tw9385873936511984163 tw9436253338824046489 tw9462721944928844178 tw94661305710617577 tw9518677769151583377 tw9563051896278257746 tw9730112984717450686 tw9732785513327983736 tw9748070095238928750 tw9773639593124762474 tw9808072320842667535 tw9837649283007413431 tw987888722630361535:True)
open PySem PySem.W PyProof.Rows
set_option tactic.hygienic true in
set_option maxRecDepth 100000 in
set_option maxHeartbeats 0 in
theorem PySem.Challenge.cw_wireparley_k37_parleys_in_any_order_holds : PySem.Challenge.rw_wireparley_k37_parleys_in_any_order.Holds := by
 w_on;o_law;k_head;(case hw=>w_witness2)
 k_fill
 refine K37.walk (l:=PySem.Challenge.rw_wireparley_k37_parleys_in_any_order) 100 ⟨rfl,by decide,by decide⟩ rfl rfl (λw h Y=>PySem.W.kIn_of Y) K37.law_true ?F
 case F=>
  intro w mg fa h KX G hmg;refine' K37.fin_mk KX G hmg ?H ?i9 ?iA ?iD ?gH ?iO ?gS ?iN ?iM ?iP ?gR ?gI ?iQ ?gZ ?g9 ?gG ?g8 ?gM ?kt_SIDES ?gL ?xm ?j1 ?iK ?iC ?j5 ?jC ?gK ?g7 ?g6 ?jL ?iW ?iV ?jB ?hJ ?i6 ?gJ ?iX
  (case H=>intro x;cases x<;>first|(refine' K37.at_mk rfl ?a ?l ?c ?k;(case a=>k_is);(case l=>k_is);(case c=>k_is);(case k=>k_is))|(refine' K37.XX rfl ?h ?a ?l ?c ?k ?t;(case h=>k_is);(case a=>k_is);(case l=>k_is);(case c=>k_is);(case k=>k_is);(case t=>k_is)))
  (case j1=>k_is)
  (case iK=>k_is)
  (case iC=>k_is)
  (case j5=>k_is)
  (case jC=>k_is)
  (case gK=>k_is)
  (case g7=>k_is)
  (case g6=>k_is)
  (case jL=>kernel_rfl)
  (case iW=>kernel_rfl)
  (case iV=>kernel_rfl)
  (case jB=>kernel_rfl)
  (case hJ=>kernel_rfl)
  (case i6=>kernel_rfl)
  (case gJ=>kernel_rfl)
  (case iX=>kernel_rfl)
  (case i9=>k_is)
  (case iA=>k_is)
  (case iD=>k_is)
  (case gH=>k_is)
  (case iO=>k_is)
  (case gS=>k_is)
  (case iN=>k_is)
  (case iM=>k_is)
  (case iP=>k_is)
  (case gR=>k_is)
  (case gI=>k_is)
  (case iQ=>k_is)
  (case gZ=>k_is)
  (case g9=>k_is)
  (case gG=>k_is)
  (case g8=>k_is)
  (case gM=>k_is)
  (case kt_SIDES=>kernel_rfl)
  (case gL=>k_is)
  (case xm=>refine' K37.xm_all KX G ?x_p ?x_a1 ?x_a2 ?x_a3 ?x_a4 ?x_q ?x_nd ?x_fi ?x_l ?x_ii ?x_hf ?x_hs ?x_cc ?x_k ?x_n4 ?x_n1;(case x_p=>k_is);(case x_a1=>k_is);(case x_a2=>k_is);(case x_a3=>k_is);(case x_a4=>k_is);(case x_q=>kernel_rfl);(case x_nd=>decide);(case x_fi=>k_is);(case x_l=>k_is);(case x_ii=>kernel_rfl);(case x_hf=>k_is);(case x_hs=>k_is);(case x_cc=>k_is);(case x_k=>k_is);(case x_n4=>kernel_rfl);(case x_n1=>kernel_rfl))
