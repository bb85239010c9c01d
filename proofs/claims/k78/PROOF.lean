import PyProof.Rows.All
import Wide.All
import OpenK.AllK
import PySem.Challenge.RW_wireparley_k78_lasting_as_a_side
set_option linter.all false
set_option hygiene false
set_option tactic.hygienic false
set_option compiler.extract_closed false
set_option bootstrap.genMatcherCode false
set_option genSizeOf false
noncomputable section
abbrev ie:=PySem.Value
abbrev ig:=PySem.Addr
abbrev ij:=PySem.Shared
abbrev im:=PySem.Program
abbrev ir:=PySem.World
abbrev iu:=PySem.FuncData
def iy:=@PySem.plainObj_wpAny_Assign_Attribute
def iz:=@PySem.Calls.Name_function_global
def ja:=@Int.fdiv_eq_ediv_of_nonneg
def jb:=@PySem.wpAny_newFunctionEnv_cells
def jc:=@PySem.wpAny_check_type_call_sub
def jd:=@PySem.codeAny_call_builtin_code
def je:=@PySem.codeAny_handlers_suite_as
def jf:=@Option.isSome_iff_exists
def jg:=@PySem.F.slot_list_append
def jh:=@PySem.F.type_list_append
def ji:=@PySem.F.slot_list_extend
def jk:=@PySem.F.type_list_extend
def jm:=@Nat.exists_eq_add_of_le'
def jn:=@List.getElem?_cons_succ
def jo:=@Nat.div_div_eq_div_mul
def jp:=@List.drop_eq_nil_of_le
def jq:=@List.drop_of_length_le
def jr:=@PySem.Obj.isFreed_of_fields
def jt:=@PySem.codeAny_handlers_test
def ju:=@PySem.codeAny_call_builtin
def jv:=@beq_eq_false_iff_ne
def jw:=@PySem.mem_of_lookup
def jx:=@PySem.wpAny_isSubtype_exc
def jy:=@PySem.wpAny_handleBy_cons
def jz:=@PySem.wpAny_Call_Name_kw
def kc:=@PySem.Code.quiet_builtin
def ke:=@PySem.wpAny_truthy_bool
def kf:=@PySem.Within.cons
def kg:=@PySem.wpAny_loadPart_at
def kh:=@not_false_eq_true
def ki:=@PySem.wpAny_execs_cons
def kj:=@PySem.wpAny_lookBehind
def kl:=@PySem.pastItsLine_dict
def km:=@PySem.wpAny_execs_nil
def kn:=@PySem.wpAny_passesOwn
def ko:=@PySem.PassesOwn.never
def kr:=@PySem.wpAny_loadPart
def kt:=@PySem.Heap.size_push
def ku:=@PySem.wpAny_setField
def kx:=@PySem.wpAny_standAt
def ky:=@Bool.false_or
def kz:=@Nat.add_assoc
def la:=@Nat.le_of_lt
def lc:=@Nat.le_of_eq
def ld:=@PySem.codeAny_mono
def lf:=@Nat.zero_add
def lg:=@PySem.W.looks_findIn
def lh:=@Nat.pow_succ
def ll:=@List.map_map
def lm:=@Nat.lt_or_ge
def ln:=@Int.zero_add
def lp:=@PySem.sizeLine_eq
def lu:=@PySem.W.looks_clsIn
def lv:=@beq_iff_eq
def lw:=@PySem.wpAny_call
def ly:=@PySem.typeIs_int
def lz:=@PySem.call_meets
def lD:=@congrArg
def lF:=@if_false
def lG:=@or_false
def lH:=@if_true
def lI:=@Iff.rfl
def lJ:=@if_pos
def lK:=@if_neg
def lL:=@not_or
local macro_rules|`(tactic|clear 5 $t $[$a:ident]*)=>`(tactic|obtain⟨$[$a:ident],*⟩:=$t)
abbrev ib:=PySem.W.Frag
def ua0:=@List.findIdx?_eq_some_iff_getElem
def ua1:=@Array.getElem?_setIfInBounds_ne
def ua2:=@List.eq_nil_of_length_eq_zero
def ua3:=@PyProof.Rows.callWith_type1
def ua4:=@PySem.F.slot_int_bit_length
def ua5:=@List.getElem?_append_right
def ua6:=@PySem.F.excBase_ValueError
def ua7:=@Array.getElem?_eq_some_iff
def ua8:=@List.getD_eq_getElem?_getD
def ua9:=@List.getElem?_eq_some_iff
def ub0:=@List.getElem?_append_left
def ub1:=@List.drop_eq_getElem_cons
def ub2:=@List.getElem?_eq_none_iff
def ub3:=@List.getElem?_eq_getElem
def ub4:=@Array.size_setIfInBounds
def ub5:=@List.getElem?_replicate
def ub6:=@PySem.F.plainAttrs_list
def ub7:=@Int.eq_ofNat_of_zero_le
def ub8:=@List.getElem?_set_self
def ub9:=@PySem.Heap.get?_push_of_some
def uc0:=@PySem.W.cellsFrom_some
def uc1:=@PySem.Heap.get?_update_other
def uc2:=@Option.map_eq_some_iff
def uc3:=@List.take_of_length_le
def uc4:=@Nat.le_of_succ_le_succ
def uc5:=@List.mem_append_right
def uc6:=@PySem.W.methodCall_KW
def uc7:=@List.length_replicate
def uc8:=@PySem.Heap.get?_update_self
def uc9:=@List.length_singleton
def ud0:=@Nat.le_of_ble_eq_true
def ud1:=@List.mem_cons_of_mem
def ud2:=@List.getElem?_set_ne
def ud3:=@List.mem_of_getElem?
def ud4:=@List.forall_mem_cons
def ud5:=@List.filterMap_cons
def ud6:=@PySem.Heap.get?_push_size
def ud7:=@PySem.W.plainGet_of
def ud8:=@List.replicate_succ
def ud9:=@List.map_congr_left
def ue0:=@Nat.lt_of_lt_of_le
def ue1:=@List.mem_cons_self
def ue2:=@Bool.false_ne_true
def ue3:=@Array.find?_toList
def ue4:=@PySem.W.callWith_K
def ue5:=@List.length_append
def ue6:=@Bool.false_eq_true
def ue7:=@List.mem_singleton
def ue8:=@List.getElem?_take
def ue9:=@Int.emod_lt_of_pos
def uf0:=@PySem.W.mg_none_of
def uf1:=@List.size_toArray
def uf2:=@List.getElem?_map
def uf3:=@Int.toNat_natCast
def uf4:=@List.flatten_cons
def uf5:=@List.append_assoc
def uf6:=@Bool.eq_false_iff
def uf7:=@List.getElem?_set
def uf8:=@Option.some.injEq
def uf9:=@decide_eq_true_eq
def ug0:=@of_decide_eq_true
def ug1:=@List.getElem_inj
def ug2:=@List.length_cons
def ug3:=@Nat.lt_succ_self
def ug4:=@List.length_take
def ug5:=@List.length_drop
def ug6:=@List.lookup_cons
def ug7:=@List.drop_length
def ug8:=@Bool.and_eq_true
def ug9:=@Nat.le_add_right
def uh0:=@List.all_eq_true
def uh1:=@List.not_mem_nil
def uh2:=@Option.bind_some
def uh3:=@List.getElem_mem
def uh4:=@beq_self_eq_true
def uh5:=@List.mem_append
def uh6:=@Option.some.inj
def uh7:=@List.length_map
def uh8:=@PySem.W.kia_one
def uh9:=@List.append_nil
def ui0:=@List.nodup_cons
def ui1:=@List.of_mem_zip
def ui2:=@List.length_set
def ui3:=@List.foldl_cons
def ui4:=@List.find?_cons
def ui5:=@List.length_nil
def ui6:=@Option.map_some
def ui7:=@List.map_append
def ui8:=@Int.emod_nonneg
def ui9:=@decide_eq_false
def uj0:=@List.mem_range
def uj1:=@Bool.false_and
def uj2:=@Bool.and_false
def uj3:=@List.drop_zero
def uj4:=@List.nodup_nil
def uj5:=@decide_eq_true
def uj6:=@Nat.lt_irrefl
def uj7:=@List.mem_cons
def uj8:=@List.map_cons
def uj9:=@Bool.or_false
def uk0:=@List.any_cons
def uk1:=@List.all_cons
def uk2:=@Bool.true_and
def uk3:=@Bool.and_true
def uk4:=@Bool.and_self
def uk5:=@PySem.W.mg_of
def uk6:=@PySem.wpAny_holding
def uk7:=@PySem.Heap.lt_size
def uk8:=@Nat.ne_of_lt
def uk9:=@Nat.le_trans
def ul0:=@Nat.ne_of_gt
def ul1:=@List.map_nil
def ul2:=@List.mem_map
def ul3:=@Nat.sub_self
def ul4:=@Nat.le_refl
def ul5:=@Nat.zero_le
def ul6:=@Nat.le_succ
def ul7:=@PySem.wpAny_field
def ul8:=@PySem.wpAny_bind
def ul9:=@PySem.wpAny_pure
def um0:=@PySem.wpAny_mono
set_option Elab.async false
set_option maxRecDepth 100000
set_option maxHeartbeats 4000000
theorem oZ1{α:Sort u}{a:α}{b:Prop}:a=a\/b:=Or.inl rfl
theorem oZ2{α:Sort u}{a:α}{b:Prop}:b\/a=a:=Or.inr rfl
theorem oZ3{α:Sort u}{a:α}{b c:Prop}:b\/a=a\/c:=Or.inr (Or.inl rfl)
theorem oZ4{α:Sort u}{a:α}{b c:Prop}:b\/c\/a=a:=Or.inr (Or.inr rfl)
local macro_rules | `(tactic| walk_at"h") => `(tactic| first|exact oZ1|exact oZ2|exact oZ3|exact oZ4|assumption)
local macro_rules|`(∅)=>`(by lia)
namespace L2
open PySem PySem.Spec PyProof.Rows
abbrev Key:=Sum Int Str
noncomputable def Ji:Key->ie->Bool
 |.inl k,v=>Value.isInt k v
 |.inr x,v=>Value.isStrOf x v
noncomputable def d8(w:ir):Key->Int
 |.inl k=>hashInt k
 |.inr x=>hashStr w x
theorem Co:∀{k:Key}{v:ie},Ji k v=true->(∃i t,k=Sum.inl i/\v=Value.int i t)\/(∃x t,k=Sum.inr x/\v=Value.str x t)
 |.inl i,v,h=>by
   clear 5(Value.isInt_shape (k:=i) (v:=v) h)t e;exact .inl ⟨i,t,rfl,e⟩
 |.inr x,v,h=>by
   clear 5(Value.isStrOf_shape (x:=x) (v:=v) h)t e;exact .inr ⟨x,t,rfl,e⟩
theorem RW(i:Int)(t:Tok):Ji (.inl i) (.int i t)=true:=by simp[Ji,Value.isInt]
theorem RY(x:Str)(t:Tok):Ji (.inr x) (.str x t)=true:=by simp[Ji,Value.isStrOf]
theorem Zh(a b:Int):decide ((Sum.inl a:Key)=Sum.inl b)=(a==b):=by
 by_cases e:a=b
 .subst e;simp
 .have h:¬(Sum.inl a:Key)=Sum.inl b:=λq=>e (Sum.inl.inj q);rw[ui9 h];exact(jv.mpr e).symm
theorem Zk(a b:Str):decide ((Sum.inr a:Key)=Sum.inr b)=decide (a=b):=by
 by_cases e:a=b
 .subst e;simp
 .have h:¬(Sum.inr a:Key)=Sum.inr b:=λq=>e (Sum.inr.inj q);rw[ui9 h,ui9 e]
theorem Zi(a:Int)(b:Str):decide ((Sum.inl a:Key)=Sum.inr b)=false:=ui9 (λq=>nomatch q)
theorem Zj(a:Str)(b:Int):decide ((Sum.inr a:Key)=Sum.inl b)=false:=ui9 (λq=>nomatch q)
def Ch(prog:im)(w:ir):PySem.KeyKind prog w Key where
 is:=Ji
 hash:=d8 w
 inj:=λv a b ha hb=>by
  rcases Co ha with⟨i,t,rfl,rfl⟩|⟨x,t,rfl,rfl⟩
  .rcases Co hb with⟨j,u,rfl,e⟩|⟨y,u,rfl,e⟩
   .injection e with e1 _;rw[e1]
   .exact nomatch e
  .rcases Co hb with⟨j,u,rfl,e⟩|⟨y,u,rfl,e⟩
   .exact nomatch e
   .injection e with e1 _;rw[e1]
 byValue:=λk v h=>by
  rcases Co h with⟨i,t,rfl,rfl⟩|⟨x,t,rfl,rfl⟩<;>rfl
 pyHash:=λhv h=>by
  rcases Co hv with⟨i,t,rfl,rfl⟩|⟨x,t,rfl,rfl⟩
  .exact wpAny_pyHash_int h
  .exact wpAny_pyHash_str h
 eqBool:=λhu hv h=>by
  rcases Co hu with⟨i,t,rfl,rfl⟩|⟨x,t,rfl,rfl⟩
  .rcases Co hv with⟨j,u,rfl,rfl⟩|⟨y,u,rfl,rfl⟩
   .rw[Zh] at h;exact wpAny_eqBool_int h
   .rw[Zi] at h;exact SeqAt.EqAt.int_str i t y u _ _ _ _ h
  .rcases Co hv with⟨j,u,rfl,rfl⟩|⟨y,u,rfl,rfl⟩
   .rw[Zj] at h;exact SeqAt.EqAt.str_int x t j u _ _ _ _ h
   .rw[Zk] at h;exact wpAny_eqBool_str h
 «strs»:=λk x t v h=>by
  rcases Co h with⟨i,u,rfl,e⟩|⟨y,u,rfl,e⟩
  .exact nomatch e
  .injection e with e1 _
   subst e1
   cases v<;>rfl
theorem Ot(prog:im)(w:ir)(i:Int)(t:Tok):(Ch prog w).is (.inl i) (.int i t)=true:=RW i t
theorem Ou(prog:im)(w:ir)(x:Str)(t:Tok):(Ch prog w).is (.inr x) (.str x t)=true:=RY x t
inductive V where
 |non|bl (b:Bool)|int (i:Int)|str (x:Str)|byt (b:Array UInt8)|flt (b:UInt64)|ref (a:ig)|ty (n:String)
 deriving DecidableEq
noncomputable def RelV:V->ie->Prop
 |.non,u=>u=Value.none
 |.bl b,u=>u=Value.bool b
 |.int i,u=>∃t,u=Value.int i t
 |.str x,u=>∃t,u=Value.str x t
 |.byt b,u=>∃t,u=Value.bytes b t
 |.flt b,u=>∃t,u=Value.float b t
 |.ref a,u=>u=Value.ref a
 |.ty n,u=>u=Value.type n
abbrev Vals:List V->List ie->Prop:=Paired RelV
theorem Vals.length{xs:List V}{us:List ie}(r:Vals xs us):xs.length=us.length:=Paired.length r
theorem Vals.get:∀{xs:List V}{us:List ie}{i:Nat}{x:V},Vals xs us->xs[i]?=some x->∃u,us[i]?=some u/\RelV x u
 |_,_,_,_,.nil,e=>by simp at e
 |_,_,0,_,.cons r _,e=>by simp at e;subst e;exact⟨_,rfl,r⟩
 |_,_,i+1,x,.cons _ t,e=>by
   clear 5(Vals.get (i:=i) (x:=x) t (by simpa using e))u h1 h2;exact⟨u,by simpa using h1,h2⟩
theorem Vals.set{x:V}{u:ie}(r:RelV x u):∀{xs:List V}{us:List ie} (i:Nat),Vals xs us->Vals (xs.set i x) (us.set i u)
 |_,_,_,.nil=>.nil
 |_,_,0,.cons _ t=>.cons r t
 |_,_,i+1,.cons q t=>.cons q (Vals.set r i t)
theorem Vals.append{xs ys:List V}{us ws:List ie}(r:Vals xs us)(s:Vals ys ws):Vals (xs++ys) (us++ws):=by
 cases r with
 |nil=>exact s
 |cons r t=>exact .cons r (Vals.append t s)
theorem Vals.take:∀{xs:List V}{us:List ie} (n:Nat),Vals xs us->Vals (xs.take n) (us.take n)
 |_,_,0,_=>.nil
 |_,_,_+1,.nil=>.nil
 |_,_,n+1,.cons r t=>.cons r (Vals.take n t)
theorem Vals.drop:∀{xs:List V}{us:List ie} (n:Nat),Vals xs us->Vals (xs.drop n) (us.drop n)
 |_,_,0,r=>r
 |_,_,_+1,.nil=>.nil
 |_,_,n+1,.cons _ t=>Vals.drop n t
def RelO:Option V->Option ie->Prop
 |some v,some u=>RelV v u
 |none,none=>True
 |_,_=>False
def KV{κ:Type}:List (κ×V)->List (κ×ie)->Prop:=Paired λ(p:κ×V) (q:κ×ie)=>p.1=q.1/\RelV p.2 q.2
noncomputable def kV:Key->V
 |.inl i=>.int i
 |.inr x=>.str x
inductive HO where
 /-- a list -/
 |lst (xs:List V)
 /-- a tuple (never changes) -/
 |tup (xs:List V)
 /-- a dict whose keys are ints and texts;one whose keys are tuples of ints and texts (the empty one is both) -/
 |dK (kvs:List (Key×V))|dT (kvs:List (List Key×V))
 /-- a set of ints: its members,its size -/
 |set (S:Int->Bool) (n:Nat)
 /-- an instance of the class at C,its dict at dx,its attributes -/
 |ins (C dx:ig) (fs:List (Str×V))
 /-- the dict of the instance at x -/
 |own (x:ig)
 /-- the dict of an exception -/
 |xd (fs:List (Str×V))
 /-- a bound method,f of x -/
 |met (f x:ig)
 /-- a range object lo,lo+1,.. below hi -/
 |rng (lo hi:Int)
 /-- a thing that is known to the object (the script;a dict while a loop walks it): read,never written while it is so -/
 |frz (o:Obj) (u:HO)
 /-- a code object's table -/
 |tbl (ps:Array ie)
 /-- any other thing,by what is true of its one object (a def of one's own: SetO a S n:=HO.ext λh=>..) -/
 |ext (φ:Heap->Prop)
abbrev Hp:=ig->Option HO
noncomputable def upd(H:Hp)(a:ig)(o:HO):Hp:=λb=>if b=a then some o else H b
section
variable{H:Hp}{a:ig}
theorem Ak{o:HO}:upd H a o a=some o:=by unfold upd;rw[lJ rfl]
variable{b:ig}
theorem Ah{o:HO}(h:b≠a):upd H a o b=H b:=by unfold upd;rw[lK h]
theorem LX{o u:HO}:upd (upd H a o) a u=upd H a u:=by
 funext b;unfold upd;split<;>rfl
theorem AQ{o:HO}(h:H a=some o)(h':H b=none):a≠b:=by
 intro e;subst e;rw[h] at h';cases h'
section
variable(P:im)(w:ir)
def ObjOk(H:Hp)(h:Heap)(a:ig):HO->Prop
 |.lst xs=>xs.length<=sizeLine/\∃(its:List ie) (n:Nat),Vals xs its/\h.get? a=some {cls:=.type "list",data:=.seq its.toArray n}
 |.tup xs=>xs.length<=sizeLine/\∃its:List ie,Vals xs its/\IsTup h a its.toArray
 |.dK kvs=>kvs.length<=sizeLine/\(a==sysModules)=false/\∃vs,KV kvs vs/\h.DictOf (Ch P w) a vs
 | .dT kvs=>kvs.length<=sizeLine/\(a == sysModules)=false/\∃xs:List (List Key×ig×ie),
    Paired (λ(p:List Key×V) (q:List Key×ig×ie)=>p.1=q.1/\H q.2.1=some (.tup (p.1.map kV))/\RelV p.2 q.2.2) kvs xs/\
    ∃o es ep,h.get? a=some o/\o.ExactDict/\o.data=.dict es ep/\es.toList=xs.map (entryOfKey (tupleKind (Ch P w)))/\(xs.map (·.1)).Nodup
 |.set S n=>h.SetOf (intKind P w) a S n
 | .ins C dx fs=>H dx=some (.own a)/\fs.length<=1000/\dx≠a/\h.get? a=some (PySem.W.instObj C dx)/\
    ∃mA,h.Ns1 dx mA/\(∀f,RelO (fs.lookup f) (mA f))/\PySem.Within mA (fs.map (·.1))
 |.own _=>∃o,h.get? a=some o
 |.xd fs=>∃mA,h.Ns1 a mA/\∀f,RelO (fs.lookup f) (mA f)
 |.rng lo hi=>∃t u v,h.get? a=some {cls:=.type "range",data:=.fields #[.int lo t,.int hi u,.int 1 v]}
 |.frz o u=>h.get? a=some o/\ObjOk H h a u
 |.tbl ps=>h.get? a=some {cls:=.none,data:=.fields ps}
 |.met f x=>h.get? a=some (PySem.W.methodObj (.ref f) (.ref x))
 |.ext φ=>φ h/\(∃o,h.get? a=some o)/\∀h1 h2:Heap,φ h1->(∀o,h1.get? a=some o->h2.get? a=some o)->φ h2
def HOk(H:Hp)(h:Heap):Prop:=∀a o,H a=some o->ObjOk P w H h a o
end
section
variable{P:im}{w:ir}{H H':Hp}{h h':Heap}{a:ig}{o:HO}
theorem ObjOk.lt(x:ObjOk P w H h a o):a<h.objs.size:=by
 cases o with
 |lst xs=>obtain⟨_,_,_,_,e⟩:=x;exact uk7 e
 |tup xs=>obtain⟨_,_,_,p⟩:=x;exact p.lt
 |dK kvs=>obtain⟨_,_,_,_,o,_,_,e,_⟩:=x;exact uk7 e
 |dT kvs=>obtain⟨_,_,_,_,o,_,_,e,_⟩:=x;exact uk7 e
 |set S n=>obtain⟨o,_,_,_,e,_⟩:=x;exact uk7 e
 |ins C dx fs=>obtain⟨_,_,_,e,_⟩:=x;exact uk7 e
 |own y=>obtain⟨_,e⟩:=x;exact uk7 e
 |xd fs=>obtain⟨_,⟨_,_,_,e,_⟩,_⟩:=x;exact uk7 e
 |rng lo hi=>obtain⟨_,_,_,e⟩:=x;exact uk7 e
 |frz ob u=>obtain⟨e,_⟩:=x;exact uk7 e
 |tbl ps=>exact uk7 (show h.get? a=some _ from x)
 |met f y=>exact uk7 (show h.get? a=some _ from x)
 |ext φ=>obtain⟨_,⟨_,e⟩,_⟩:=x;exact uk7 e
theorem Paired.mapP{α β:Type}{F G:α->β->Prop}:∀{l₁:List α}{l₂:List β},Paired F l₁ l₂->(∀a b,F a b->G a b)->Paired G l₁ l₂
 |_,_,.nil,_=>.nil
 |_,_,.cons r t,f=>.cons (f _ _ r) (Paired.mapP t f)
theorem ObjOk.stay(x:ObjOk P w H h a o)(k:∀b u,(b=a\/H b=some (.own a))->h.get? b=some u->h'.get? b=some u)
 (ho:∀b,H b=some (.own a)->H' b=some (.own a)) (ht:∀b xs,H b=some (.tup xs)->H' b=some (.tup xs)):ObjOk P w H' h' a o:=by
 induction o with
 |lst xs=>clear 5 x z its n r e;exact⟨z,its,n,r,k _ _ (.inl rfl) e⟩
 |tup xs=>clear 5 x z its r ob e c;exact⟨z,its,r,ob,k _ _ (.inl rfl) e,c⟩
 |dK kvs=>clear 5 x z y vs r ob es ep e c;exact⟨z,y,vs,r,ob,es,ep,k _ _ (.inl rfl) e,c⟩
 |dT kvs=>
   clear 5 x z y xs r ob es ep e c;exact⟨z,y,xs,Paired.mapP r λp q z=>⟨z.1,ht _ _ z.2.1,z.2.2⟩,ob,es,ep,k _ _ (.inl rfl) e,c⟩
 |set S n=>clear 5 x ob es ep t e c;exact⟨ob,es,ep,t,k _ _ (.inl rfl) e,c⟩
 |ins C dx fs=>
   obtain⟨d,z,ne,e,mA,⟨od,es,ep,e2,c⟩,r⟩:=x;exact⟨ho _ d,z,ne,k _ _ (.inl rfl) e,mA,⟨od,es,ep,k _ _ (.inr d) e2,c⟩,r⟩
 |own y=>clear 5 x ob e;exact⟨ob,k _ _ (.inl rfl) e⟩
 |xd fs=>obtain⟨mA,⟨od,es,ep,e,c⟩,r⟩:=x;exact⟨mA,⟨od,es,ep,k _ _ (.inl rfl) e,c⟩,r⟩
 |rng lo hi=>clear 5 x t u v e;exact⟨t,u,v,k _ _ (.inl rfl) e⟩
 |frz ob u ih=>clear 5 x e q;exact⟨k _ _ (.inl rfl) e,ih q⟩
 |tbl ps=>
   have e:h.get? a=some {cls:=.none,data:=.fields ps}:=x;show h'.get? a=some {cls:=.none,data:=.fields ps};exact k a _ (.inl rfl) e
 |met f y=>
   have e:h.get? a=some (PySem.W.methodObj (.ref f) (.ref y)):=x;show h'.get? a=some (PySem.W.methodObj (.ref f) (.ref y));exact k a _ (.inl rfl) e
 |ext φ=>obtain⟨p,⟨o,e⟩,st⟩:=x;exact⟨st _ _ p λo q=>k _ _ (.inl rfl) q,⟨o,k _ _ (.inl rfl) e⟩,st⟩
theorem HOk.lt(x:HOk P w H h)(e:H a=some o):a<h.objs.size:=(x a o e).lt
theorem HOk.fresh(x:HOk P w H h)(e:h.objs.size<=a):H a=none:=by
 cases q:H a with
 |none=>rfl
 |some u=>exact absurd (ue0 (x.lt q) e) (uj6 _)
theorem HOk.kept(x:HOk P w H h)(k:∀b u,h.get? b=some u->h'.get? b=some u):HOk P w H h':=λa o e=>
 (x a o e).stay (λb u _ q=>k b u q) (λ_ q=>q) λ_ _ q=>q
theorem HOk.laid(x:HOk P w H h)(k:∀b u,h.get? b=some u->h'.get? b=some u)(hp:h.objs.size<=a)(new:ObjOk P w (upd H a o) h' a o):HOk P w (upd H a o) h':=λb u e=>by
 have hn:=x.fresh hp
 by_cases hb:b=a
 .subst hb;rw[Ak] at e;cases e;exact new
 .rw[Ah hb] at e;exact(x b u e).stay (λc v _ q=>k c v q) (λc q=>by rw[Ah (AQ q hn)];exact q) λc xs q=>by rw[Ah (AQ q hn)];exact q
end
noncomputable def Rd(H:Hp)(a:ig)(u:HO):Prop:=H a=some u\/∃o,H a=some (.frz o u)
variable{P:im}{w:ir}{h:Heap}
theorem Rd.ok{u:HO}(r:Rd H a u)(x:HOk P w H h):ObjOk P w H h a u:=by
 rcases r with r|⟨o,r⟩
 .exact x a u r
 .obtain⟨_,q⟩:=x a _ r;exact q
def Mut:Option HO->Prop
 |some (.lst _)=>True
 |some (.dK _)=>True
 |some (.dT _)=>True
 |some (.set _ _)=>True
 |some (.ins _ _ _)=>True
 |some (.ext _)=>True
 |_=>False
section
variable{P:im}{w:ir}{H:Hp}{h h':Heap}{x e:ig}{o':HO}
theorem HOk.write(ok:HOk P w H h)(mu:Mut (H x))(he:e=x\/H e=some (.own x))(k:∀b u,b≠e->h.get? b=some u->h'.get? b=some u)(heo:∃u,h'.get? e=some u)
 (new:ObjOk P w (upd H x o') h' x o'):HOk P w (upd H x o') h':=λb u q=>by
 have nown:∀c y,H c=some (.own y)->c≠x:=λc y r z=>by subst z;rw[r] at mu;exact mu
 have ntup:∀c xs,H c=some (.tup xs)->c≠x:=λc xs r z=>by subst z;rw[r] at mu;exact mu
 by_cases hb:b=x
 .subst hb;rw[Ak] at q;cases q;exact new
 .rw[Ah hb] at q
  by_cases hbe:b=e
  .have q':H b=some (.own x):=by
    rcases he with z|z
    .exact absurd (hbe.trans z) hb
    .rw[hbe];exact z
   rw[q] at q';cases q'
   clear 5 heo v hv;exact⟨v,by rw[hbe];exact hv⟩
  .refine(ok b u q).stay (λc v hc r=>k c v ?_ r) (λc r=>by rw[Ah (nown c b r)];exact r) λc xs r=>by rw[Ah (ntup c xs r)];exact r
   rcases hc with rfl|hc
   .exact hbe
   .rintro rfl;rcases he with z|z
    .exact nown c b hc z
    .rw[hc] at z;cases z;exact hb rfl
end
structure Un(fs ex:List ig)(H H':Hp)(h h':Heap):Prop where
 keep:∀b o,h.get? b=some o->H b=none->b∉fs->b∉ex->h'.get? b=some o
 slot:∀b o,h.get? b=some o->H b=none->b∈fs->b∉ex->∃sl,h'.get? b=some {o with slots:=sl}
 free:∀b o,h.get? b=some o->H b=none->b∉ex->H' b=none
 there:∀b o,h.get? b=some o->b∉ex->∃o',h'.get? b=some o'
 tups:∀b xs,H b=some (.tup xs)->H' b=some (.tup xs)
 frzs:∀b o u,H b=some (.frz o u)->H' b=some (.frz o u)
 tbls:∀b ps,H b=some (.tbl ps)->∃more,H' b=some (.tbl (ps++more))
section
variable{fs fs' ex ex':List ig}{H H1 H2:Hp}{h h1 h2 h':Heap}{a x e:ig}{o:HO}
theorem Un.any(u:Un fs ex H H1 h h1){b:ig}{ob:Obj}(q:h.get? b=some ob)(n:H b=none)(hx:b∉ex):∃sl,h1.get? b=some {ob with slots:=sl}:=by
 by_cases hb:b∈fs
 .exact u.slot b ob q n hb hx
 .exact⟨ob.slots,u.keep b ob q n hb hx⟩
theorem Un.kept(k:∀b u,h.get? b=some u->h'.get? b=some u):Un fs ex H H h h':=
 ⟨λb ob q _ _ _=>k b ob q,λb ob q _ _ _=>⟨ob.slots,k b ob q⟩,λ_ _ _ n _=>n,λb ob q _=>⟨ob,k b ob q⟩,λ_ _ q=>q,λ_ _ _ q=>q,λ_ ps q=>⟨#[],by rw[q];simp⟩⟩
theorem Un.refl:Un fs ex H H h h:=Un.kept λ_ _ q=>q
theorem Un.laid(k:∀b u,h.get? b=some u->h'.get? b=some u)(hp:h.objs.size<=a)(hn:H a=none):Un fs ex H (upd H a o) h h' where
 keep:=λb u q _ _ _=>k b u q
 slot:=λb u q _ _ _=>⟨u.slots,k b u q⟩
 free:=λb u q n _=>by rw[Ah (uk8 (ue0 (uk7 q) hp))];exact n
 there:=λb u q _=>⟨u,k b u q⟩
 tups:=λb xs q=>by rw[Ah (AQ q hn)];exact q
 frzs:=λb u xs q=>by rw[Ah (AQ q hn)];exact q
 tbls:=λb ps q=>⟨#[],by rw[Ah (AQ q hn),q];simp⟩
theorem Un.write(mu:Mut (H x))(he:e=x\/H e=some (.own x))(k:∀b u,b≠e->h.get? b=some u->h'.get? b=some u)(heo:∃u,h'.get? e=some u):Un fs ex H (upd H x o) h h':=by
 have hx:∀b,H b=none->b≠x:=λb n z=>by subst z;rw[n] at mu;exact mu
 have hb:∀b,H b=none->b≠e:=λb n z=>by
  subst z;rcases he with r|r
  .exact hx b n r
  .rw[n] at r;cases r
 have hm:∀b u,H b=some u->¬Mut (some u)->b≠x:=λb u q nm z=>by subst z;rw[q] at mu;exact nm mu
 refine⟨λb u q n _ _=>k b u (hb b n) q,λb u q n _ _=>⟨u.slots,k b u (hb b n) q⟩,λb u q n _=>by rw[Ah (hx b n)];exact n,λb u q _=>?_,
  λb xs q=>by rw[Ah (hm b _ q λz=>z)];exact q,λb u xs q=>by rw[Ah (hm b _ q λz=>z)];exact q,λb ps q=>⟨#[],by rw[Ah (hm b _ q λz=>z),q];simp⟩⟩
 by_cases hbe:b=e
 .subst hbe;exact heo
 .exact⟨u,k b u hbe q⟩
end
noncomputable def trk(h:Heap)(H:Hp):List ig:=(List.range h.objs.size).filter λa=>(H a).isSome
def Hz(h:Heap)(H:Hp):Heap:=PySem.W.hideAll h (trk h H)
theorem RK(h:Heap)(H:Hp):(Hz h H).objs.size=h.objs.size:=PySem.W.hideAll_size _ _
theorem Ug{o:Obj}(e:h.get? b=some o)(n:H b=none):(Hz h H).get? b=some o:=
 PySem.W.hideAll_get _ e λhm=>by
  have q:(H b).isSome=true:=(List.mem_filter.mp hm).2;rw[n] at q;simp at q
theorem WZ{o:Obj}(e:(Hz h H).get? b=some o):h.get? b=some o/\H b=none:=by
 have e':h.get? b=some o:=PySem.W.of_hideAll (trk h H) e;refine⟨e',?_⟩
 cases q:H b with
 |none=>rfl
 |some x=>
   have hm:b∈trk h H:=List.mem_filter.mpr ⟨uj0.mpr (uk7 e'),by simp[q]⟩;have z:(Hz h H).get? b=none:=PySem.W.hideAll_none (trk h H) hm;rw[z] at e;cases e
noncomputable def V3(g h:Heap)(L:ig):List (ig×Obj):=(List.range h.objs.size).filterMap λa=>if a=L\/(g.get? a).isSome=true then none else(h.get? a).map λo=>(a,o)
def rest(g h:Heap)(L d:ig):List (ig×Obj):=(V3 g h L).filter λp=>decide (p.1≠d)
structure Mod(K:ib)(mg:Str->Option ie)(base:Heap):Prop where
 kin:K.In base
 glob:base.Ns mainGlobals mg
 blt:∃mb,base.Ns builtinsNs mb/\∀x:Str,x≠"__name__"->mb x=bootBuiltins x
 nolimit:base.NoLimit
structure Cx where
 prog:im
 w:ir
 K:ib
 mg:Str->Option ie
 base:Heap
 A:Around
 N:List Str
 s₀:ij
 H₀:Hp
 env:Env
 outer:List Env
 stack:List Env
 ex:List ig
 fn:Str->Bool
 calm:Bool
 pn:List (ig×Obj)
 xe:ie->ij->Prop
noncomputable def frs(l:List Env):List ig:=l.filterMap (·.frame)
abbrev Cx.fs(X:Cx):List ig:=frs X.outer
def Vis(sc:Scope)(x:Str):Prop:=sc.names.lookup x=some .local\/sc.names.lookup x=some .cell\/sc.names.lookup x=some .free
def Loc(sc:Scope)(x:Str):Prop:=sc.names.lookup x=some .local\/sc.names.lookup x=some .cell
def dF(env:Env)(h:Heap)(m:Str->Option ie)(x:Str)(u:ie):Prop:=
 (env.kindOf x=some .local/\m x=some u)\/((env.kindOf x=some .cell\/env.kindOf x=some .free)/\∃c,env.cells.lookup x=some c/\h.IsCell c (some u))
structure Cx.Ok(X:Cx):Prop where
 mod:Mod X.K X.mg X.base
 kind:X.env.scope.kind=.function
 glob:X.env.globals=mainGlobals
 blt:X.env.builtins=builtinsNs
 above:X.s₀.heap.objs.size<=X.env.locals
 inj:∀x y c,X.env.cells.lookup x=some c->X.env.cells.lookup y=some c->x=y
 has:∀x,(X.env.kindOf x=some .cell\/X.env.kindOf x=some .free)->∃c,X.env.cells.lookup x=some c
 cab:∀x c,X.fn x=true->X.env.cells.lookup x=some c->X.s₀.heap.objs.size<=c
 hd:X.calm=true->X.A.handled=none
 frames:X.A.frames=some X.stack
 stk:X.stack=X.outer\/(X.stack=X.env::X.outer/\X.env.frame=some X.env.locals)
 exf:∀b∈X.ex,b≠X.env.locals/\∀x c,X.env.cells.lookup x=some c->c≠b
 bs:∀b o,X.base.get? b=some o->X.s₀.heap.get? b=some o/\X.H₀ b=none
 bsz:X.base.objs.size<=X.s₀.heap.objs.size
 noex:∀b o,X.base.get? b=some o->b∉X.ex
 exfs:∀b∈X.ex,b∉X.fs
 funs:X.s₀.heap.FunFrames X.base X.outer
 frf:∀b∈X.fs,X.H₀ b=none
structure Inv(X:Cx)(ic:List (ig×Obj))(σ:List (Option V))(H:Hp)(s:ij):Prop where
 ok:X.Ok
 os:s.os=X.s₀.os
 bare:AllBare s.gens
 base:Un X.fs X.ex X.H₀ H X.s₀.heap s.heap
 loc:∃m,s.heap.Ns X.env.locals m/\∀(i:Nat) (x:Str) (v:V),X.N[i]?=some x->σ[i]?=some (some v)->Vis X.env.scope x->∃u,RelV v u/\dF X.env s.heap m x u
 cell:∀x c,X.env.cells.lookup x=some c->∃v,s.heap.IsCell c v
 free:H X.env.locals=none
 freeC:∀x c,X.env.cells.lookup x=some c->H c=none
 pin:∀p∈X.pn++ic,s.heap.get? p.1=some p.2/\H p.1=none/\p.1≠X.env.locals/\p.1∉X.fs/\∀v,p.2.data≠.cell v
 hok:HOk X.prog X.w H s.heap
 len:σ.length=X.N.length
variable{t':Nat}{ch:List ig}{E:ie->ij->Prop}{v:V}{u:ie}{Q:Unit->ij->Prop}
section
variable{X:Cx}{ic:List (ig×Obj)}{σ:List (Option V)}{H H':Hp}{s:ij}{h':Heap}
theorem Cx.Ok.nofr(ok:X.Ok){b:ig}{o:Obj}(e:X.base.get? b=some o):b∉X.fs:=λhb=>by
 have:=(ok.funs.mem hb).1;rw[e] at this;cases this
theorem Inv.bs(I:Inv X ic σ H s):∀b o,X.base.get? b=some o->s.heap.get? b=some o/\H b=none:=λb o e=>
 ⟨I.base.keep b o (I.ok.bs b o e).1 (I.ok.bs b o e).2 (I.ok.nofr e) (I.ok.noex b o e),I.base.free b o (I.ok.bs b o e).1 (I.ok.bs b o e).2 (I.ok.noex b o e)⟩
theorem Inv.bk(I:Inv X ic σ H s):∀b o,X.base.get? b=some o->s.heap.get? b=some o:=λb o e=>(I.bs b o e).1
theorem Inv.mod(I:Inv X ic σ H s):Mod X.K X.mg X.base:=I.ok.mod
theorem Inv.kIn(I:Inv X ic σ H s):X.K.In s.heap:=I.ok.mod.kin.keeps I.bk
theorem Inv.lt(I:Inv X ic σ H s):X.env.locals<s.heap.objs.size:=let ⟨_,hn,_⟩:=I.loc;hn.lt
theorem Inv.sz(I:Inv X ic σ H s):X.s₀.heap.objs.size<=s.heap.objs.size:=uk9 I.ok.above (la I.lt)
theorem Inv.nofs(I:Inv X ic σ H s){a:ig}(h:s.heap.objs.size<=a):a∉X.fs:=λhb=>by
 obtain⟨_,o,ho,_⟩:=I.ok.funs.mem hb;exact absurd (ue0 (uk7 ho) (uk9 I.sz h)) (uj6 _)
theorem Inv.cne(I:Inv X ic σ H s):∀x c,X.env.cells.lookup x=some c->c≠X.env.locals:=λx c e z=>by
 clear 5(I.cell x c e)v o ho hd;obtain⟨m,⟨o',es,ep,ho',hd',_⟩,_⟩:=I.loc;rw[z,ho'] at ho;cases ho;rw[hd'] at hd;cases hd
theorem Inv.funs(I:Inv X ic σ H s):s.heap.FunFrames X.base X.outer:=by
 have all:∀(l:List Env),(∀b∈frs l,b∈X.fs)->X.s₀.heap.FunFrames X.base l->s.heap.FunFrames X.base l:=by
  intro l
  induction l with
  |nil=>intro _ _;trivial
  |cons env r ih=>
    intro hs hl;obtain⟨hk,⟨L,o,hf,hn,ho,hd⟩,hr⟩:=hl;have hL:L∈X.fs:=hs L (by unfold frs;rw[ud5,hf];exact ue1);obtain⟨sl,e⟩:=I.base.slot L o ho (I.ok.frf L hL) hL λz=>I.ok.exfs L z hL;exact⟨hk,⟨L,_,hf,hn,e,hd⟩,ih (λb hb=>hs b (by unfold frs;rw[ud5,hf];exact ud1 _ hb)) hr⟩
 exact all X.outer (λ_ hb=>hb) I.ok.funs
theorem Inv.stack(I:Inv X ic σ H s):s.heap.FunFrames X.base X.stack:=by
 rcases I.ok.stk with e|⟨e,hf⟩
 .rw[e];exact I.funs
 .rw[e];obtain⟨m,hn,_⟩:=I.loc;refine .cons (by rw[I.ok.kind];decide) hf hn ?_ I.funs;exact Heap.get?_none_of_le (uk9 I.ok.bsz I.ok.above)
theorem Inv.stkSub(I:Inv X ic σ H s):∀b∈frs X.stack,b∈X.env.locals::X.fs:=λb hb=>by
 rcases I.ok.stk with e|⟨e,hf⟩
 .rw[e] at hb;exact ud1 _ hb
 .rw[e] at hb;unfold frs at hb;rw[ud5,hf] at hb;exact hb
theorem Inv.stkFree(I:Inv X ic σ H s):∀b∈frs X.stack,H b=none:=λb hb=>by
 rcases uj7.mp (I.stkSub b hb) with e|hb
 .rw[e];exact I.free
 .obtain⟨_,o,ho,_⟩:=I.ok.funs.mem hb;exact I.base.free b o ho (I.ok.frf b hb) λz=>I.ok.exfs b z hb
theorem Inv.step{g':Array GenState}{d':Drawn}(I:Inv X ic σ H s)
 (hch:∀b∈ch,(b∈X.ex\/X.s₀.heap.objs.size<=b)/\b≠X.env.locals/\(∀x c,X.env.cells.lookup x=some c->c≠b)/\∀p∈X.pn++ic,p.1≠b)
 (keep:∀b o,b≠X.env.locals->b∉X.fs->b∉ch->s.heap.get? b=some o->H b=none->h'.get? b=some o)
 (slot:∀b o,b≠X.env.locals->b∈X.fs->b∉ch->s.heap.get? b=some o->H b=none->∃sl,h'.get? b=some {o with slots:=sl}) (free:∀b o,b∉ch->s.heap.get? b=some o->H b=none->H' b=none)
 (there:∀b o,b∉ch->s.heap.get? b=some o->∃o',h'.get? b=some o')
 (tups:∀b xs,H b=some (.tup xs)->H' b=some (.tup xs)) (frzs:∀b o u,H b=some (.frz o u)->H' b=some (.frz o u)) (tbls:∀b ps,H b=some (.tbl ps)->∃more,H' b=some (.tbl (ps++more)))
 (ns:∀m,s.heap.Ns X.env.locals m->h'.Ns X.env.locals m) (hok:HOk X.prog X.w H' h') (hg:AllBare g') :
 Inv X ic σ H' {s with heap:=h',gens:=g',drawn:=d',toks:=t'}:=by
 have neL:∀b o,X.s₀.heap.get? b=some o->b≠X.env.locals:=λb o e=>uk8 (ue0 (uk7 e) I.ok.above);have neC:∀b o,X.s₀.heap.get? b=some o->b∉X.ex->b∉ch:=λb o e hx hb=>by
  rcases (hch b hb).1 with z|z
  .exact hx z
  .exact absurd (ue0 (uk7 e) z) (uj6 _)
 have cellK:∀x c,X.env.cells.lookup x=some c->∀v,s.heap.IsCell c v->h'.IsCell c v:=λx c e v z9=>by
  clear 5 z9 o ho hd;have nch:c∉ch:=λz=>(hch c z).2.2.1 x c e rfl
  by_cases hc:c∈X.fs
  .clear 5(slot c o (I.cne x c e) hc nch ho (I.freeC x c e))sl q;exact⟨_,q,hd⟩
  .exact⟨o,keep c o (I.cne x c e) hc nch ho (I.freeC x c e),hd⟩
 refine⟨I.ok,I.os,hg,⟨λb o e n hb hx=>?_,λb o e n hb hx=>?_,λb o e n hx=>?_,λb o e hx=>?_,λb xs e=>tups b xs (I.base.tups b xs e),λb o xs e=>frzs b o xs (I.base.frzs b o xs e),λb ps e=>?_⟩,?_,λx c e=>?_,?_,λx c e=>?_,λp hp=>?_,hok,I.len⟩
 .exact keep b o (neL b o e) hb (neC b o e hx) (I.base.keep b o e n hb hx) (I.base.free b o e n hx)
 .clear 5(I.base.slot b o e n hb hx)sl e1;clear 5(slot b _ (neL b o e) hb (neC b o e hx) e1 (I.base.free b o e n hx))sl' e2;exact⟨sl',e2⟩
 .clear 5(I.base.there b o e hx)o' e1;exact free b o' (neC b o e hx) e1 (I.base.free b o e n hx)
 .clear 5(I.base.there b o e hx)o' e1;exact there b o' (neC b o e hx) e1
 .clear 5(I.base.tbls b ps e)m1 e1;clear 5(tbls b _ e1)m2 e2;exact⟨m1++m2,by rw[e2,Array.append_assoc]⟩
 .clear 5 I.loc m hn hl;refine⟨m,ns m hn,λi x v e1 e2 e3=>?_⟩;clear 5(hl i x v e1 e2 e3)u r l;refine⟨u,r,?_⟩;rcases l with l|⟨k,c,e,z⟩
  .exact .inl l
  .exact .inr ⟨k,c,e,cellK x c e _ z⟩
 .clear 5(I.cell x c e)v z;exact⟨v,cellK x c e v z⟩
 .obtain⟨m,⟨o,_,_,ho,_⟩,_⟩:=I.loc;exact free _ o (λz=>(hch _ z).2.1 rfl) ho I.free
 .clear 5(I.cell x c e)v o ho hd;exact free c o (λz=>(hch c z).2.2.1 x c e rfl) ho (I.freeC x c e)
 .clear 5(I.pin p hp)e n ne nf d;have nch:p.1∉ch:=λz=>(hch p.1 z).2.2.2 p hp rfl;exact⟨keep p.1 p.2 ne nf nch e n,free p.1 p.2 nch e n,ne,nf,d⟩
theorem Inv.un(I:Inv X ic σ H s)(u:Un X.fs [] H H' s.heap h')(hok:HOk X.prog X.w H' h'):Inv X ic σ H' {s with heap:=h',toks:=t'}:=by
 obtain⟨m,⟨o,es,ep,ho,r⟩,_⟩:=id I.loc;clear 5(u.any ho I.free (by simp))sl hL;exact I.step (g':=s.gens) (d':=s.drawn) (ch:=[]) (λ_ z=>nomatch z) (λb o _ hb _ e n=>u.keep b o e n hb (by simp)) (λb o _ hb _ e n=>u.slot b o e n hb (by simp)) (λb o _ e n=>u.free b o e n (by simp)) (λb o _ e=>u.there b o e (by simp)) u.tups u.frzs u.tbls (λm' hm=>by
  clear 5 hm o' es' ep' ho' r';rw[ho] at ho';cases ho'
  exact⟨_,es',ep',hL,r'⟩) hok I.bare
theorem Inv.call{g':Array GenState}{d':Drawn}(I:Inv X ic σ H s)(u:Un (frs X.stack) ch H H' s.heap h')(hok:HOk X.prog X.w H' h')(hg:AllBare g')
 (hch:∀b∈ch,(b∈X.ex\/X.s₀.heap.objs.size<=b)/\b≠X.env.locals/\(∀x c,X.env.cells.lookup x=some c->c≠b)/\∀p∈X.pn++ic,p.1≠b) :
 Inv X ic σ H' {s with heap:=h',gens:=g',drawn:=d',toks:=t'}:=by
 obtain⟨m,⟨o,es,ep,ho,r⟩,_⟩:=id I.loc;obtain⟨sl,hL⟩:=u.any ho I.free λz=>(hch _ z).2.1 rfl;exact I.step (ch:=ch) hch (λb o hL hb hc e n=>u.keep b o e n (λz=>(uj7.mp (I.stkSub b z)).elim hL hb) hc) (λb o _ _ hc e n=>u.any e n hc) (λb o hc e n=>u.free b o e n hc) (λb o hc e=>u.there b o e hc) u.tups u.frzs u.tbls (λm' hm=>by
  clear 5 hm o' es' ep' ho' r';rw[ho] at ho';cases ho'
  exact⟨_,es',ep',hL,r'⟩) hok hg
theorem Inv.turned{it:ig}(I:Inv X ic σ H s)(k:∀b o,b≠it->s.heap.get? b=some o->h'.get? b=some o)(hn:H it=none)(hL:it≠X.env.locals)
 (h1:it∈X.ex\/X.s₀.heap.objs.size<=it) (h2:∀x c,X.env.cells.lookup x=some c->c≠it) (h3:∀p∈X.pn++ic,p.1≠it):Inv X ic σ H {s with heap:=h',toks:=t'}:=by
 have nit:∀b u,H b=some u->b≠it:=λb u e z=>by rw[z,hn] at e;cases e
 refine I.step (g':=s.gens) (d':=s.drawn) (ch:=[it]) (λb hb=>?_) (λb o _ _ hc e _=>k b o (λz=>hc (by simp[z])) e) (λb o _ _ hc e _=>⟨o.slots,k b o (λz=>hc (by simp[z])) e⟩) (λ_ _ _ _ n=>n)
  (λb o hc e=>⟨o,k b o (λz=>hc (by simp[z])) e⟩) (λ_ _ e=>e) (λ_ _ _ e=>e) (λb ps e=>⟨#[],by rw[e];simp⟩) (λm hm=>?_) (λb u e=>?_) I.bare
 .have e:b=it:=by simpa using hb
  subst e;exact⟨h1,hL,h2,h3⟩
 .clear 5 hm o es ep ho r;exact⟨o,es,ep,k _ o (Ne.symm hL) ho,r⟩
 .refine(I.hok b u e).stay (λc v hc q=>k c v ?_ q) (λ_ q=>q) λ_ _ q=>q;rcases hc with z|z
  .rw[z];exact nit b u e
  .exact nit c _ z
theorem Inv.tok(I:Inv X ic σ H s)(t:Nat):Inv X ic σ H {s with toks:=t}:=I.un (h':=s.heap) (t':=t) Un.refl I.hok
theorem Inv.kept{t':Nat}(I:Inv X ic σ H s)(k:∀b u,s.heap.get? b=some u->h'.get? b=some u):Inv X ic σ H {s with heap:=h',toks:=t'}:=I.un (Un.kept k) (I.hok.kept k)
theorem Inv.laid{a:ig}{o:HO}{t':Nat}(I:Inv X ic σ H s)(k:∀b u,s.heap.get? b=some u->h'.get? b=some u)(hp:s.heap.objs.size<=a)(new:ObjOk X.prog X.w (upd H a o) h' a o) :
 Inv X ic σ (upd H a o) {s with heap:=h',toks:=t'}:=I.un (Un.laid k hp (I.hok.fresh hp)) (I.hok.laid k hp new)
theorem Inv.write{x e:ig}{o:HO}{t':Nat}(I:Inv X ic σ H s)(mu:Mut (H x))(he:e=x\/H e=some (.own x))(k:∀b u,b≠e->s.heap.get? b=some u->h'.get? b=some u)(heo:∃u,h'.get? e=some u)
 (new:ObjOk X.prog X.w (upd H x o) h' x o):Inv X ic σ (upd H x o) {s with heap:=h',toks:=t'}:=I.un (Un.write mu he k heo) (I.hok.write mu he k heo new)
theorem Inv.pins_of{pins':List (ig×Obj)}(I:Inv X ic σ H s)(h:∀p∈pins',s.heap.get? p.1=some p.2/\H p.1=none/\p.1≠X.env.locals/\p.1∉X.fs/\∀v,p.2.data≠.cell v):Inv X pins' σ H s:=
 ⟨I.ok,I.os,I.bare,I.base,I.loc,I.cell,I.free,I.freeC,λp hp=>(uh5.mp hp).elim (λz=>I.pin p (List.mem_append_left _ z)) (h p),I.hok,I.len⟩
theorem HC{N:List Str}(hN:N.Nodup){i j:Nat}{x:Str}(a:N[i]?=some x)(b:N[j]?=some x):i=j:=by
 clear 5(ua9.mp a)h1 e1;clear 5(ua9.mp b)h2 e2;exact(ug1 hN).mp (e1.trans e2.symm)
theorem IU{M:Model}{A:Around}{i:Nat}{x:Str}(I:Inv X ic σ H s)(hN:X.N.Nodup)(hi:X.N[i]?=some x)(hx:Loc X.env.scope x)(r:RelV v u)
 (h:∀s',Inv X ic (σ.set i (some v)) H s'->(∃a,Heap.SameBut a s.heap s'.heap/\(a=X.env.locals\/X.env.cells.lookup x=some a))->Q () s') (hf:X.fn x=true\/X.env.scope.names.lookup x=some .local:=by walk_at"h"):wpAny M A (storeName X.env x u) Q E s:=by
 clear 5(id I.loc)m hn hl;have hcls:(X.env.scope.kind==.class||(X.env.scope.kind==.module&&X.env.locals != X.env.globals))=false:=by rw[I.ok.kind];rfl
 have hiσ:i < σ.length:=by rw[I.len];exact(ua9.mp hi).1
 have cne:=I.cne;have tracked:∀{a:ig}{h':Heap},(∃o,s.heap.get? a=some o/\H a=none)->Heap.SameBut a s.heap h'->HOk X.prog X.w H h':=λ{a h'} ha hs b ob e=>by
  obtain⟨_,_,hfree⟩:=ha;refine(I.hok b ob e).stay (λc w' hc q=>(hs.2 c ?_).trans q) (λ_ q=>q) λ_ _ q=>q;rintro rfl;rcases hc with rfl|hc
  .rw[hfree] at e;cases e
  .rw[hfree] at hc;cases hc
 rcases hx with hk|hk
 .refine wpAny_storeName_local hk hn (λh' hn' hs=>?_) hcls;obtain⟨oL,_,_,hoL,_⟩:=id hn;refine h _ ⟨I.ok,I.os,I.bare,⟨λb o e n hb hx=>?_,λb o e n hb hx=>?_,I.base.free,λb o e hx=>?_,I.base.tups,I.base.frzs,I.base.tbls⟩,⟨_,hn',λj y v' e1 e2 e3=>?_⟩,λy c e=>?_,I.free,I.freeC,λp hp=>?_,tracked ⟨oL,hoL,I.free⟩ hs,by simpa using I.len⟩ ⟨_,hs,.inl rfl⟩
  .exact(hs.2 b (uk8 (ue0 (uk7 e) I.ok.above))).trans (I.base.keep b o e n hb hx)
  .clear 5(I.base.slot b o e n hb hx)sl e1;exact⟨sl,(hs.2 b (uk8 (ue0 (uk7 e) I.ok.above))).trans e1⟩
  .clear 5(I.base.there b o e hx)o' e1;exact⟨o',(hs.2 b (uk8 (ue0 (uk7 e) I.ok.above))).trans e1⟩
  .by_cases hj:j=i
   .subst hj;rw[hi] at e1;cases e1
    rw[ub8 hiσ] at e2
    cases e2
    exact⟨u,r,.inl ⟨hk,by simp⟩⟩
   .rw[ud2 (Ne.symm hj)] at e2;clear 5(hl j y v' e1 e2 e3)u' r' q;refine⟨u',r',?_⟩;rcases q with⟨k,e⟩|⟨k,c,e,z⟩
    .refine .inl ⟨k,?_⟩;have:y≠x:=λe=>hj (HC hN e1 (e ▸ hi));simp[this,e]
    .exact .inr ⟨k,c,e,z.sameBut hs (cne y c e)⟩
  .clear 5(I.cell y c e)w' z;exact⟨w',z.sameBut hs (cne y c e)⟩
  .clear 5(I.pin p hp)e n ne nf d;exact⟨(hs.2 p.1 ne).trans e,n,ne,nf,d⟩
 .have hfn:X.fn x=true:=by
   rcases hf with z|z
   .exact z
   .rw[z] at hk;cases hk
  clear 5(I.ok.has x (.inl hk))c hc;clear 5(I.cell x c hc)w' z;refine wpAny_storeName_cell I.ok.kind hk hc z (λh' hc' hs=>?_);clear 5(id z)oc hoc hocd;refine h {s with heap:=h'} ⟨I.ok,I.os,I.bare,⟨λb o e n hb hx=>?_,λb o e n hb hx=>?_,I.base.free,λb o e hx=>?_,I.base.tups,I.base.frzs,I.base.tbls⟩,⟨m,hn.sameBut hs (Ne.symm (cne x c hc)),λj y v' e1 e2 e3=>?_⟩,λy c' e=>?_,I.free,I.freeC,λp hp=>?_,tracked ⟨oc,hoc,I.freeC x c hc⟩ hs,by simpa using I.len⟩ ⟨c,hs,.inr hc⟩
  .exact(hs.2 b (uk8 (ue0 (uk7 e) (I.ok.cab x c hfn hc)))).trans (I.base.keep b o e n hb hx)
  .clear 5(I.base.slot b o e n hb hx)sl e1;exact⟨sl,(hs.2 b (uk8 (ue0 (uk7 e) (I.ok.cab x c hfn hc)))).trans e1⟩
  .clear 5(I.base.there b o e hx)o' e1;exact⟨o',(hs.2 b (uk8 (ue0 (uk7 e) (I.ok.cab x c hfn hc)))).trans e1⟩
  .by_cases hj:j=i
   .subst hj;rw[hi] at e1;cases e1
    rw[ub8 hiσ] at e2
    cases e2
    exact⟨u,r,.inr ⟨.inl hk,c,hc,hc'⟩⟩
   .rw[ud2 (Ne.symm hj)] at e2;clear 5(hl j y v' e1 e2 e3)u' r' q;refine⟨u',r',?_⟩;rcases q with q|⟨k,c',e,z'⟩
    .exact .inl q
    .refine .inr ⟨k,c',e,z'.sameBut hs ?_⟩;rintro rfl;exact hj (HC hN e1 (I.ok.inj _ _ _ e hc ▸ hi))
  .by_cases hcc:c'=c
   .subst hcc;exact⟨_,hc'⟩
   .clear 5(I.cell y c' e)w2 z2;exact⟨w2,z2.sameBut hs hcc⟩
  .clear 5(I.pin p hp)e n ne nf d;refine⟨(hs.2 p.1 ?_).trans e,n,ne,nf,d⟩;intro q;rw[q,hoc] at e;have q':oc=p.2:=uh6 e;exact d w' (by rw[<-q'];exact hocd)
theorem Gu{M:Model}{A:Around}{i:Nat}{x:Str}(I:Inv X ic σ H s)(hN:X.N.Nodup)(hi:X.N[i]?=some x)(hx:Loc X.env.scope x)(r:RelV v u)
 (h:∀s',Inv X ic (σ.set i (some v)) H s'->Q () s') (hf:X.fn x=true\/X.env.scope.names.lookup x=some .local:=by walk_at"h"):wpAny M A (storeName X.env x u) Q E s:=
 IU I hN hi hx r (λs' I' _=>h s' I') hf
theorem Inv.call'{s':ij}(I:Inv X ic σ H s)(ho:s'.os=s.os)(u:Un (frs X.stack) ch H H' s.heap s'.heap)(hok:HOk X.prog X.w H' s'.heap)(hg:AllBare s'.gens)
 (hch:∀b∈ch,(b∈X.ex\/X.s₀.heap.objs.size<=b)/\b≠X.env.locals/\(∀x c,X.env.cells.lookup x=some c->c≠b)/\∀p∈X.pn++ic,p.1≠b):Inv X ic σ H' s':=by
 clear 5 s' h' g' d' t' o';have e:o'=s.os:=ho;subst e;exact I.call (g':=g') (t':=t') (d':=d') u hok hg hch
end
abbrev XK:=ie->Option ig->Hp->Prop
abbrev St:=List (Option V)
abbrev VK:=V->Hp->Prop
abbrev TE:=St->Hp->VK->Prop
abbrev TT:=St->Hp->(Bool->Hp->Prop)->Prop
abbrev TA:=St->Hp->(List V->Hp->Prop)->Prop
structure Ends where
 nx:St->Hp->Prop
 rt:VK
 bk:St->Hp->Prop:=λ_ _=>False
 ct:St->Hp->Prop:=λ_ _=>False
abbrev TS:=Ends->St->Hp->Prop
inductive EP(X:Cx)(ic:List (ig×Obj))(σ:St)(Q:VK)(u:ie)(s':ij):Prop where
 |mk (v:V) (H':Hp) (i:Inv X ic σ H' s') (r:RelV v u) (q:Q v H'):EP X ic σ Q u s'
inductive TP(X:Cx)(ic:List (ig×Obj))(σ:St)(Q:Bool->Hp->Prop)(b:Bool)(s':ij):Prop where
 |mk (H':Hp) (i:Inv X ic σ H' s') (q:Q b H'):TP X ic σ Q b s'
inductive AP(X:Cx)(ic:List (ig×Obj))(σ:St)(Q:List V->Hp->Prop)(us:List ie)(s':ij):Prop where
 |mk (vs:List V) (H':Hp) (i:Inv X ic σ H' s') (r:Vals vs us) (q:Q vs H'):AP X ic σ Q us s'
def SP(X:Cx)(ic:List (ig×Obj))(D:Ends)(f:Flow)(s':ij):Prop:=
 match f with
 |.next=>∃σ' H',Inv X ic σ' H' s'/\D.nx σ' H'
 |.brk=>∃σ' H',Inv X ic σ' H' s'/\D.bk σ' H'
 |.cont=>∃σ' H',Inv X ic σ' H' s'/\D.ct σ' H'
 |.ret u=>∃v σ' H',Inv X ic σ' H' s'/\RelV v u/\D.rt v H'
def PE(X:Cx)(e:Expr)(t:TE):Prop:=
 ∀(ic:List (ig×Obj)) (s:ij) (σ:St) (H:Hp) (Q:VK),Inv X ic σ H s->t σ H Q->wpAny (model X.prog X.w) X.A (eval e X.env) (EP X ic σ Q) X.xe s
def PT(X:Cx)(e:Expr)(t:TT):Prop:=
 ∀(ic:List (ig×Obj)) (s:ij) (σ:St) (H:Hp) (Q:Bool->Hp->Prop),Inv X ic σ H s->t σ H Q->wpAny (model X.prog X.w) X.A (isTrue e X.env (eval e X.env)) (TP X ic σ Q) X.xe s
def PW(X:Cx)(e:Expr)(t:TT):Prop:=
 ∀(whole:Sem ie) (ic:List (ig×Obj)) (s:ij) (σ:St) (H:Hp) (Q:Bool->Hp->Prop),Inv X ic σ H s->t σ H Q->wpAny (model X.prog X.w) X.A (isTrue e X.env whole) (TP X ic σ Q) X.xe s
variable{X:Cx}{e:Expr}
theorem PW.pt{t:TT}(h:PW X e t):PT X e t:=h _
def PA(X:Cx)(es:List Expr)(t:TA):Prop:=
 ∀(pos:Pos) (ic:List (ig×Obj)) (s:ij) (σ:St) (H:Hp) (Q:List V->Hp->Prop),Inv X ic σ H s->t σ H Q->wpAny (model X.prog X.w) X.A (spliced (backTo pos (starEach es X.env))) (AP X ic σ Q) X.xe s
def PS(X:Cx)(st:Stmt)(t:TS):Prop:=
 ∀(ic:List (ig×Obj)) (s:ij) (σ:St) (H:Hp) (D:Ends),Inv X ic σ H s->t D σ H->wpAny (model X.prog X.w) X.A (exec st X.env) (SP X ic D) X.xe s
def PSs(X:Cx)(st:List Stmt)(t:TS):Prop:=
 ∀(ic:List (ig×Obj)) (s:ij) (σ:St) (H:Hp) (D:Ends),Inv X ic σ H s->t D σ H->wpAny (model X.prog X.w) X.A (execs st X.env) (SP X ic D) X.xe s
variable{s:ij}
theorem thn{α:Type}{t:Sem α}{Q Q':α->ij->Prop}{M:Model}{A:Around}(h:wpAny M A t Q E s)(hQ:∀a s,Q a s->Q' a s):wpAny M A t Q' E s:=um0 h hQ λ_ _ x=>x
variable{ic:List (ig×Obj)}{σ:St}{c:Expr}
section
variable{X:Cx}
def aF(i:Nat):TE:=λσ H Q=>∃v,σ[i]?=some (some v)/\Q v H
def tC(v:V):TE:=λ_ H Q=>Q v H
theorem Dc{i:Nat}{x:Str}{pos:Pos}(hN:X.N[i]?=some x)(hv:Vis X.env.scope x)(hd:(x==("__debug__":Str))=false:=by decide)(hcd:(x==("__classdict__":Str))=false:=by decide):PE X (.Name x pos) (aF i):=by
 intro ic s σ H Q I h;clear 5 h v e h;clear 5 I.loc m hn hl;clear 5(hl i x v hN e hv)u r l;have fin:EP X ic σ Q u s:=⟨v,H,I,r,h⟩;rcases l with⟨hk,hm⟩|⟨hk,c,hc,hcell⟩
 .exact wpAny_Name (wpAny_loadName_local I.ok.kind hk hn hm fin) hd
 .rcases hk with hk|hk
  .exact wpAny_Name (wpAny_loadName_cell I.ok.kind hk hc hcell fin) hd
  .exact wpAny_Name (wpAny_loadName_free I.ok.kind hk hc hcell fin hcd) hd
theorem ZS{i j pos}:PE X (.Constant (.int i) j pos) (tC (.int i)):=λ_ _ _ H _ I h=>wpAny_Constant_int ⟨.int i,H,I.tok _,⟨_,rfl⟩,h⟩
theorem bL{b j pos}:PE X (.Constant (.bool b) j pos) (tC (.bl b)):=λ_ _ _ H _ I h=>Constant_bool ⟨.bl b,H,I,rfl,h⟩
theorem ZV{j pos}:PE X (.Constant .none j pos) (tC .non):=λ_ _ _ H _ I h=>Constant_none ⟨.non,H,I,rfl,h⟩
theorem Sx{x j pos}:PE X (.Constant (.str x) j pos) (tC (.str x)):=λ_ _ _ H _ I h=>Calls.Constant_str ⟨.str x,H,I.tok _,⟨_,rfl⟩,h⟩
def Gl(X:Cx)(x:Str):Prop:=X.env.kindOf x=some .globalImplicit
theorem C6{x:Str}{pos:Pos}{Q:ie->ij->Prop}(I:Inv X ic σ H s)(hg:Gl X x)(hm:X.mg x=some u)(h:Q u s)
 (hd:(x==("__debug__":Str))=false:=by decide):wpAny (model X.prog X.w) X.A (eval (.Name x pos) X.env) Q E s:=
 iz I.ok.kind hg (Calls.loadGlobal_global (by rw[I.ok.glob];exact I.mod.glob.keeps I.bk) hm h) hd
theorem G8{x:Str}{pos:Pos}{Q:ie->ij->Prop}(I:Inv X ic σ H s)(hg:Gl X x)(hm:X.mg x=none)(hv:bootBuiltins x=some u)(h:Q u s)
 (hn:x≠"__name__":=by decide) (hd:(x==("__debug__":Str))=false:=by decide):wpAny (model X.prog X.w) X.A (eval (.Name x pos) X.env) Q E s:=by
 clear 5 I.mod.blt mb h1 h2;exact iz I.ok.kind hg (Calls.loadGlobal_builtin (by rw[I.ok.glob];exact I.mod.glob.keeps I.bk) hm (by rw[I.ok.blt];exact h1.keeps I.bk) ((h2 x hn).trans hv) h) hd
theorem LM{x:Str}{pos:Pos}(hg:Gl X x)(hm:X.mg x=some u)(r:RelV v u)(hd:(x==("__debug__":Str))=false:=by decide):PE X (.Name x pos) (tC v):=
 λ_ _ _ H _ I h=>C6 I hg hm ⟨v,H,I,r,h⟩ hd
theorem W8{x:Str}{pos:Pos}(hg:Gl X x)(hm:X.mg x=none)(hv:bootBuiltins x=some u)(r:RelV v u)(hn:x≠"__name__":=by decide)(hd:(x==("__debug__":Str))=false:=by decide):PE X (.Name x pos) (tC v):=
 λ_ _ _ H _ I h=>G8 I hg hm hv ⟨v,H,I,r,h⟩ hn hd
variable{a b:Expr}{ta tb:TE}{pos:Pos}
def tB(t:TE):TT:=λσ H Q=>t σ H λx H1=>∃c,x=.bl c/\Q c H1
theorem Z5{t:TE}(h:PE X e t)(he:∀whole,isTrue e X.env whole=(do let v <-whole;standAt e.pos;holding [v] (truthy v)):=by intro _;rfl):PT X e (tB t):=by
 intro ic s σ H Q I hw;refine isTrue_plain (thn (h ic s σ H _ I hw) λv s1 z9=>?_) (he _);clear 5 z9 x H1 I1 r1 q1;clear 5 q1 d rfl q
 cases r1
 exact ke ⟨H1,I1,q⟩
variable{tA tB':TT}{rest:List Expr}
def eI(t u:TT):TT:=λσ H Q=>t σ H λc H1=>if c=true then u σ H1 Q else Q false H1
def tOr(t u:TT):TT:=λσ H Q=>t σ H λc H1=>if c=true then Q true H1 else u σ H1 Q
def eR(t:TT):TT:=λσ H Q=>t σ H λc H1=>Q (!c) H1
theorem Xs(ha:PT X a tA):PW X (.BoolOp .And [a] pos) tA:=by
 intro wh ic s σ H Q I h;refine isTrue_and (thn (ha ic s σ H Q I h) λc s1 e=>?_)
 cases c with
 |true=>exact isTrue_and_nil e
 |false=>exact e
theorem Z7(ha:PT X a tA):PW X (.BoolOp .Or [a] pos) tA:=by
 intro wh ic s σ H Q I h;refine isTrue_or (thn (ha ic s σ H Q I h) λc s1 e=>?_)
 cases c with
 |false=>exact isTrue_or_nil e
 |true=>exact e
theorem Z6(ha:PT X a tA)(hb:PW X (.BoolOp .And (b::rest) pos) tB'):PW X (.BoolOp .And (a::b::rest) pos) (eI tA tB'):=by
 intro wh ic s σ H Q I h;refine isTrue_and (thn (ha ic s σ H _ I h) λc s1 z9=>?_);clear 5 z9 H1 I1 q1
 cases c with
 |true=>exact hb wh ic s1 σ H1 Q I1 q1
 |false=>exact⟨H1,I1,q1⟩
theorem bW(ha:PT X a tA)(hb:PW X (.BoolOp .Or (b::rest) pos) tB'):PW X (.BoolOp .Or (a::b::rest) pos) (tOr tA tB'):=by
 intro wh ic s σ H Q I h;refine isTrue_or (thn (ha ic s σ H _ I h) λc s1 z9=>?_);clear 5 z9 H1 I1 q1
 cases c with
 |true=>exact⟨H1,I1,q1⟩
 |false=>exact hb wh ic s1 σ H1 Q I1 q1
theorem Z4(ha:PT X a tA):PT X (.UnaryOp .Not a pos) (eR tA):=by
 intro ic s σ H Q I h;refine isTrue_not (thn (ha ic s σ H (λc H1=>Q (!c) H1) I h) λc s1 z=>?_);clear 5 z H1 I1 q1;exact⟨H1,I1,q1⟩
def b5(ta tb:TE):TE:=λσ H Q=>ta σ H λx H1=>∃c,x=.bl c/\if c=true then tb σ H1 Q else Q (.bl false) H1
def b9(ta:TE):TE:=λσ H Q=>ta σ H λx H1=>∃c,x=.bl c/\Q (.bl (!c)) H1
theorem ZX{op}{t:TE}(h:PE X a t):PE X (.BoolOp op [a] pos) t:=λic s σ H Q I hw=>BoolOp_one (h ic s σ H Q I hw)
theorem ZP(ha:PE X a ta)(hb:PE X (.BoolOp .And (b::rest) pos) tb):PE X (.BoolOp .And (a::b::rest) pos) (b5 ta tb):=by
 intro ic s σ H Q I h;refine BoolOp_and (thn (ha ic s σ H _ I h) λv s1 z9=>?_);clear 5 z9 x H1 I1 r1 q1;clear 5 q1 c rfl q1
 cases r1
 refine ke ?_
 cases c with
 |true=>exact hb ic s1 σ H1 Q I1 q1
 |false=>exact⟨.bl false,H1,I1,rfl,q1⟩
theorem ZW(ha:PE X a ta):PE X (.UnaryOp .Not a pos) (b9 ta):=by
 intro ic s σ H Q I h;refine UnaryOp_ (thn (ha ic s σ H _ I h) λv s1 z9=>?_);clear 5 z9 x H1 I1 r1 q1;clear 5 q1 c rfl q1
 cases r1
 exact not_of (ke ⟨.bl (!c),H1,I1,rfl,q1⟩)
def tIf(t:TT)(ta tb:TE):TE:=λσ H Q=>t σ H λc H1=>if c=true then ta σ H1 Q else tb σ H1 Q
theorem UK(hc:PT X c tA)(ha:PE X a ta)(hb:PE X b tb):PE X (.IfExp c a b pos) (tIf tA ta tb):=by
 intro ic s σ H Q I h;refine wpAny_IfExp (thn (hc ic s σ H _ I h) λd s1 z9=>?_);clear 5 z9 H1 I1 q1
 cases d with
 |true=>exact ha ic s1 σ H1 Q I1 q1
 |false=>exact hb ic s1 σ H1 Q I1 q1
end
noncomputable def SqL(K:ib)(H:Hp)(a:ig)(xs:List V):Prop:=
 Rd H a (.lst xs)\/
  ∃(o:Obj) (its:Array ie) (n:Nat),K.lookup a=some o/\o.cls=.type "list"/\o.dict=none/\o.data=.seq its n/\its.size<=sizeLine/\Vals xs its.toList
noncomputable def SqT(K:ib)(H:Hp)(a:ig)(xs:List V):Prop:=
 Rd H a (.tup xs)\/
  ∃(o:Obj) (its:Array ie) (n:Nat),K.lookup a=some o/\o.cls=.type "tuple"/\o.data=.seq its n/\its.size<=sizeLine/\Vals xs its.toList
noncomputable def dL:ie->Option V
 |.none=>some .non
 |.bool b=>some (.bl b)
 |.int i _=>some (.int i)
 |.str x _=>some (.str x)
 |.bytes b _=>some (.byt b)
 |.float b _=>some (.flt b)
 |.ref a=>some (.ref a)
 |.type n=>some (.ty n)
 |_=>none
theorem RelV.abs{x:V}(r:RelV x u):dL u=some x:=by
 cases x with
 |non=>cases r;rfl
 |bl _=>cases r;rfl
 |int _=>clear 5 r t rfl;rfl
 |str _=>clear 5 r t rfl;rfl
 |byt _=>clear 5 r t rfl;rfl
 |flt _=>clear 5 r t rfl;rfl
 |ref _=>cases r;rfl
 |ty _=>cases r;rfl
theorem RelV.inj{x y:V}{u:ie}(r:RelV x u)(q:RelV y u):x=y:=uh6 (r.abs.symm.trans q.abs)
theorem Vals.inj{xs ys:List V}{us:List ie}(a:Vals xs us)(b:Vals ys us):xs=ys:=by
 cases a with
 |nil=>
   cases b
   rfl
 |cons r t=>
   cases b with
   |cons r' t'=>rw[r.inj r',Vals.inj t t']
variable{K:ib}
section
variable{X:Cx}{ic:List (ig×Obj)}{σ:St}{H:Hp}{s:ij}{a:ig}{xs ys:List V}
theorem SqL.of(h:H a=some (.lst xs)):SqL K H a xs:=.inl (.inl h)
theorem SqT.of(h:H a=some (.tup xs)):SqT K H a xs:=.inl (.inl h)
theorem Inv.list(I:Inv X ic σ H s)(h:SqL X.K H a xs):∃its:List ie,Vals xs its/\PlainL s.heap a its.toArray/\xs.length<=sizeLine:=by
 rcases h with h|⟨o,its,n,hk,hc,hd,hs,hz,r⟩
 .clear 5(h.ok I.hok)z its n r e;exact⟨its,r,⟨_,n,e,rfl,rfl,rfl⟩,z⟩
 .refine⟨its.toList,r,⟨o,n,I.kIn a o hk,hc,hd,by simpa using hs⟩,?_⟩;have e:=r.length;simp only[Array.length_toList] at e;lia
theorem Inv.tuple(I:Inv X ic σ H s)(h:SqT X.K H a xs):∃its:List ie,Vals xs its/\IsTup s.heap a its.toArray/\xs.length<=sizeLine:=by
 rcases h with h|⟨o,its,n,hk,hc,hs,hz,r⟩
 .clear 5(h.ok I.hok)z its r p;exact⟨its,r,p,z⟩
 .refine⟨its.toList,r,⟨o,I.kIn a o hk,hc,n,by simpa using hs⟩,?_⟩;have e:=r.length;simp only[Array.length_toList] at e;lia
theorem Inv.list_inj(I:Inv X ic σ H s)(h:SqL X.K H a xs)(h':SqL X.K H a ys):xs=ys:=by
 obtain⟨its,r,⟨o,n,e,_,_,d⟩,_⟩:=I.list h;obtain⟨its',r',⟨o',n',e',_,_,d'⟩,_⟩:=I.list h';rw[e] at e';cases e'
 rw[d] at d';injection d' with d1 _
 have:its=its':=by simpa using lD Array.toList d1
 subst this;exact r.inj r'
theorem Inv.tuple_inj(I:Inv X ic σ H s)(h:SqT X.K H a xs)(h':SqT X.K H a ys):xs=ys:=by
 obtain⟨its,r,⟨o,e,_,n,d⟩,_⟩:=I.tuple h;obtain⟨its',r',⟨o',e',_,n',d'⟩,_⟩:=I.tuple h';rw[e] at e';cases e'
 rw[d] at d';injection d' with d1 _
 have:its=its':=by simpa using lD Array.toList d1
 subst this;exact r.inj r'
end
abbrev Cx.wish(X:Cx)(E:ie->ij->Prop):Cx:={X with xe:=E}
abbrev Cx.nox(X:Cx):Cx:=X.wish λ_ _=>False
theorem Cx.Ok.wish{X:Cx}(ok:X.Ok)(E:ie->ij->Prop):(X.wish E).Ok:=
 ⟨ok.mod,ok.kind,ok.glob,ok.blt,ok.above,ok.inj,ok.has,ok.cab,ok.hd,ok.frames,ok.stk,ok.exf,ok.bs,ok.bsz,ok.noex,ok.exfs,ok.funs,ok.frf⟩
theorem Cx.Ok.unwish(ok:(X.wish E).Ok):X.Ok:=
 ⟨ok.mod,ok.kind,ok.glob,ok.blt,ok.above,ok.inj,ok.has,ok.cab,ok.hd,ok.frames,ok.stk,ok.exf,ok.bs,ok.bsz,ok.noex,ok.exfs,ok.funs,ok.frf⟩
section
variable{X:Cx}{ic:List (ig×Obj)}{σ:St}{H:Hp}{s:ij}{E:ie->ij->Prop}
theorem Inv.wish(I:Inv X ic σ H s)(E:ie->ij->Prop):Inv (X.wish E) ic σ H s:=⟨I.ok.wish E,I.os,I.bare,I.base,I.loc,I.cell,I.free,I.freeC,I.pin,I.hok,I.len⟩
theorem Inv.unwish(I:Inv (X.wish E) ic σ H s):Inv X ic σ H s:=⟨I.ok.unwish,I.os,I.bare,I.base,I.loc,I.cell,I.free,I.freeC,I.pin,I.hok,I.len⟩
theorem SP.unwish{D:Ends}{f:Flow}{s':ij}(h:SP (X.wish E) ic D f s'):SP X ic D f s':=by
 cases f with
 |next=>clear 5 h σ' H' I q;exact⟨σ',H',I.unwish,q⟩
 |brk=>clear 5 h σ' H' I q;exact⟨σ',H',I.unwish,q⟩
 |cont=>clear 5 h σ' H' I q;exact⟨σ',H',I.unwish,q⟩
 |ret u=>clear 5 h v σ' H' I r q;exact⟨v,σ',H',I.unwish,r,q⟩
theorem PSs.nox{st:List Stmt}{t:TS}(h:PSs X.nox st t):PSs X st t:=λic s σ H D I hw=>
 um0 (h ic s σ H D (I.wish _) hw) (λ_ _ q=>q.unwish) λ_ _ z=>False.elim z
end
section
variable{X:Cx}{st:Stmt}{rest:List Stmt}{t u:TS}{e:Expr}{te:TE}{pos:Pos}
def VX:TS:=λD σ H=>D.nx σ H
def eW(t u:TS):TS:=λD σ H=>t {D with nx:=u D} σ H
theorem Xp:PSs X [] VX:=λ_ _ σ H _ I h=>km ⟨σ,H,I,h⟩
theorem Ka(h1:PS X st t)(h2:PSs X rest u):PSs X (st::rest) (eW t u):=by
 intro ic s σ H D I h;refine ki (thn (h1 ic s σ H {D with nx:=u D} I h) λf s1 q=>?_)
 cases f with
 |next=>
   clear 5 q σ' H' I' q;exact h2 ic s1 σ' H' D I' q
 |ret v=>exact q
 |brk=>exact q
 |cont=>exact q
theorem Hc(h1:PS X st t):PSs X [st] t:=by
 intro ic s σ H D I h;refine ki (thn (h1 ic s σ H D I h) λf s1 q=>?_)
 cases f with
 |next=>exact km q
 |ret v=>exact q
 |brk=>exact q
 |cont=>exact q
def aC:TS:=λD σ H=>D.bk σ H
theorem Xn:PS X (.Pass pos) VX:=λ_ _ σ H _ I h=>wpAny_Pass ⟨σ,H,I,h⟩
theorem UP:PS X (.Break pos) aC:=λ_ _ σ H _ I h=>wpAny_Break ⟨σ,H,I,h⟩
theorem Inv.quiet(I:Inv X ic σ H s):interactive X.env=false:=by simp[interactive,I.ok.kind]
def VU(te:TE):TS:=λD σ H=>te σ H λ_ H1=>D.nx σ H1
theorem LO(he:PE X e te)(hs:swapsWith e none pos.line X.env=pure false:=by rfl):PS X (.Expr e pos) (VU te):=by
 intro ic s σ H D I h;exact wpAny_Expr_any (thn (he ic s σ H _ I h) λv s1 z9=>by clear 5 z9 x H1 I1 r1 q1;exact⟨σ,H1,I1,q1⟩) I.quiet hs
def eU(te:TE):TS:=λD σ H=>te σ H D.rt
theorem IR(he:PE X e te):PS X (.Return (some e) pos) (eU te):=by
 intro ic s σ H D I h;exact wpAny_Return_some (thn (he ic s σ H _ I h) λv s1 z9=>by clear 5 z9 x H1 I1 r1 q1;exact⟨x,σ,H1,I1,r1,q1⟩)
def eP(c:TT)(t u:TS):TS:=λD σ H=>c σ H λb H1=>if b=true then t D σ H1 else u D σ H1
theorem bT{a b:List Stmt}{tc:TT}(hc:PT X c tc)(ha:PSs X a t)(hb:PSs X b u):PS X (.If c a b pos) (eP tc t u):=by
 intro ic s σ H D I h;refine wpAny_If (thn (hc ic s σ H _ I h) λd s1 z9=>?_);clear 5 z9 H1 I1 q1
 cases d with
 |true=>exact ha ic s1 σ H1 D I1 q1
 |false=>exact hb ic s1 σ H1 D I1 q1
end
abbrev TG:=V->St->Hp->(St->Hp->Prop)->Prop
abbrev TGs:=List V->St->Hp->(St->Hp->Prop)->Prop
def PG(X:Cx)(target:Expr)(t:TG):Prop:=
 ∀(ic:List (ig×Obj)) (s:ij) (σ:St) (H:Hp) (v:V) (u:ie) (Q:St->Hp->Prop),Inv X ic σ H s->RelV v u->t v σ H Q->
  wpAny (model X.prog X.w) X.A (assign target X.env u) (λ_ s'=>∃σ' H',Inv X ic σ' H' s'/\Q σ' H') X.xe s
def PGs(X:Cx)(ts:List Expr)(t:TGs):Prop:=
 ∀(ic:List (ig×Obj)) (s:ij) (σ:St) (H:Hp) (vs:List V) (us:List ie) (Q:St->Hp->Prop),Inv X ic σ H s->Vals vs us->t vs σ H Q->
  wpAny (model X.prog X.w) X.A (assignInOrder ((assignEach ts X.env).map (·.2)) us) (λ_ s'=>∃σ' H',Inv X ic σ' H' s'/\Q σ' H') X.xe s
abbrev Tu:=V->V->V->Hp->(Hp->Prop)->Prop
def Tt(X:Cx)(t:Tu):Prop:=
 ∀(ic:List (ig×Obj)) (s:ij) (σ:St) (H:Hp) (o i v:V) (ov iv u:ie) (Q:Hp->Prop),Inv X ic σ H s->RelV o ov->RelV i iv->RelV v u->t o i v H Q->
  wpAny (model X.prog X.w) X.A (setItem ov iv u) (λ_ s'=>∃H',Inv X ic σ H' s'/\Q H') X.xe s
variable{tg:Expr}
section
variable{X:Cx}{pos:Pos}
def KF(i:Nat):TG:=λv σ H Q=>Q (σ.set i (some v)) H
theorem Xd{i:Nat}{x:Str}(hN:X.N.Nodup)(hi:X.N[i]?=some x)(hx:Loc X.env.scope x)(hf:X.fn x=true\/X.env.scope.names.lookup x=some .local:=by walk_at"h"):PG X (.Name x pos) (KF i):=by
 intro ic s σ H v u Q I r h;exact wpAny_assign_Name (Gu I hN hi hx r (λs' I'=>⟨_,H,I',h⟩) hf)
def dX:TGs:=λvs σ H Q=>vs=[]/\Q σ H
def VG(t:TG)(u:TGs):TGs:=λvs σ H Q=>∃v r,vs=v::r/\t v σ H λσ' H'=>u r σ' H' Q
theorem Xe:PGs X [] dX:=by
 intro ic s σ H vs us Q I r h;clear 5 h e h;subst e
 cases r
 exact assignInOrder_nil ⟨σ,H,I,h⟩
theorem UN{es:List Expr}{t:TG}{u:TGs}(h1:PG X e t)(h2:PGs X es u)
 (hs:(assignEach (e::es) X.env).map (·.2)=assign e X.env::(assignEach es X.env).map (·.2):=by rfl):PGs X (e::es) (VG t u):=by
 intro ic s σ H vs us Q I r h;clear 5 h v vr e1 h;subst e1
 cases r with
 |cons r rr=>
   rw[hs];refine assignInOrder_cons (thn (h1 ic s σ H _ _ _ I r h) λ_ s1 z9=>?_);clear 5 z9 σ1 H1 I1 q1;exact h2 ic s1 σ1 H1 _ _ Q I1 rr q1
def dZ(K:ib)(n:Nat)(t:TGs):TG:=λv σ H Q=>∃a xs,v=.ref a/\SqT K H a xs/\xs.length=n/\t xs σ H Q
theorem ZZ{es:List Expr}{k:Nat}{t:TGs}{n:Nat}(hc:X.calm=true)(h:PGs X es t)
 (hn:(assignEach es X.env).length=n:=by rfl) (hst:(assignEach es X.env).findIdx? (·.1)=none:=by rfl):PG X (.Tuple es k pos) (dZ X.K n t):=by
 intro ic s σ H v u Q I r hw;clear 5 hw a xs e1 hq hl hw;subst e1
 cases r
 clear 5(I.tuple hq)its rv ht hz;refine assign_Tuple_tuple (I.ok.hd hc) ht (by simp[hn,<-hl,rv.length]) hst λh' hx=>?_;have I1:Inv X ic σ H {s with heap:=h'}:=I.kept (t':=s.toks) λb o e=>hx b o (uk8 (uk7 e)) e;exact h ic _ σ H xs _ Q I1 (by simpa using rv) hw
def dY(to ti:TE)(t:Tu):TG:=λv σ H Q=>to σ H λo H1=>ti σ H1 λi H2=>t o i v H2 λH3=>Q σ H3
theorem Sy{o i:Expr}{to ti:TE}{t:Tu}(ho:PE X o to)(hi:PE X i ti)(hs:Tt X t)
 (ha:∀v,assign (.Subscript o i pos) X.env v=(do
   let ov <-holding [v] (eval o X.env)
   let iv <-holding [v,ov] (eval i X.env)
   standAt pos
   holding [v,ov,iv] (setItem ov iv v)
   release [v,ov,iv] []):=by intro _;rfl):PG X (.Subscript o i pos) (dY to ti t):=by
 intro ic s σ H v u Q I r h;rw[ha];refine ul8 (uk6 (thn (ho ic s σ H _ I h) λov s1 z9=>?_));clear 5 z9 x H1 I1 r1 q1;refine ul8 (uk6 (thn (hi ic s1 σ H1 _ I1 q1) λiv s2 z9=>?_));clear 5 z9 y H2 I2 r2 q2;refine ul8 (kx (ul8 (uk6 (thn (hs ic s2 σ H2 x y v ov iv u _ I2 r1 r2 r q2) λ_ s3 z9=>?_))));clear 5 z9 H3 I3 q3;exact wpAny_release ⟨σ,H3,I3,q3⟩
def Od(te:TE)(g:TG):TS:=λD σ H=>te σ H λx H1=>g x σ H1 D.nx
theorem SH{te:TE}{g:TG}(he:PE X e te)(hg:PG X tg g)(hs:swapsWithSole [tg] e pos.line X.env=pure false:=by rfl)(hw:swappedStores [tg] e X.env=pure none:=by rfl)
 (h1:(assignEach [tg] X.env).map (·.2)=[assign tg X.env]:=by rfl):PS X (.Assign [tg] e pos) (Od te g):=by
 intro ic s σ H D I h;refine wpAny_Assign_stores (thn (he ic s σ H _ I h) λv s1 z9=>?_) hs hw;clear 5 z9 x H1 I1 r1 q1;rw[h1];exact thn (hg ic s1 σ H1 x v _ I1 r1 q1) λ_ s2 q=>q
theorem NY{i:Nat}{x:Str}{te:TE}{pos':Pos}(hN:X.N.Nodup)(hi:X.N[i]?=some x)(hx:Loc X.env.scope x)(he:PE X e te)(hs:swapsWith e (some (.Name x pos')) pos.line X.env=pure false:=by rfl)(hf:X.fn x=true\/X.env.scope.names.lookup x=some .local:=by walk_at"h") :
 PS X (.Assign [.Name x pos'] e pos) (Od te (KF i)):=by
 intro ic s σ H D I h;refine wpAny_Assign_Name (thn (he ic s σ H _ I h) λv s1 z9=>?_) hs;clear 5 z9 y H1 I1 r1 q1;exact Gu I1 hN hi hx r1 (λs2 I2=>⟨_,H1,I2,q1⟩) hf
end
section
variable{X:Cx}{pos:Pos}
def Td(c:TT)(tb:TS):TS:=λD σ H=>∃W:Nat->St->Hp->Prop,(∃m,W m σ H)/\∀m σ H,W m σ H->
 c σ H λb H1=>if b=true then ∃N:St->Hp->Prop,(∀σ' H',N σ' H'->∃m',m'<m/\W m' σ' H')/\tb {D with nx:=N,ct:=N,bk:=D.nx} σ H1 else D.nx σ H1
theorem UQ{body:List Stmt}{tc:TT}{tb:TS}(hp:PassesOwn (model X.prog X.w) X.A X.env X.xe)(hc:PT X c tc)(hb:PSs X body tb):PS X (.While c body [] pos) (Td tc tb):=by
 intro ic s σ H D I h;obtain⟨W,⟨m0,w0⟩,turn⟩:=h;refine wpAny_While (codeAny_whileLoop (λn s'=>∃σ' H',Inv X ic σ' H' s'/\W n σ' H') ?_ m0 ⟨σ,H,I,w0⟩);rintro n s1 ⟨σ1,H1,I1,w1⟩;refine kn hp (thn (hc ic s1 σ1 H1 _ I1 (turn n σ1 H1 w1)) λb s2 z9=>?_);clear 5 z9 H2 I2 q2
 cases b with
 |true=>
   clear 5 q2 N hN q2;rw[lJ rfl];refine kn hp (thn (hb ic s2 σ1 H2 _ I2 q2) λf s3 q3=>?_)
   cases f with
   |next=>
     clear 5 q3 σ3 H3 I3 n3;clear 5(hN σ3 H3 n3)m' hm w3;exact⟨m',hm,σ3,H3,I3,w3⟩
   |cont=>
     clear 5 q3 σ3 H3 I3 n3;clear 5(hN σ3 H3 n3)m' hm w3;exact⟨m',hm,σ3,H3,I3,w3⟩
   |brk=>exact q3
   |ret v=>exact q3
 |false=>
   rw[lK ue2];exact km ⟨σ1,H2,I2,q2⟩
end
structure It where
 go:Nat->Hp->Prop
 yld:Nat->Hp->V->Hp->Prop
 stop:Nat->Hp->Prop
def FpOk(X:Cx)(ic:List (ig×Obj))(H:Hp)(b:ig):Prop:=
 H b=none/\b≠X.env.locals/\b∉X.fs/\(b∈X.ex\/X.s₀.heap.objs.size<=b)/\(∀x c,X.env.cells.lookup x=some c->c≠b)/\∀p∈X.pn++ic,p.1≠b
theorem Inv.fpOk{H':Hp}(I:Inv X ic σ H s)(hb:s.heap.objs.size<=b)(hn:H' b=none):FpOk X ic H' b:=by
 refine⟨hn,ul0 (ue0 I.lt hb),I.nofs hb,.inr (uk9 I.sz hb),λx c e z=>?_,λp hp z=>?_⟩
 .clear 5(I.cell x c e)v q;exact absurd (ue0 q.lt (by rw[z];exact hb)) (uj6 _)
 .exact absurd (ue0 (uk7 (I.pin p hp).1) (by rw[z];exact hb)) (uj6 _)
structure Turn(P:im)(w:ir)(K:ib)(tg:Expr)(J:It)(fp:List ig)(it:ig)(tn:Nat->Heap->Prop):Prop where
 mem:it∈fp
 obj:∀i h,tn i h->∀b∈fp,∃o,h.get? b=some o/\∀v,o.data≠.cell v
 keep:∀i h h',tn i h->(∀b∈fp,∀o,h.get? b=some o->h'.get? b=some o)->tn i h'
 item:∀(X:Cx),X.prog=P->X.w=w->X.K=K->X.calm=true->∀(i:Nat) (ic:List (ig×Obj)) (s:ij) (σ:St) (H:Hp) (E:ie->ij->Prop),Inv X ic σ H s->(∀b∈fp,FpOk X ic H b)->tn i s.heap->J.go i H->
  wpAny (model P w) X.A (pyNext (.ref it)) (λr s1=>∃u,r=some u/\
   wpAny (model P w) X.A (letOwnedTupleGo tg (.ref it) u) (λ_ s2=>∃x H',Inv X ic σ H' s2/\RelV x u/\J.yld i H x H'/\tn (i+1) s2.heap/\∀b∈fp,H' b=none) E s1) E s
 done:∀(X:Cx),X.prog=P->X.w=w->X.K=K->X.calm=true->∀(i:Nat) (ic:List (ig×Obj)) (s:ij) (σ:St) (H:Hp) (E:ie->ij->Prop),Inv X ic σ H s->(∀b∈fp,FpOk X ic H b)->tn i s.heap->J.stop i H->
  wpAny (model P w) X.A (pyNext (.ref it)) (λr s1=>r=none/\Inv X ic σ H s1) E s
 self:∀(A:Around) (i:Nat) (s:ij) (Q:ie->ij->Prop) (E:ie->ij->Prop),tn i s.heap->Q (.ref it) s->wpAny (model P w) A (pyIter (.ref it)) Q E s
abbrev TI:=St->Hp->(It->Hp->Prop)->Prop
def PIE(X:Cx)(ic:List (ig×Obj))(σ:St)(tg:Expr)(R:It->Hp->Prop)(itv:ie)(s2:ij):Prop:=
 ∃(it:ig) (fp:List ig) (tn:Nat->Heap->Prop) (J:It) (H':Hp),itv=.ref it/\Inv X ic σ H' s2/\Turn X.prog X.w X.K tg J fp it tn/\tn 0 s2.heap/\(∀b∈fp,FpOk X ic H' b)/\R J H'
def PI(X:Cx)(tg iter:Expr)(wi:TI):Prop:=
 ∀(ic:List (ig×Obj)) (s:ij) (σ:St) (H:Hp) (R:It->Hp->Prop),Inv X ic σ H s->wi σ H R->
  wpAny (model X.prog X.w) X.A (eval iter X.env) (λv s1=>wpAny (model X.prog X.w) X.A (pyIter v) (PIE X ic σ tg R) X.xe s1) X.xe s
theorem MT{M:Model}{A:Around}{it:ig}{o:Obj}{n:String}{vs:Array ie}(ho:s.heap.get? it=some o)(hc:o.cls=.type n)(hd:o.data=.fields vs)
 (hn:["enumerate", "zip", "dict_itemiterator", "dict_reverseitemiterator", "odict_iterator", "itertools.zip_longest", "itertools.pairwise"].contains n=false) (hQ:Q () s):wpAny M A (letOwnedTupleGo tg (.ref it) u) Q E s:=by
 unfold letOwnedTupleGo
 cases tg<;>first
  |exact ul9 hQ
  | (cases u <;> first
      |exact ul9 hQ
      | (refine ul8 (wpAny_load ho ?_)
         rw[hc,hd];show wpAny M A (if (["enumerate", "zip", "dict_itemiterator", "dict_reverseitemiterator", "odict_iterator", "itertools.zip_longest", "itertools.pairwise"].contains n&&vs[0]?==some (rawInt _))=true then _ else _) Q E s;rw[lK (by intro h;rw[hn,uj1] at h;cases h)]
         exact ul9 hQ))
def Itl(K:ib)(a:ig):It:=
 ⟨λi H=>∃xs x,SqL K H a xs/\xs[i]?=some x,λi H x H'=>H'=H/\∀xs,SqL K H a xs->xs[i]?=some x,λi H=>∃xs,SqL K H a xs/\xs.length<=i⟩
def Itt(K:ib)(a:ig):It:=
 ⟨λi H=>∃xs x,SqT K H a xs/\xs[i]?=some x,λi H x H'=>H'=H/\∀xs,SqT K H a xs->xs[i]?=some x,λi H=>∃xs,SqT K H a xs/\xs.length<=i⟩
noncomputable def Itr(lo:Int)(n:Nat):It:=⟨λi _=>i<n,λi H x H'=>H'=H/\x=.int (lo+i),λi _=>n<=i⟩
theorem Tk(a it:ig):Turn P w K tg (Itl K a) [it] it (λi h=>h.IsListIter it a i) where
 mem:=by simp
 obj:=λi h st b hb=>by
  have e:b=it:=by simpa using hb
  subst e;clear 5 st o e c d;exact⟨o,e,λv z=>by rw[d] at z;cases z⟩
 keep:=λi h h' st k=>st.at λo e=>k it (by simp) o e
 item:=by
  intro X hP hw hK hc i ic s σ H E I hf st hg;subst hP hw hK;clear 5 hg xs x hq hx;clear 5(I.list hq)its rv p hz;clear 5(rv.get hx)u hu ru;clear 5(hf it (by simp))f0 f1 f2 f3 f4 f5;refine wpAny_pyNext_list_item st p.isList (x:=u) (by simpa using hu) λh' st' sb=>?_;have I1:Inv X ic σ H {s with heap:=h'}:=I.turned (t':=s.toks) (λb o hb e=>(sb.2 b hb).trans e) f0 f1 f3 f4 f5;clear 5(id st')o e c d;exact⟨u,rfl,MT (s:={s with heap:=h'}) e c d (by decide) ⟨x,H,I1,ru,⟨rfl,λys hy=>by rw[I.list_inj hy hq];exact hx⟩,st',λb hb=>(hf b hb).1⟩⟩
 done:=by
  intro X hP hw hK hc i ic s σ H E I hf st hg;subst hP hw hK;clear 5 hg xs hq hx;clear 5(I.list hq)its rv p hz;clear 5(hf it (by simp))f0 f1 f2 f3 f4 f5;have hl:=rv.length;exact wpAny_pyNext_list_end (I.ok.hd hc) st p.isList (by simp;lia) λh' eb=>⟨rfl,I.turned (t':=s.toks) (λb o hb e=>eb b o hb e) f0 f1 f3 f4 f5⟩
 self:=λ_ _ _ _ _ st h=>wpAny_pyIter_listiter st h
theorem QH(a it:ig):Turn P w K tg (Itt K a) [it] it (λi h=>h.IsTupleIter it a i) where
 mem:=by simp
 obj:=λi h st b hb=>by
  have e:b=it:=by simpa using hb
  subst e;clear 5 st o e c d;exact⟨o,e,λv z=>by rw[d] at z;cases z⟩
 keep:=λi h h' st k=>st.at λo e=>k it (by simp) o e
 item:=by
  intro X hP hw hK hc i ic s σ H E I hf st hg;subst hP hw hK;clear 5 hg xs x hq hx;clear 5(I.tuple hq)its rv p hz;clear 5(rv.get hx)u hu ru;clear 5(hf it (by simp))f0 f1 f2 f3 f4 f5;refine wpAny_pyNext_tuple_item st (show s.heap.IsTuple a its.toArray from p) (x:=u) (by simpa using hu) λh' st' sb=>?_;have I1:Inv X ic σ H {s with heap:=h'}:=I.turned (t':=s.toks) (λb o hb e=>(sb.2 b hb).trans e) f0 f1 f3 f4 f5;clear 5(id st')o e c d;exact⟨u,rfl,MT (s:={s with heap:=h'}) e c d (by decide) ⟨x,H,I1,ru,⟨rfl,λys hy=>by rw[I.tuple_inj hy hq];exact hx⟩,st',λb hb=>(hf b hb).1⟩⟩
 done:=by
  intro X hP hw hK hc i ic s σ H E I hf st hg;subst hP hw hK;clear 5 hg xs hq hx;clear 5(I.tuple hq)its rv p hz;clear 5(hf it (by simp))f0 f1 f2 f3 f4 f5;have hl:=rv.length;exact wpAny_pyNext_tuple_end (I.ok.hd hc) st (show s.heap.IsTuple a its.toArray from p) (by simp;lia) λh' eb=>⟨rfl,I.turned (t':=s.toks) (λb o hb e=>eb b o hb e) f0 f1 f3 f4 f5⟩
 self:=λ_ _ _ _ _ st h=>wpAny_pyIter_tupleiter st h
theorem QG(it:ig)(lo:Int)(n:Nat):Turn P w K tg (Itr lo n) [it] it (λi h=>IsRangeIter h it (lo+(i:Nat)*1) ((n:Int)-(i:Nat)) 1) where
 mem:=by simp
 obj:=λi h st b hb=>by
  have e:b=it:=by simpa using hb
  subst e;exact⟨_,st,λv z=>by
   have z':Data.fields _=Data.cell v:=z
   cases z'⟩
 keep:=λi h h' st k=>k it (by simp) _ st
 item:=by
  intro X hP hw hK hc i ic s σ H E I hf st hg;subst hP hw hK;clear 5(hf it (by simp))f0 f1 f2 f3 f4 f5;have W:=Walks.range (prog:=X.prog) (w:=X.w) (I.ok.hd hc) it lo 1 n;refine W.item i s _ _ hg st λv h' tk hv st' kk=>?_;clear 5 hv t rfl;have I1:Inv X ic σ H {s with heap:=h',toks:=tk}:=I.turned (λb o hb e=>kk b o (by simpa using hb) e) f0 f1 f3 f4 f5;refine⟨_,rfl,MT (s:={s with heap:=h',toks:=tk}) (n:="range_iterator") st' rfl rfl (by decide) ⟨.int (lo+i),H,I1,⟨t,?_⟩,⟨rfl,rfl⟩,st',λb hb=>(hf b hb).1⟩⟩;rw[Int.mul_one]
 done:=by
  intro X hP hw hK hc i ic s σ H E I hf st hg;subst hP hw hK;clear 5(hf it (by simp))f0 f1 f2 f3 f4 f5;exact wpAny_pyNext_range_end (I.ok.hd hc) st (by have:n<=i:=hg;lia) λh' eb=>⟨rfl,I.turned (t':=s.toks) (λb o hb e=>eb b o hb e) f0 f1 f3 f4 f5⟩
 self:=λ_ _ _ _ _ st h=>wpAny_pyIter_rangeiter st h
variable{fp:List ig}
section
variable{X:Cx}{tg:Expr}
theorem NZ{R:It->Hp->Prop}{lo hi:Int}{t u v:Tok}{tk:Nat}(I:Inv X ic σ H s)(h1 : -(2 ^ 62)<=lo)(h2:lo<2 ^ 62)(h3 : -(2 ^ 62)<=hi)(h4:hi<2 ^ 62)
 (q:R (Itr lo (hi-lo).toNat) H):wpAny (model X.prog X.w) X.A (pyIter (.ref s.heap.objs.size)) (PIE X ic σ tg R) E {s with heap:=s.heap.push {cls:=.type "range",data:=.fields #[.int lo t,.int hi u,.int 1 v]},toks:=tk}:=by
 refine wpAny_pyIter_range (IsRange.new ..) (small_one h1 h2 h3 h4) ?_;have I1:Inv X ic σ H {s with heap:=s.heap.push {cls:=.type "range",data:=.fields #[.int lo t,.int hi u,.int 1 v]},toks:=tk}:=I.kept λb o e=>ub9 _ e;refine⟨(s.heap.push {cls:=.type "range",data:=.fields #[.int lo t,.int hi u,.int 1 v]}).objs.size,[(s.heap.push {cls:=.type "range",data:=.fields #[.int lo t,.int hi u,.int 1 v]}).objs.size],_,_,H,rfl,
  I1.kept (t':=tk) λb o e=>ub9 _ e,QG _ lo (hi-lo).toNat,?_,λb hb=>?_,q⟩
 .have e1:lo+((0:Nat):Int)*1=lo:=by simp
  have e2:(((hi-lo).toNat:Nat):Int)-((0:Nat):Int)=Builtin.Range.rangeSize lo hi 1:=by rw[rangeSize_one];split<;>lia
  show IsRangeIter _ _ (lo+((0:Nat):Int)*1) ((((hi-lo).toNat:Nat):Int)-((0:Nat):Int)) 1;rw[e1,e2];exact ud6 _ rfl
 .have e:b=(s.heap.push {cls:=.type "range",data:=.fields #[.int lo t,.int hi u,.int 1 v]}).objs.size:=by simpa using hb
  subst e;exact I1.fpOk (ul4 _) (I1.hok.fresh (ul4 _))
def bE(ta:TA):TI:=λσ H R=>ta σ H λvs H1=>∃j:Int,vs=[.int j]/\-(2 ^ 62)<=j/\j<2 ^ 62/\R (Itr 0 j.toNat) H1
def bF(ta:TA):TI:=λσ H R=>ta σ H λvs H1=>∃i j:Int,vs=[.int i,.int j]/\(-(2 ^ 62)<=i/\i<2 ^ 62/\-(2 ^ 62)<=j/\j<2 ^ 62)/\R (Itr i (j-i).toNat) H1
theorem SA{a:Expr}{ta:TA}{p pos:Pos}(hg:Gl X "range")(hm:X.mg "range" = none)(ha:PA X [a] ta)(hs:starEach [a] X.env=[(false,eval a X.env)]:=by rfl):PI X tg (.Call (.Name "range" p) [a] [] pos) (bE ta):=by
 intro ic s σ H R I h;refine Call_ (G8 I hg hm boot_range (ua3 (thn (ha pos ic s σ H _ I h) λus s1 z9=>?_) hs rfl));clear 5 z9 vs H1 I1 r1 q1;clear 5 q1 j e q1 q2 q;subst e
 cases r1 with
 |cons r rr=>
   cases rr
   clear 5 r t rfl;exact call_range_1 (NZ I1 ∅ ∅ q1 q2 (by simpa using q))
theorem SC{a b:Expr}{ta:TA}{p pos:Pos}(hg:Gl X "range")(hm:X.mg "range" = none)(ha:PA X [a,b] ta)(hs:starEach [a,b] X.env=[(false,eval a X.env),(false,eval b X.env)]:=by rfl)(hs2:starEach [b] X.env=[(false,eval b X.env)]:=by rfl) :
 PI X tg (.Call (.Name "range" p) [a,b] [] pos) (bF ta):=by
 intro ic s σ H R I h;refine Call_ (G8 I hg hm boot_range (ua3 (thn (ha pos ic s σ H _ I h) λus s1 z9=>?_) (by rw[hs,hs2]) (by rw[hs2];rfl)));clear 5 z9 vs H1 I1 r1 q1;obtain⟨i,j,e,⟨q1,q2,q3,q4⟩,q⟩:=q1;subst e
 cases r1 with
 |cons r rr=>
   cases rr with
   |cons r' rr=>
     cases rr
     clear 5 r t rfl;clear 5 r' t' rfl;exact call_range_2 (NZ I1 q1 q2 q3 q4 q)
def Vh(wi:TI)(g:TG)(tb:TS):TS:=λD σ H=>wi σ H λJ H1=>∃W:Nat->Nat->St->Hp->Prop,(∃m,W 0 m σ H1)/\∀i m σ H,W i m σ H->
 (J.stop i H/\D.nx σ H)\/(J.go i H/\∃N:St->Hp->Prop,(∀σ' H',N σ' H'->∃m',m'<m/\W (i+1) m' σ' H')/\∀x H',J.yld i H x H'->g x σ H' λσ2 H2=>tb {D with nx:=N,ct:=N,bk:=D.nx} σ2 H2)
noncomputable def IM(fp:List ig)(h:Heap):List (ig×Obj):=fp.filterMap λb=>(h.get? b).map λo=>(b,o)
theorem FU{o:Obj}(hb:b∈fp)(e:h.get? b=some o):(b,o)∈IM fp h:=List.mem_filterMap.mpr ⟨b,hb,by rw[e];rfl⟩
theorem Sn{p:ig×Obj}(hp:p∈IM fp h):p.1∈fp/\h.get? p.1=some p.2:=by
 clear 5(List.mem_filterMap.mp hp)b hb e
 cases q:h.get? b with
 |none=>rw[q] at e;cases e
 |some o=>
   rw[q] at e;have e':(b,o)=p:=uh6 e;subst e';exact⟨hb,q⟩
theorem Inv.pinned(I:Inv X ic σ H s)(hf:∀b∈fp,FpOk X ic H b)(ho:∀b∈fp,∃o,s.heap.get? b=some o/\∀v,o.data≠.cell v):Inv X (ic++IM fp s.heap) σ H s:=
 I.pins_of λp hp=>(uh5.mp hp).elim (λz=>I.pin p (uc5 _ z)) λz=>by
  clear 5(Sn z)hb e;obtain⟨f0,f1,f2,_⟩:=hf p.1 hb;clear 5(ho p.1 hb)o e' d;rw[e] at e';cases e'
  exact⟨e,f0,f1,f2,d⟩
theorem Inv.unpinned{pl:List (ig×Obj)}(I:Inv X (ic++pl) σ H s):Inv X ic σ H s:=I.pins_of λp hp=>I.pin p (uc5 _ (List.mem_append_left _ hp))
theorem SI{iter:Expr}{body:List Stmt}{wi:TI}{g:TG}{tb:TS}{pos:Pos}(hp:PassesOwn (model X.prog X.w) X.A X.env X.xe)(hc:X.calm=true)(hi:PI X tg iter wi)(hg:PG X tg g)(hb:PSs X body tb)
 (hs:∀x,foldedSetIterable iter X.env x=pure x:=by intro _;rfl):PS X (.For tg iter body [] pos) (Vh wi g tb):=by
 intro ic s σ H D I h;refine wpAny_For (thn (hi ic s σ H _ I h) λv s1 h1=>thn h1 λitv s2 h2=>?_) hs;obtain⟨it,fp,tn,J,H2,e,I2,T,st2,f2,W,⟨m0,w0⟩,turn⟩:=h2;subst e
 -- what stays true of the iterator's objects through the loop
 have stat:∀{H':Hp},(∀b∈fp,H' b=none)->∀b∈fp,FpOk X ic H' b:=λhn b hb=>⟨hn b hb,(f2 b hb).2⟩;refine codeAny_forLoop_any (λn s'=>∃i σ' H',Inv X ic σ' H' s'/\tn i s'.heap/\(∀b∈fp,H' b=none)/\W i n σ' H') ?_ m0 ⟨0,σ,H2,I2,st2,λb hb=>(f2 b hb).1,w0⟩;rintro n s3 ⟨i,σ3,H3,I3,st3,fr3,w3⟩;rcases turn i n σ3 H3 w3 with⟨stop,qn⟩|⟨go,N,hN,step⟩
 .refine kn hp (thn (T.done X rfl rfl rfl hc i ic s3 σ3 H3 X.xe I3 (stat fr3) st3 stop) λr s4 z9=>?_);clear 5 z9 hr I4;subst hr;exact km ⟨σ3,H3,I4,qn⟩
 .refine kn hp (thn (T.item X rfl rfl rfl hc i ic s3 σ3 H3 X.xe I3 (stat fr3) st3 go) λr s4 z9=>?_);clear 5 z9 u hr h4;subst hr;refine kn hp (thn h4 λ_ s5 z9=>?_);clear 5 z9 x H5 I5 r5 y5 st5 fr5;have I5':=I5.pinned (stat fr5) (T.obj _ _ st5);refine kn hp (thn (hg _ s5 σ3 H5 x u _ I5' r5 (step x H5 y5)) λ_ s6 z9=>?_);clear 5 z9 σ6 H6 I6 q6;refine kn hp (thn (hb _ s6 σ6 H6 _ I6 q6) λf s7 q7=>?_);have again:∀{σ7:St}{H7:Hp},Inv X (ic++IM fp s5.heap) σ7 H7 s7->N σ7 H7->∃m,m<n/\∃i σ' H',Inv X ic σ' H' s7/\tn i s7.heap/\(∀b∈fp,H' b=none)/\W i m σ' H':=λ{σ7 H7} I7 n7=>by
   clear 5(hN σ7 H7 n7)m' hm w7;refine⟨m',hm,i+1,σ7,H7,I7.unpinned,T.keep _ _ _ st5 λb hb o e=>(I7.pin (b,o) (uc5 _ (uc5 _ (FU hb e)))).1,λb hb=>?_,w7⟩;clear 5(T.obj _ _ st5 b hb)o e d;exact(I7.pin (b,o) (uc5 _ (uc5 _ (FU hb e)))).2.1
  cases f with
  |next=>clear 5 q7 σ7 H7 I7 n7;exact again I7 n7
  |cont=>clear 5 q7 σ7 H7 I7 n7;exact again I7 n7
  |brk=>clear 5 q7 σ7 H7 I7 q7;exact⟨σ7,H7,I7.unpinned,q7⟩
  |ret v=>clear 5 q7 x7 σ7 H7 I7 r7 q7;exact⟨x7,σ7,H7,I7.unpinned,r7,q7⟩
end
abbrev R2:=V->V->Hp->VK->Prop
def OpR(X:Cx)(f:ie->ie->Sem ie)(r:R2):Prop:=
 ∀(ic:List (ig×Obj)) (s:ij) (σ:St) (H:Hp) (x y:V) (v u:ie) (Q:VK),Inv X ic σ H s->RelV x v->RelV y u->r x y H Q->
  wpAny (model X.prog X.w) X.A (f v u) (EP X ic σ Q) X.xe s
def UnR(X:Cx)(f:ie->Sem ie)(r:V->Hp->VK->Prop):Prop:=
 ∀(ic:List (ig×Obj)) (s:ij) (σ:St) (H:Hp) (x:V) (v:ie) (Q:VK),Inv X ic σ H s->RelV x v->r x H Q->
  wpAny (model X.prog X.w) X.A (f v) (EP X ic σ Q) X.xe s
def Dv(X:Cx)(f:ie)(r:List V->Hp->VK->Prop):Prop:=
 ∀(ic:List (ig×Obj)) (s:ij) (σ:St) (H:Hp) (xs:List V) (us:List ie) (Q:VK),Inv X ic σ H s->Vals xs us->r xs H Q->
  wpAny (model X.prog X.w) X.A (call f us) (EP X ic σ Q) X.xe s
def tOp(r:R2)(ta tb:TE):TE:=λσ H Q=>ta σ H λx H1=>tb σ H1 λy H2=>r x y H2 Q
def tUn(r:V->Hp->VK->Prop)(ta:TE):TE:=λσ H Q=>ta σ H λx H1=>r x H1 Q
def rI(C:Int->Int->Prop)(g:Int->Int->V):R2:=λx y H Q=>∃i j,x=.int i/\y=.int j/\C i j/\Q (g i j) H
def rI0(g:Int->Int->V):R2:=λx y H Q=>∃i j,x=.int i/\y=.int j/\Q (g i j) H
def rU(g:Int->V):V->Hp->VK->Prop:=λx H Q=>∃i,x=.int i/\Q (g i) H
variable{r:R2}{f:ie->ie->Sem ie}
section
variable{X:Cx}{a b c:Expr}{ta tb tc:TE}{pos:Pos}
theorem TC(ha:PE X a ta)(hb:PE X b tb){ic:List (ig×Obj)}{s:ij}{σ:St}{H:Hp}{R:V->V->Hp->Prop}(I:Inv X ic σ H s)
 (h:ta σ H λx H1=>tb σ H1 λy H2=>R x y H2){Q:ie->ij->Prop}{f:ie->ie->Sem ie}
 (hf:∀v u s2 x y H2,Inv X ic σ H2 s2->RelV x v->RelV y u->R x y H2->wpAny (model X.prog X.w) X.A (f v u) Q X.xe s2) :
 wpAny (model X.prog X.w) X.A (eval a X.env) (λv s₁=>wpAny (model X.prog X.w) X.A (eval b X.env) (λu s₂=>wpAny (model X.prog X.w) X.A (f v u) Q X.xe s₂) X.xe s₁) X.xe s:=by
 refine thn (ha ic s σ H _ I h) λv s1 z9=>?_;clear 5 z9 x H1 I1 r1 q1;refine thn (hb ic s1 σ H1 _ I1 q1) λu s2 z9=>?_;clear 5 z9 y H2 I2 r2 q2;exact hf v u s2 x y H2 I2 r1 r2 q2
theorem Qk{op:Operator}(ho:OpR X (binaryOp op) r)(ha:PE X a ta)(hb:PE X b tb):PE X (.BinOp a op b pos) (tOp r ta tb):=by
 intro ic s σ H Q I h;exact wpAny_BinOp (TC ha hb I h λv u s2 x y H2 I2 rx ry q=>ho ic s2 σ H2 x y v u Q I2 rx ry q)
theorem bN{op:UnaryOp}{r:V->Hp->VK->Prop}(ho:UnR X (unaryOp op) r)(ha:PE X a ta):PE X (.UnaryOp op a pos) (tUn r ta):=by
 intro ic s σ H Q I h;exact UnaryOp_ (thn (ha ic s σ H _ I h) λv s1 z9=>by clear 5 z9 x H1 I1 r1 q1;exact ho ic s1 σ H1 x v Q I1 r1 q1)
theorem opI{C:Int->Int->Prop}{g:Int->Int->Int}
 (rule:∀(i j:Int) (t u:Tok) (s:ij) (Q:ie->ij->Prop) (E:ie->ij->Prop),C i j->Q (.int (g i j) s.toks) {s with toks:=s.toks+1}->wpAny (model X.prog X.w) X.A (f (.int i t) (.int j u)) Q E s) :
 OpR X f (rI C λi j=>.int (g i j)):=by
 intro ic s σ H x y v u Q I rx ry h;clear 5 h i j rfl rfl hc q;clear 5 rx t rfl;clear 5 ry t' rfl;exact rule i j t t' s _ _ hc ⟨.int (g i j),H,I.tok _,⟨_,rfl⟩,q⟩
theorem ZD{g:Int->Int->Int}
 (rule:∀(i j:Int) (t u:Tok) (s:ij) (Q:ie->ij->Prop) (E:ie->ij->Prop),Q (.int (g i j) s.toks) {s with toks:=s.toks+1}->wpAny (model X.prog X.w) X.A (f (.int i t) (.int j u)) Q E s) :
 OpR X f (rI0 λi j=>.int (g i j)):=by
 intro ic s σ H x y v u Q I rx ry h;clear 5 h i j rfl rfl q;clear 5 rx t rfl;clear 5 ry t' rfl;exact rule i j t t' s _ _ ⟨.int (g i j),H,I.tok _,⟨_,rfl⟩,q⟩
theorem Qj{g:Int->Int->Bool}
 (rule:∀(i j:Int) (t u:Tok) (s:ij) (Q:ie->ij->Prop) (E:ie->ij->Prop),Q (.bool (g i j)) s->wpAny (model X.prog X.w) X.A (f (.int i t) (.int j u)) Q E s) :
 OpR X f (rI0 λi j=>.bl (g i j)):=by
 intro ic s σ H x y v u Q I rx ry h;clear 5 h i j rfl rfl q;clear 5 rx t rfl;clear 5 ry t' rfl;exact rule i j t t' s _ _ ⟨.bl (g i j),H,I,rfl,q⟩
def Yk(i j:Int):Prop:=0<j/\j<1073741824
def Yl(i j:Int):Prop:=0<=j/\j<=1000000/\i.natAbs<2 ^ 64
def CMul(i j:Int):Prop:=(-(2 ^ 64)<i/\i<2 ^ 64)\/(-(2 ^ 64)<j/\j<2 ^ 64)
theorem CMul.ok{i j:Int}(h:CMul i j):IntMulOk i j:=by
 rcases h with⟨h1,h2⟩|⟨h1,h2⟩
 .exact .of_left (intBits_le_64 h1 h2)
 .exact .of_right (intBits_le_64 h1 h2)
theorem two_pow_nn(k:Nat):(0:Int)<=2 ^ k:=by
 rw[two_pow_cast];exact Int.natCast_nonneg _
theorem op_add:OpR X (binaryOp .Add) (rI0 λi j=>.int (i+j)):=ZD λ_ _ _ _ _ _ _ q=>add_int q
theorem ZN:OpR X (binaryOp .Sub) (rI0 λi j=>.int (i-j)):=ZD λ_ _ _ _ _ _ _ q=>sub_int q
theorem ZJ:OpR X (binaryOp .Mult) (rI CMul λi j=>.int (i*j)):=opI λ_ _ _ _ _ _ _ hc q=>mul_int q hc.ok
theorem W3:OpR X (binaryOp .FloorDiv) (rI Yk λi j=>.int (i/j)):=opI λi j _ _ _ _ _ hc q=>by
 have h1:(0:Int)<j:=hc.1;have h2:j<1073741824:=hc.2;exact floordiv_int ∅ (by rw[ja i ∅];exact q) (.inl (PyProof.noPylong_small ∅))
theorem ZI:OpR X (binaryOp .Mod) (rI (λ_ j=>0<j) λi j=>.int (i%j)):=opI λi j _ _ _ _ _ hc q=>by
 have h1:(0:Int)<j:=hc;exact mod_int' ∅ (by rw[Int.fmod_eq_emod_of_nonneg i ∅];exact q)
theorem ZK:OpR X (binaryOp .Pow) (rI Yl λi j=>.int (i ^ j.toNat)):=opI λ_ _ _ _ _ _ _ hc q=>pow_int_small hc.1 hc.2.1 hc.2.2 q
theorem ZM:OpR X (binaryOp .RShift) (rI (λ_ j=>0<=j) λi j=>.int (i/2 ^ j.toNat)):=opI λi j _ _ _ _ _ hc q=>
 rshift_int hc (by rw[ja i (two_pow_nn _)];exact q)
theorem unI{f:ie->Sem ie}{g:Int->Int}
 (rule:∀(i:Int) (t:Tok) (s:ij) (Q:ie->ij->Prop) (E:ie->ij->Prop),Q (.int (g i) s.toks) {s with toks:=s.toks+1}->wpAny (model X.prog X.w) X.A (f (.int i t)) Q E s) :
 UnR X f (rU λi=>.int (g i)):=by
 intro ic s σ H x v Q I rx h;clear 5 h i rfl q;clear 5 rx t rfl;exact rule i t s _ _ ⟨.int (g i),H,I.tok _,⟨_,rfl⟩,q⟩
theorem aG:UnR X (unaryOp .USub) (rU λi=>.int (-i)):=unI λ_ _ _ _ _ q=>neg_int q
end
variable{op:CmpOp}{us:List ie}
section
variable{X:Cx}{a b c:Expr}{ta tb tc:TE}{pos:Pos}
theorem op_lt:OpR X (compareOp .Lt) (rI0 λi j=>.bl (decide (i<j))):=Qj λ_ _ _ _ _ _ _ q=>lt_int q
theorem op_le:OpR X (compareOp .LtE) (rI0 λi j=>.bl (decide (i<=j))):=Qj λ_ _ _ _ _ _ _ q=>le_int q
theorem op_gt:OpR X (compareOp .Gt) (rI0 λi j=>.bl (decide (j<i))):=Qj λ_ _ _ _ _ _ _ q=>gt_int q
theorem op_ge:OpR X (compareOp .GtE) (rI0 λi j=>.bl (decide (j<=i))):=Qj λ_ _ _ _ _ _ _ q=>ge_int q
theorem OpR.or{r':R2}(h:OpR X f r)(h':OpR X f r'):OpR X f (λx y H Q=>r x y H Q\/r' x y H Q):=by
 intro ic s σ H x y v u Q I rx ry q;rcases q with q|q
 .exact h ic s σ H x y v u Q I rx ry q
 .exact h' ic s σ H x y v u Q I rx ry q
theorem DQ(b:Expr){op:CmpOp}(h:op≠.In:=by decide)(h2:op≠.NotIn:=by decide):behindInMarks op b=false:=by
 have e1:(op==CmpOp.In)=false:=by cases op<;>first|rfl|exact absurd rfl h
 have e2:(op==CmpOp.NotIn)=false:=by cases op<;>first|rfl|exact absurd rfl h2
 cases b<;>simp[behindInMarks,e1,e2]
theorem W9(ho:OpR X (compareOp op) r)(ha:PE X a ta)(hb:PE X b tb)(hm:behindInMarks op b=false):PE X (.Compare a [op] [b] pos) (tOp r ta tb):=by
 intro ic s σ H Q I h;exact wpAny_Compare1 (TC ha hb I h λv u s2 x y H2 I2 rx ry q=>ho ic s2 σ H2 x y v u Q I2 rx ry q) hm
def ck(t:TE):TT:=λσ H Q=>t σ H λx H'=>∃k,x=.bl k/\Q k H'
theorem Xq(ho:OpR X (compareOp op) r)(ha:PE X a ta)(hb:PE X b tb)(hm:behindInMarks op b=false):PT X (.Compare a [op] [b] pos) (ck (tOp r ta tb)):=by
 intro ic s σ H Q I h;refine wpAny_isTrue_Compare1 (thn (ha ic s σ H _ I h) λv s1 ⟨x,H1,I1,r1,q1⟩=>thn (hb ic s1 σ H1 _ I1 q1) λu s2 ⟨y,H2,I2,r2,q2⟩=>
  thn (ho ic s2 σ H2 x y v u _ I2 r1 r2 q2) λc s3 ⟨z,H3,I3,r3,k,e,q3⟩=>?_) hm
 subst e
 cases r3
 exact ke ⟨H3,I3,q3⟩
def Tc(r r':R2)(ta tb tc:TE):TE:=λσ H Q=>ta σ H λx H1=>tb σ H1 λy H2=>r x y H2 λz H3=>∃k,z=.bl k/\
 (if k=true then tc σ H3 λw' H4=>r' y w' H4 Q else Q (.bl false) H3)
theorem UI{op':CmpOp}{r':R2}(ho:OpR X (compareOp op) r)(ho':OpR X (compareOp op') r')(ha:PE X a ta)(hb:PE X b tb)(hc:PE X c tc)
 (hm:lastMarks [op,op'] [b,c]=false:=by with_unfolding_all rfl):PE X (.Compare a [op,op'] [b,c] pos) (Tc r r' ta tb tc):=by
 intro ic s σ H Q I h;refine Compare_chain (thn (ha ic s σ H _ I h) λv s1 ⟨x,H1,I1,r1,q1⟩=>chain_link (thn (hb ic s1 σ H1 _ I1 q1) λu s2 ⟨y,H2,I2,r2,q2⟩=>
  thn (ho ic s2 σ H2 x y v u _ I2 r1 r2 q2) λd s3 ⟨z,H3,I3,r3,k,e,q3⟩=>?_)) hm
 subst e
 cases r3
 refine ke ?_
 cases k with
 |false=>exact ite_ff ⟨.bl false,H3,I3,rfl,q3⟩
 |true=>exact ite_tt (chain_last (thn (hc ic s3 σ H3 _ I3 q3) λw' s4 z9=>by clear 5 z9 z' H4 I4 r4 q4;exact ho' ic s4 σ H4 y z' u w' Q I4 r2 r4 q4))
theorem Iz:(sizeLine:Nat)<2 ^ 63:=by rw[lp];decide
theorem op_add_str:OpR X (binaryOp .Add) (λx y H Q=>∃i j,x=.str i/\y=.str j/\i.length+j.length<=sizeLine/\Q (.str (i++j)) H):=by
 intro ic s σ H x y v u Q I rx ry h;clear 5 h i j rfl rfl hz q;clear 5 rx t rfl;clear 5 ry t' rfl;exact add_str (λt' tk=>⟨.str (i++j),H,I.tok _,⟨_,rfl⟩,q⟩) hz
theorem HL{x:V}(r:Vals [x] us):∃u,us=[u]/\RelV x u:=by
 cases r with
 |cons r1 r2=>cases r2;exact⟨_,rfl,r1⟩
theorem VY{x y:V}(r:Vals [x,y] us):∃u w',us=[u,w']/\RelV x u/\RelV y w':=by
 cases r with
 |cons r1 r2=>
   cases r2 with
   |cons r3 r4=>cases r4;exact⟨_,_,rfl,r1,r3⟩
theorem Rb:Dv X (.type "int") (λxs H Q=>(∃i,xs=[.int i]/\Q (.int i) H)\/∃k,xs=[.bl k]/\Q (.int (if k then 1 else 0)) H):=by
 intro ic s σ H xs us Q I r h;rcases h with⟨i,rfl,q⟩|⟨k,rfl,q⟩
 .clear 5(HL r)u rfl t rfl;exact call_int_int ⟨.int i,H,I,⟨_,rfl⟩,q⟩
 .obtain⟨u,rfl,r1⟩:=HL r
  cases r1
  exact call_int_bool ⟨.int (if k then 1 else 0),H,I.tok _,⟨_,rfl⟩,q⟩
theorem TL:Dv X (.builtin "ord") (λxs H Q=>∃x,xs=[.str x]/\x.length=1/\Q (.int (x.cps.getD 0 0:Nat)) H):=by
 intro ic s σ H xs us Q I r h;clear 5 h x rfl hz q;clear 5(HL r)u rfl t rfl;exact ord_of_one hz ⟨.int _,H,I.tok _,⟨_,rfl⟩,q⟩
def Yo(K:ib)(x:V)(H:Hp)(n:Nat):Prop:=
 match x with
 |.str y=>y.length<=sizeLine/\n=y.length
 |.byt y=>y.size<=sizeLine/\n=y.size
 |.ref p=>(∃xs,SqL K H p xs/\n=xs.length)\/∃xs,SqT K H p xs/\n=xs.length
 |_=>False
theorem TK:Dv X (.builtin "len") (λxs H Q=>∃x n,xs=[x]/\Yo X.K x H n/\Q (.int n) H):=by
 intro ic s σ H xs us Q I r h;clear 5 h x n rfl e q;clear 5(HL r)u rfl rx;have hl:=Iz;have hs:sizeLine=16777216:=lp
 cases x with
 |str y=>
   clear 5 rx t rfl;obtain⟨hy,e'⟩:y.length<=sizeLine/\n=y.length:=e;subst e';exact len_str ∅ ⟨.int _,H,I.tok _,⟨_,rfl⟩,q⟩
 |byt y=>
   clear 5 rx t rfl;obtain⟨hy,e'⟩:y.size<=sizeLine/\n=y.size:=e;subst e';exact PySem.W.len_bytes ∅ ⟨.int _,H,I.tok _,⟨_,rfl⟩,q⟩
 |ref p=>
   cases rx
   have e':(∃xs,SqL X.K H p xs/\n=xs.length)\/∃xs,SqT X.K H p xs/\n=xs.length:=e;rcases e' with⟨xs,hx,e'⟩|⟨xs,hx,e'⟩
   .subst e';clear 5(I.list hx)its r' pl hz;have hlen:=r'.length;exact Calls.call_len_list pl.isList (by simp only[uf1];lia) ⟨.int xs.length,H,I.tok _,⟨_,by simp only[uf1];rw[hlen]⟩,q⟩
   .subst e';clear 5(I.tuple hx)its r' pl hz;have hlen:=r'.length;exact len_tuple pl (by simp only[uf1];lia) ⟨.int xs.length,H,I.tok _,⟨_,by simp only[uf1];rw[hlen]⟩,q⟩
 |_=>exact(show False from e).elim
end
structure ObjM(h:Heap)(x dx C:ig)(mA:Str->Option ie):Prop where
 obj:h.get? x=some (PySem.W.instObj C dx)
 ns:h.Ns1 dx mA
 ne:dx≠x
set_option tactic.hygienic true in
theorem GH{dx:ig}{mA:Str->Option ie}(n:h.Ns1 dx mA):∃od,h.get? dx=some od/\∀name,PySem.W.lookIn name od=some (mA name):=by
 obtain⟨o,es,ep,ho,hd,hk,_,hm⟩:=n;refine⟨o,ho,λname=>?_⟩;have e:=hm name;unfold nsFind findBy at e;rw[<-ue3] at e;unfold PySem.W.lookIn;rw[hd];dsimp only
 split
 .rename_i y q;rw[q] at e;exact lD some e
 .rename_i q;rw[q] at e;have a:es.toList.any (·.refKey)=false:=by
   rw[List.any_eq_false];intro y hy;clear 5(hk y (Array.mem_toList_iff.mp hy))z t hkey;simp[DictEntry.refKey,hkey]
  have a':¬es.toList.any (·.refKey)=true:=by rw[a];exact ue2
  rw[lK a'];exact lD some e
variable{C:ig}
theorem ObjM.look{x dx:ig}{mA:Str->Option ie}(I:ObjM h x dx C mA):∃od,PySem.W.InstAt h x (PySem.W.instObj C dx) C (some od)/\∀name,PySem.W.lookIn name od=some (mA name):=
 let ⟨od,ho,hl⟩:=GH I.ns
 ⟨od,⟨I.obj,rfl,rfl,ho⟩,hl⟩
variable{pl:Sem Bool}{kw:List (Str×ie)}
section
variable{prog:im}{w:ir}{A:Around}{E:ie->ij->Prop}{s:ij}{K:ib}{x dx C f:ig}{mA:Str->Option ie}{name:Str}{v:ie}
theorem WB{expr:Bool}{Q:ie->ij->Prop}(X:K.In s.heap)(I:ObjM s.heap x dx C mA)(hg:PySem.W.plainGet K C name=true)(hh:PySem.W.hasDictIn K C=true)
 (ha:PySem.W.findIn K (.ref C) name=some none) (hv:mA name=some v) (hv':PySem.W.handedIn v=true) (h:Q v {s with toks:=s.toks+1}) :
 wpAny (model prog w) A (getAttr (.ref x) name expr) Q E s:=by
 clear 5 I.look od J hl;exact PySem.W.get_value X J (ud7 hg).1 (PySem.W.findObj_own hh ha rfl (by rw[hl,hv])) hv' h
theorem Ud{Q:ie×List ie->ij->Prop}(X:K.In s.heap)(I:ObjM s.heap x dx C mA)(hg:PySem.W.plainGet K C name=true)
 (hf:PySem.W.findIn K (.ref C) name=some (some (.ref f))) (ht:PySem.W.isFn K (.ref f)=true) (hv:mA name=none) (h:Q (.ref f,[.ref x]) s) :
 wpAny (model prog w) A (getMethod (.ref x) name pl) Q E s:=by
 clear 5 I.look od J hl;exact PySem.W.method_fn X J (ud7 hg).1 (ud7 hg).2 hf (lv.mp ht) (by show(PySem.W.lookIn name od).map (·.isSome)=some false;rw[hl,hv];rfl) h
theorem XW{ns:List Str}(X:K.In s.heap)(I:ObjM s.heap x dx C mA)
 (hs:PySem.W.findIn K (.ref C) "__setattr__" = some (some (.builtin "object.__setattr__"))) (hp:PySem.W.plainOver K C=true) (ht:PySem.W.takerIn K C name=some none) (hh:PySem.W.hasDictIn K C=true)
 (hw:PySem.Within mA ns) (hsz:ns.length<=sizeLine)
 (h:∀h',ObjM h' x dx C (λy=>if y=name then some v else mA y)->Heap.SameBut dx s.heap h'->Q () {s with heap:=h',toks:=s.toks+2}) :
 wpAny (model prog w) A (setAttr (.ref x) name v) Q E s:=by
 clear 5 I.look od J hl;refine PySem.W.set_plain X J hs (PySem.W.osa_open (s:={s with toks:=s.toks+1}) (r:=none) X J hp ht λb=>?_);clear 5(PySem.W.any_some hh)cd hc hd';have hx:s.heap.get? x=some ⟨.ref C,some dx,.plain,#[]⟩:=I.obj;refine ul8 (ul9 (ul8 (ul8 (kr hx (ul8 (PySem.W.Looks.here (s:={s with toks:=s.toks+1}) (PySem.W.looks_clsIn X hc) ?_))))));rw[hd'];refine ul9 (a:=some dx) (ul8 (ul9 (ul8 ?_)));refine wpAny_nsSet1 (s:={s with toks:=s.toks+1}) I.ns λh' hn2 hs2=>?_;clear 5(hn2.count (kf name v hw))oD esD epD hoD hdD hcD;refine ul8 (kj hoD (by rw[hdD];exact kl (uk9 hcD (by rw[ug2];lia))) ?_);exact ul9 (h _ ⟨(hs2.2 _ (Ne.symm I.ne)).trans I.obj,hn2,I.ne⟩ hs2)
theorem Uu{R:Result->ij->Prop}{vs:List ie}(X:K.In s.heap)(hm:PySem.W.makesIn K C=true)
 (hi:PySem.W.findIn K (.ref C) "__init__" = some (some (.ref f))) (hf:PySem.W.typeIn K (.ref f)=some (.type "function"))
 (h:codeAny (model prog w) (A.under (.builtin "type.__call__" ⟨.ref C :: vs,kw⟩)) (.call (.ref f) ⟨.ref (s.heap.objs.size + 1) :: vs,kw⟩) (PySem.W.InitBack (s.heap.objs.size + 1) R)
   {s with heap:=(s.heap.push PySem.W.emptyDict).push (PySem.W.instObj C s.heap.objs.size)}) :
 codeAny (model prog w) A (.call (.ref C) ⟨vs,kw⟩) R s:=by
 clear 5 s hh g d t os;exact PySem.W.make_core (PySem.W.makes_of X hm) (PySem.W.looks_findIn X hi) (λself=>PySem.W.bind_fn X self hf) (.inl rfl) h
end
noncomputable def DI(f:Str)(v:V):List (Str×V)->List (Str×V)
 |[]=>[(f,v)]
 |(g,x)::r=>if g=f then(g,v)::r else(g,x)::DI f v r
theorem Jz(f g:Str)(v:V):∀fs:List (Str×V),(DI f v fs).lookup g=if g=f then some v else fs.lookup g
 |[]=>by
   show List.lookup g [(f,v)]=_
   by_cases h:g=f
   .have hb:(g==f)=true:=lv.mpr h;simp only[List.lookup,hb,lJ h]
   .have hb:(g==f)=false:=jv.mpr h;simp only[List.lookup,hb,lK h]
 |(k,x)::r=>by
   have ih:=Jz f g v r;rw[show DI f v ((k,x)::r)=(if k=f then(k,v)::r else(k,x)::DI f v r) from rfl]
   by_cases hk:k=f
   .rw[lJ hk]
    by_cases h:g=k
    .have hb:(g==k)=true:=lv.mpr h;simp only[List.lookup,hb,lJ (h.trans hk)]
    .have hb:(g==k)=false:=jv.mpr h;simp only[List.lookup,hb,lK (λe:g=f=>h (e.trans hk.symm))]
   .rw[lK hk]
    by_cases h:g=k
    .have hb:(g==k)=true:=lv.mpr h;simp only[List.lookup,hb,lK (λe:g=f=>hk (h.symm.trans e))]
    .have hb:(g==k)=false:=jv.mpr h;simp only[List.lookup,hb];exact ih
theorem Ix(f:Str)(v:V):∀fs:List (Str×V),f∈(DI f v fs).map (·.1)/\∀g,g∈fs.map (·.1)->g∈(DI f v fs).map (·.1)
 |[]=>⟨by simp[DI],λg h=>by simp at h⟩
 |(k,x)::r=>by
   clear 5(Ix f v r)i1 i2;rw[show DI f v ((k,x)::r)=(if k=f then(k,v)::r else(k,x)::DI f v r) from rfl]
   by_cases hk:k=f
   .rw[lJ hk];subst hk;exact⟨by simp,λg h=>by simpa using h⟩
   .rw[lK hk];refine⟨?_,λg h=>?_⟩
    .rw[uj8];exact ud1 _ i1
    .rw[uj8] at h⊢;rcases uj7.mp h with e|e
     .exact uj7.mpr (.inl e)
     .exact ud1 _ (i2 g e)
theorem Jw(f:Str)(v:V):∀fs:List (Str×V),(DI f v fs).length<=fs.length+1
 |[]=>by simp[DI]
 |(k,x)::r=>by
   have ih:=Jw f v r;rw[show DI f v ((k,x)::r)=(if k=f then(k,v)::r else(k,x)::DI f v r) from rfl]
   by_cases hk:k=f
   .rw[lJ hk,ug2,ug2];lia
   .rw[lK hk,ug2,ug2];lia
theorem RelO.some_of{o:Option ie}(r:RelO (some v) o):∃u,o=some u/\RelV v u:=by
 cases o with
 |none=>exact(show False from r).elim
 |some u=>exact⟨u,rfl,r⟩
theorem RelO.none_of{o:Option ie}(r:RelO none o):o=none:=by
 cases o with
 |none=>rfl
 |some u=>exact(show False from r).elim
theorem Ml(r:RelV v u):PySem.W.handedIn u=true:=by
 cases v with
 |non=>cases (show u=Value.none from r);rfl
 |bl b=>cases (show u=Value.bool b from r);rfl
 |int i=>clear 5((show ∃t,u=Value.int i t from r))t e;cases e;rfl
 |str x=>clear 5((show ∃t,u=Value.str x t from r))t e;cases e;rfl
 |byt b=>clear 5((show ∃t,u=Value.bytes b t from r))t e;cases e;rfl
 |flt b=>clear 5((show ∃t,u=Value.float b t from r))t e;cases e;rfl
 |ref a=>cases (show u=Value.ref a from r);rfl
 |ty n=>cases (show u=Value.type n from r);rfl
section
variable{P:im}{w:ir}{H H':Hp}{h h':Heap}{a C dx:ig}{fs fs':List (Str×V)}
theorem Jh(hok:HOk P w H h)(e:H a=some (.ins C dx fs)):∃mA,ObjM h a dx C mA/\(∀f,RelO (fs.lookup f) (mA f))/\PySem.Within mA (fs.map (·.1))/\fs.length<=1000/\H dx=some (.own a):=by
 clear 5((show ObjOk P w H h a (.ins C dx fs) from hok a _ e))d z ne ob mA n r q;exact⟨mA,⟨ob,n,ne⟩,r,q,z,d⟩
end
structure Cls(K:ib)(C:ig):Prop where
 pg:PySem.W.plainGet K C Str.empty=true
 hd:PySem.W.hasDictIn K C=true
 po:PySem.W.plainOver K C=true
 sa:PySem.W.findIn K (.ref C) "__setattr__" = some (some (.builtin "object.__setattr__"))
theorem Cls.get{K:ib}{C:ig}(c:Cls K C)(f:Str):PySem.W.plainGet K C f=true:=c.pg
def NoAttr(K:ib)(C:ig)(f:Str):Prop:=PySem.W.findIn K (.ref C) f=some none
theorem NoAttr.taker{f:Str}(n:NoAttr K C f):PySem.W.takerIn K C f=some none:=by
 unfold PySem.W.takerIn;rw[show PySem.W.findIn K (.ref C) f=some none from n];rfl
structure Con(K:ib)(C:ig)(f:Str)(v:V)(u:ie):Prop where
 at_:PySem.W.findIn K (.ref C) f=some (some u)
 rel:RelV v u
 get:PySem.W.specialIn K u "__get__" = some none
 cp:PySem.W.copiedNames.contains f=false
structure Meth(K:ib)(C:ig)(m:Str)(f:ig):Prop where
 at_:PySem.W.findIn K (.ref C) m=some (some (.ref f))
 fn:PySem.W.isFn K (.ref f)=true
 kp:PySem.W.keepIn K (.ref f)=true
section
variable{X:Cx}{ic:List (ig×Obj)}{σ:St}{H:Hp}{s:ij}{a C dx:ig}{fs:List (Str×V)}{f:Str}{v:V}{A:Around}{E:ie->ij->Prop}
theorem P3{b:Bool}{Q:ie->ij->Prop}(I:Inv X ic σ H s)(e:H a=some (.ins C dx fs))(c:Cls X.K C)(n:NoAttr X.K C f)(l:fs.lookup f=some v)
 (h:∀u s',Inv X ic σ H s'->RelV v u->Q u s'):wpAny (model X.prog X.w) A (getAttr (.ref a) f b) Q E s:=by
 obtain⟨mA,O,r,_,_,_⟩:=Jh I.hok e;clear 5(RelO.some_of (v:=v) (o:=mA f) (by rw[<-l];exact r f))u hu ru;exact WB I.kIn O (c.get f) c.hd n hu (Ml ru) (h u _ (I.tok _) ru)
theorem Hy{m:Str}{g:ig}{Q:ie×List ie->ij->Prop}(I:Inv X ic σ H s)(e:H a=some (.ins C dx fs))(c:Cls X.K C)(k:Meth X.K C m g)(l:fs.lookup m=none)
 (h:Q (.ref g,[.ref a]) s):wpAny (model X.prog X.w) A (getMethod (.ref a) m pl) Q E s:=by
 obtain⟨mA,O,r,_,_,_⟩:=Jh I.hok e;have hn:mA m=none:=RelO.none_of (by rw[<-l];exact r m);exact Ud I.kIn O (c.get m) k.at_ k.fn hn h
theorem QA{y:V}(I:Inv X ic σ H s)(e:H a=some (.ins C dx fs))(c:Cls X.K C)(n:NoAttr X.K C f)(hl:fs.length<1000)(ry:RelV y u)
 (h:∀s',Inv X ic σ (upd H a (.ins C dx (DI f y fs))) s'->Q () s'):wpAny (model X.prog X.w) A (setAttr (.ref a) f u) Q E s:=by
 obtain⟨mA,O,r,wi,_,ho⟩:=Jh I.hok e;have hz:(fs.map (·.1)).length<=sizeLine:=by rw[uh7,lp];lia
 refine XW I.kIn O c.sa c.po n.taker c.hd wi hz λh' O' sb=>h _ ?_;have hd:∃o,h'.get? dx=some o:=let ⟨o,_,_,e',_⟩:=O'.ns;⟨o,e'⟩;refine I.write (x:=a) (e:=dx) (by rw[e];exact True.intro) (.inr ho) (λb q hb z=>(sb.2 b hb).trans z) hd ?_;refine⟨by rw[Ah O.ne];exact ho,?_,O.ne,O'.obj,_,O'.ns,λg=>?_,λg hg=>?_⟩
 .have:=Jw f y fs;lia
 .show RelO ((DI f y fs).lookup g) (if g=f then some u else mA g);rw[Jz]
  by_cases q:g=f
  .rw[lJ q,lJ q];exact ry
  .rw[lK q,lK q];exact r g
 .by_cases q:g=f
  .rw[q];exact(Ix f y fs).1
  .refine(Ix f y fs).2 g (wi g λz=>hg ?_);show(if g=f then some u else mA g)=none;rw[lK q];exact z
theorem Inv.made(I:Inv X ic σ H s):Inv X ic σ (upd (upd H s.heap.objs.size (.own (s.heap.objs.size+1))) (s.heap.objs.size+1) (.ins C s.heap.objs.size []))
 {s with heap:=(s.heap.push PySem.W.emptyDict).push (PySem.W.instObj C s.heap.objs.size)}:=by
 have e1:(s.heap.push PySem.W.emptyDict).get? s.heap.objs.size=some PySem.W.emptyDict:=ud6 s.heap rfl;have e2:((s.heap.push PySem.W.emptyDict).push (PySem.W.instObj C s.heap.objs.size)).get? (s.heap.objs.size+1)=some (PySem.W.instObj C s.heap.objs.size):=by
  have:=ud6 (s.heap.push PySem.W.emptyDict) (o:=PySem.W.instObj C s.heap.objs.size) rfl
  rwa [kt] at this
 have e3:(s.heap.push PySem.W.emptyDict).Ns s.heap.objs.size (λ_=>none):=⟨PySem.W.emptyDict,#[],_,e1,rfl,(λe he=>absurd he (by simp)),λ_=>rfl⟩;have I1:=I.laid (a:=s.heap.objs.size) (o:=.own (s.heap.objs.size+1)) (h':=s.heap.push PySem.W.emptyDict) (t':=s.toks) (λb u q=>ub9 _ q) (ul4 _) ⟨_,e1⟩;refine I1.laid (a:=s.heap.objs.size+1) (o:=.ins C s.heap.objs.size []) (t':=s.toks) (λb u q=>ub9 _ q) (lc (kt _ _)) ?_;have ne:s.heap.objs.size≠s.heap.objs.size+1:=uk8 (ug3 _);refine⟨by rw[Ah ne,Ak],ul5 _,ne,e2,λ_=>none,(Heap.Ns1.of_empty e3).at λo q=>ub9 _ q,λ_=>True.intro,λy hy=>absurd rfl hy⟩
theorem OD{prog:im}{env:Env}{f:Str}{pos:Pos}{s:ij}{Q:ie->ij->Prop}(hb:attributeBase e f env (eval e env)=eval e env)
 (h:wpAny (model prog w) A (eval e env) (λo s₁=>wpAny (model prog w) A (getAttr o f true) Q E s₁) E s):wpAny (model prog w) A (eval (.Attribute e f pos) env) Q E s:=
 Attribute_any_ h (by rw[arm_eval_Attribute,hb])
end
def eK(K:ib)(ta:TE)(f:Str):TE:=λσ H Q=>ta σ H λx H1=>∃a C dx fs v,x=.ref a/\H1 a=some (.ins C dx fs)/\Cls K C/\NoAttr K C f/\fs.lookup f=some v/\Q v H1
def eE(K:ib)(ta tv:TE)(f:Str):TS:=λD σ H=>tv σ H λy H1=>ta σ H1 λx H2=>∃a C dx fs,x=.ref a/\H2 a=some (.ins C dx fs)/\Cls K C/\NoAttr K C f/\fs.length<1000/\
 D.nx σ (upd H2 a (.ins C dx (DI f y fs)))
section
variable{X:Cx}{o e value:Expr}{f:Str}{pos pos' tpos:Pos}{ta tv:TE}
theorem ZR(he:PE X e ta)(hb:attributeBase e f X.env (eval e X.env)=eval e X.env):PE X (.Attribute e f pos) (eK X.K ta f):=by
 intro ic s σ H Q I h;refine OD hb (thn (he ic s σ H _ I h) λu s1 z9=>?_);clear 5 z9 x H1 I1 rx a C dx fs v ex ea c n l q;subst ex;obtain rfl:u=Value.ref a:=rx;exact P3 I1 ea c n l λu' s2 I2 ru=>⟨v,H1,I2,ru,q⟩
theorem Z2(ha:PE X o ta)(hv:PE X value tv)(hs:swapsWith value (some (.Attribute o f pos')) pos.line X.env=pure false):PS X (.Assign [.Attribute o f pos'] value pos) (eE X.K ta tv f):=by
 intro ic s σ H D I h;refine iy (thn (hv ic s σ H _ I h) λu s1 ⟨y,H1,I1,ry,q⟩=>thn (ha ic s1 σ H1 _ I1 q) λov s2 z9=>?_) hs;clear 5 z9 x H2 I2 rx a C dx fs ex ea c n l q2;subst ex;obtain rfl:ov=Value.ref a:=rx;exact QA I2 ea c n l ry λs3 I3=>⟨σ,_,I3,q2⟩
end
section
variable{X:Cx}{ic:List (ig×Obj)}{σ:St}{H:Hp}{s:ij}{A:Around}{E:ie->ij->Prop}{Q:ie->ij->Prop}{c:ie}{b:Bool}
inductive TyOf(K:ib)(H:Hp):V->ie->Prop where
 |non:TyOf K H .non (.type "NoneType")
 |bl (x:Bool):TyOf K H (.bl x) (.type "bool")
 |int (i:Int):TyOf K H (.int i) (.type "int")
 |str (x:Str):TyOf K H (.str x) (.type "str")
 |flt (x:UInt64):TyOf K H (.flt x) (.type "float")
 |lst {a:ig}{xs:List V} (e:H a=some (.lst xs)):TyOf K H (.ref a) (.type "list")
 |frz {a:ig}{o:Obj}{xs:List V} (e:H a=some (.frz o (.lst xs))):TyOf K H (.ref a) (.type "list")
 |tup {a:ig}{xs:List V} (e:H a=some (.tup xs)):TyOf K H (.ref a) (.type "tuple")
 |dK {a:ig}{kvs:List (Key×V)} (e:H a=some (.dK kvs)):TyOf K H (.ref a) (.type "dict")
 |dT {a:ig}{kvs:List (List Key×V)} (e:H a=some (.dT kvs)):TyOf K H (.ref a) (.type "dict")
 | ins {a C dx:ig} {fs:List (Str×V)} (e:H a=some (.ins C dx fs)) (cl:Cls K C) (ha:PySem.W.findIn K (.ref C) "__class__" = some (some (.builtin "object.__class__")))
    (hn:PySem.W.specialIn K (.builtin "object.__class__") "__get__" = some (some (.builtin "getset_descriptor.__get__"))) (htk:PySem.W.takesIn K (.builtin "object.__class__")=some true)
    (hm:PySem.W.mroIn K C (.type "object")=some true):TyOf K H (.ref a) (.ref C)
theorem Mn{x:V}{t:ie}(I:Inv X ic σ H s)(rx:RelV x u)(ty:TyOf X.K H x t)(e:PySem.W.kitOne X.K t c=some b)(h:∀tk,Q (.bool b) {s with toks:=tk}) :
 wpAny (model X.prog X.w) A (call (.builtin "isinstance") [u,c]) Q E s:=by
 cases ty with
 |non=>cases (show u=Value.none from rx);exact uh8 PySem.W.kitx_none I.kIn True.intro e (λz=>nomatch z) h
 |bl y=>cases (show u=Value.bool y from rx);exact uh8 PySem.W.kitx_bool I.kIn True.intro e (λz=>nomatch z) h
 |int i=>clear 5((show ∃t,u=Value.int i t from rx))t q;cases q;exact uh8 PySem.W.kitx_int I.kIn True.intro e (λz=>nomatch z) h
 |str y=>clear 5((show ∃t,u=Value.str y t from rx))t q;cases q;exact uh8 PySem.W.kitx_str I.kIn True.intro e (λz=>nomatch z) h
 |flt y=>clear 5((show ∃t,u=Value.float y t from rx))t q;cases q;exact uh8 PySem.W.kitx_float I.kIn True.intro e (λz=>nomatch z) h
 |@lst a xs ea=>
   cases (show u=Value.ref a from rx)
   obtain⟨_,_,n,_,h1⟩:=(show ObjOk X.prog X.w H s.heap a (.lst xs) from I.hok a _ ea);exact uh8 PySem.W.kitx_list I.kIn ⟨_,h1,rfl⟩ e (λz=>nomatch z) h
 |@frz a ob xs ea=>
   cases (show u=Value.ref a from rx)
   obtain⟨_,_,_,n,_,h1⟩:=(show ObjOk X.prog X.w H s.heap a (.frz ob (.lst xs)) from I.hok a _ ea);exact uh8 PySem.W.kitx_list I.kIn ⟨_,h1,rfl⟩ e (λz=>nomatch z) h
 |@tup a xs ea=>
   cases (show u=Value.ref a from rx)
   obtain⟨_,_,_,p⟩:=(show ObjOk X.prog X.w H s.heap a (.tup xs) from I.hok a _ ea);obtain⟨o,h1,h2,_⟩:=p;exact uh8 PySem.W.kitx_tuple I.kIn ⟨o,h1,h2⟩ e (λz=>nomatch z) h
 |@dK a kvs ea=>
   cases (show u=Value.ref a from rx)
   obtain⟨_,_,vs,_,p⟩:=(show ObjOk X.prog X.w H s.heap a (.dK kvs) from I.hok a _ ea);obtain⟨o,es,ep,h1,h2,_⟩:=p;exact uh8 PySem.W.kitx_dict I.kIn ⟨o,h1,h2.1⟩ e (λz=>nomatch z) h
 |@dT a kvs ea=>
   cases (show u=Value.ref a from rx)
   obtain⟨_,_,xs,_,o,es,ep,h1,h2,_⟩:=(show ObjOk X.prog X.w H s.heap a (.dT kvs) from I.hok a _ ea);exact uh8 PySem.W.kitx_dict I.kIn ⟨o,h1,h2.1⟩ e (λz=>nomatch z) h
 |@ins a C dx fs ea cl ha hn htk hm=>
   cases (show u=Value.ref a from rx)
   obtain⟨mA,O,_⟩:=Jh I.hok ea;obtain⟨od,J,_⟩:=O.look;exact uh8 (PySem.W.kitx_own (cl.get _) cl.hd ha hn htk hm) I.kIn J e (λz=>nomatch z) h
end
structure Room(k:Nat)(A:Around):Prop where
 hd:A.handled=none
 dp:A.depth+3*k+5<recursionLimit
 un:A.units+16*k+200<cLine
theorem Room.mono{j k:Nat}{A:Around}(r:Room k A)(h:j<=k):Room j A:=⟨r.hd,by have:=r.dp;lia,by have:=r.un;lia⟩
theorem Room.deeper{k:Nat}{A:Around}(r:Room (k+1) A)(env:Env):Room k (A.deeper env):=
 ⟨r.hd,by have:=r.dp;show A.depth+1+3*k+5<_;lia,by have:=r.un;show A.units+3+16*k+200<_;lia⟩
theorem Qc{A:Around}:(A.under (.builtin "type.__call__" ⟨.ref C::us,kw⟩)).depth=A.depth+1:=by
 first|rfl|simp[Around.under,Code.weight,Code.isCreation,Code.isGuard,Code.isCaller,Code.frames,Code.isFrame,guardIds]
theorem Qd{A:Around}:(A.under (.builtin "type.__call__" ⟨.ref C::us,kw⟩)).units=A.units+1:=by
 first|rfl|simp[Around.under,Code.cUnits,Code.frames,Code.isFrame]
theorem Room.make{k:Nat}{A:Around}(r:Room (k+1) A)(C:ig)(us:List ie)(kw:List (Str×ie)):Room k (A.under (.builtin "type.__call__" ⟨.ref C::us,kw⟩)):=
 ⟨r.hd,by have:=r.dp;rw[Qc];lia,by have:=r.un;rw[Qd];lia⟩
theorem Room.depth{k:Nat}{A:Around}(r:Room k A):A.depth<recursionLimit:=by have:=r.dp;lia
theorem Room.units{k:Nat}{A:Around}(r:Room k A):A.units+64<cLine:=by have:=r.un;lia
def Vi:TA:=λ_ H Q=>Q [] H
def QF(ta:TE)(tr:TA):TA:=λσ H Q=>ta σ H λx H1=>tr σ H1 λxs H2=>Q (x::xs) H2
section
variable{X:Cx}{e:Expr}{es:List Expr}{te:TE}{t:TA}{pos:Pos}
theorem Sw:PA X [] Vi:=λ_ _ _ _ H Q I h=>Calls.spliced_nil ⟨[],H,I,.nil,h⟩
theorem LK(ha:PE X e te)(hr:PA X es t)(hs:starEach (e::es) X.env=(false,eval e X.env)::starEach es X.env:=by rfl):PA X (e::es) (QF te t):=by
 intro pos ic s σ H Q I h;rw[hs];show wpAny _ _ (spliced ((false,eval e X.env)::backTo pos (starEach es X.env))) _ _ s;refine Calls.spliced_cons (thn (ha ic s σ H _ I h) λu s1 z9=>?_);clear 5 z9 x H1 I1 r1 q1;exact thn (hr pos ic s1 σ H1 _ I1 q1) λus s2 ⟨xs,H2,I2,r2,q2⟩=>⟨x::xs,H2,I2,.cons r1 r2,q2⟩
def eX(t:TA):TE:=λσ H Q=>t σ H λxs H1=>xs.length<=sizeLine/\∀p,H1 p=none->Q (.ref p) (upd H1 p (.tup xs))
def eQ(t:TA):TE:=λσ H Q=>t σ H λxs H1=>xs.length<=sizeLine/\∀p,H1 p=none->Q (.ref p) (upd H1 p (.lst xs))
theorem ZY{x1}(h:PA X es t):PE X (.Tuple es x1 pos) (eX t):=by
 intro ic s σ H Q I hq;refine wpAny_Tuple_spliced (thn (h pos ic s σ H _ I hq) λus s1 z9=>?_);clear 5 z9 xs H1 I1 r z q;refine⟨by rw[<-r.length];exact z,?_⟩;have hf:H1 s1.heap.objs.size=none:=I1.hok.fresh (ul4 _);refine⟨.ref s1.heap.objs.size,upd H1 s1.heap.objs.size (.tup xs),I1.laid (t':=s1.toks) (λb u e=>ub9 _ e) (ul4 _) ?_,rfl,q _ hf⟩;exact⟨z,us,r,⟨_,ud6 _ rfl,rfl,_,rfl⟩⟩
theorem ZU(h:PA X es t):PE X (.List es pos) (eQ t):=by
 intro ic s σ H Q I hq;refine wpAny_List_spliced (thn (h pos ic s σ H _ I hq) λus s1 z9=>?_);clear 5 z9 xs H1 I1 r z q;refine⟨by rw[<-r.length];exact z,?_⟩;have hf:H1 s1.heap.objs.size=none:=I1.hok.fresh (ul4 _);refine⟨.ref s1.heap.objs.size,upd H1 s1.heap.objs.size (.lst xs),I1.laid (t':=s1.toks) (λb u e=>ub9 _ e) (ul4 _) ?_,rfl,q _ hf⟩;exact⟨z,us,0,r,ud6 _ rfl⟩
end
abbrev Sp:=List V->Hp->VK->XK->Prop
abbrev CXT:=List Env->Hp->ij->XK->ie->ij->Prop
structure Env0(P:im)(w:ir)(K:ib)(mg:Str->Option ie)(base:Heap)(A:Around)(outer:List Env)(s:ij)(H:Hp):Prop where
 frames:A.frames=some outer
 mod:Mod K mg base
 bs:∀b o,base.get? b=some o->s.heap.get? b=some o/\H b=none
 bsz:base.objs.size<=s.heap.objs.size
 funs:s.heap.FunFrames base outer
 frf:∀b∈frs outer,H b=none
 hok:HOk P w H s.heap
 bare:AllBare s.gens
def CE(outer:List Env)(P:im)(w:ir)(H:Hp)(s:ij)(Q:VK)(u:ie)(s':ij):Prop:=
 ∃v H',s'.os=s.os/\AllBare s'.gens/\Un (frs outer) [] H H' s.heap s'.heap/\HOk P w H' s'.heap/\RelV v u/\Q v H'
def CR(CX:CXT)(outer:List Env)(P:im)(w:ir)(H:Hp)(s:ij)(Q:VK)(E:XK)(r:Result)(s':ij):Prop:=
 match r with
 |.ok (.ret u)=>CE outer P w H s Q u s'
 |.ok _=>False
 |.error e=>CX outer H s E e s'
structure FnOk(P:im)(w:ir)(K:ib)(mg:Str->Option ie)(base:Heap)(CX:CXT)(k:Nat)(f:ig)(fd:iu)(ps:List Str)(sp:Sp):Prop where
 len:∀vs H Q E,sp vs H Q E->vs.length=ps.length
 run:∀(A:Around) (outer:List Env) (s:ij) (H:Hp) (args:Args) (us:List ie) (vs:List V) (Q:VK) (E:XK),Room k A->Env0 P w K mg base A outer s H->BindsTo s fd args (ps.zip us)->Vals vs us->sp vs H Q E->
  codeAny (model P w) A (.call (.ref f) args) (CR CX outer P w H s Q E) s
theorem FnOk.mono{P:im}{w:ir}{K:ib}{mg:Str->Option ie}{base:Heap}{CX:CXT}{j k:Nat}{f:ig}{fd:iu}{ps:List Str}{sp:Sp}(F:FnOk P w K mg base CX j f fd ps sp)(h:j<=k) :
 FnOk P w K mg base CX k f fd ps sp:=⟨F.len,λA outer s H args us vs Q E hr=>F.run A outer s H args us vs Q E (hr.mono h)⟩
variable{mg:Str->Option ie}{base:Heap}
theorem Env0.make{A:Around}{outer:List Env}(e:Env0 P w K mg base A outer s H)(C:ig)(us:List ie)(kw:List (Str×ie)) :
 Env0 P w K mg base (A.under (.builtin "type.__call__" ⟨.ref C::us,kw⟩)) outer s H:=⟨by first|exact e.frames|(simpa[Around.under,Code.envs,Code.isFrame,pushEnvs] using e.frames),e.mod,e.bs,e.bsz,e.funs,e.frf,e.hok,e.bare⟩
section
variable{X:Cx}{ic:List (ig×Obj)}{σ:St}{H:Hp}{s s':ij}
theorem Inv.env0(I:Inv X ic σ H s):Env0 X.prog X.w X.K X.mg X.base X.A X.stack s H:=
 ⟨I.ok.frames,I.ok.mod,I.bs,uk9 I.ok.bsz I.sz,I.stack,I.stkFree,I.hok,I.bare⟩
theorem Inv.after{Q:VK}(I:Inv X ic σ H s)(h:CE X.stack X.prog X.w H s Q u s'):EP X ic σ Q u s':=by
 clear 5 h v H' os bare un hok r q;clear 5 s' hh g d t os';obtain rfl:os'=s.os:=os;exact⟨v,H',I.call (h':=hh) (g':=g) (d':=d) (t':=t) (ch:=[]) un hok bare (λb z=>absurd z (by simp)),r,q⟩
end
def b6(sp:Sp)(dvs:List V)(E:XK)(t:TA):TE:=λσ H Q=>t σ H λvs H1=>sp (vs++dvs) H1 Q E
def VW(C:ig)(m:Str)(sp:Sp)(dvs:List V)(E:XK)(ta:TE)(t:TA):TE:=λσ H Q=>ta σ H λx H1=>∃a dx fs,x=.ref a/\H1 a=some (.ins C dx fs)/\fs.lookup m=none/\
 t σ H1 λvs H2=>sp (x::(vs++dvs)) H2 Q E
def b8(C:ig)(sp:Sp)(dvs:List V)(E:XK)(t:TA):TE:=λσ H Q=>t σ H λvs H1=>∀x dx,H1 x=none->H1 dx=none->dx≠x->
 sp (.ref x::(vs++dvs)) (upd (upd H1 dx (.own x)) x (.ins C dx [])) (λv H2=>v=.non/\Q (.ref x) H2) E
def Binds(K:ib)(fd:iu)(ps:List Str)(ds:List ie):Prop:=
 ∀(s:ij) (us:List ie),K.In s.heap->(us++ds).length=ps.length->BindsTo s fd ⟨us,[]⟩ (ps.zip (us++ds))
theorem Binds.all{fd:iu}{ps:List Str}(h:∀us:List ie,us.length=ps.length->bindArgs fd ⟨us,[]⟩=pure (ps.zip us)):Binds K fd ps []:=λs us _ hl=>by
 rw[uh9] at hl⊢;exact .of_eq (h us hl)
def F5(CX:CXT)(X:Cx)(E:XK):Prop:=∀(ic:List (ig×Obj)) (σ:St) (H:Hp) (s:ij) (e:ie) (s':ij),Inv X ic σ H s->CX X.stack H s E e s'->X.xe e s'
variable{vs:List V}
section
variable{X:Cx}{CX:CXT}{k:Nat}{f C:ig}{fd:iu}{ps:List Str}{sp:Sp}{dvs:List V}{ds:List ie}{E:XK}{x m:Str}{p pos apos:Pos}{e o:Expr}{es:List Expr}{ta:TE}{t:TA}
theorem N5{Q:VK}(F:FnOk X.prog X.w X.K X.mg X.base CX k f fd ps sp)(hr:Room k X.A)(hb:Binds X.K fd ps ds)(hd:Vals dvs ds)(hx:F5 CX X E)
 (I:Inv X ic σ H s) (r:Vals vs us) (h:sp (vs++dvs) H Q E):wpAny (model X.prog X.w) X.A (call (.ref f) us) (EP X ic σ Q) X.xe s:=by
 have r2:Vals (vs++dvs) (us++ds):=r.append hd;have hl:(us++ds).length=ps.length:=by rw[<-r2.length];exact F.len _ _ _ _ h
 refine lw (ld (F.run X.A X.stack s H ⟨us,[]⟩ (us++ds) (vs++dvs) Q E hr I.env0 (hb s us I.kIn hl) r2 h) λr s' hq=>?_)
 cases r with
 |error e=>exact hx ic σ H s e s' I hq
 |ok fl=>
   cases fl with
   |ret u=>exact I.after hq
   |next=>exact False.elim hq
   |brk=>exact False.elim hq
   |cont=>exact False.elim hq
theorem O7(F:FnOk X.prog X.w X.K X.mg X.base CX k f fd ps sp)(hr:Room k X.A)(hg:Gl X x)(hm:X.mg x=some (.ref f))(hk:PySem.W.keepIn X.K (.ref f)=true)(hb:Binds X.K fd ps ds)(hd:Vals dvs ds)(hx:F5 CX X E)
 (ha:PA X (e::es) t) (hdb:(x==("__debug__":Str))=false:=by decide) (he:starEach (e::es) X.env=(false,eval e X.env)::starEach es X.env:=by rfl) (hpl:(backTo pos (starEach es X.env)).any (·.1)=false:=by rfl) :
 PE X (.Call (.Name x p) (e::es) [] pos) (b6 sp dvs E t):=by
 intro ic s σ H Q I h;refine jz (C6 I hg hm ?_ hdb);refine ue4 (h₀:=X.base) I.ok.mod.kin hk (thn (ha pos ic s σ H _ I h) λus s1 z9=>?_) he hpl;clear 5 z9 vs H1 I1 r q;refine⟨I1.kIn,?_⟩;exact N5 F hr hb hd hx I1 r q
theorem Xc(he:PE X o ta)(c:Cls X.K C)(hm:Meth X.K C m f)(F:FnOk X.prog X.w X.K X.mg X.base CX k f fd ps sp)(hr:Room k X.A)(hb:Binds X.K fd ps ds)(hd:Vals dvs ds)(hx:F5 CX X E)(ha:PA X (e::es) t)
 (hst:starEach (e::es) X.env=(false,eval e X.env)::starEach es X.env:=by rfl) (hpl:(backTo pos (starEach es X.env)).any (·.1)=false:=by rfl)
 (ht:eval (.Call (.Attribute o m apos) (e :: es) [] pos) X.env=(do
   let ov <-eval o X.env
   standAt apos.atName
   let (f,first) <-holding [ov] (getMethod ov m pl)
   callWith pos f first (backTo pos (starEach (e::es) X.env)) (backToKw pos (keywordEach [] X.env))):=by rfl) :
 PE X (.Call (.Attribute o m apos) (e::es) [] pos) (VW C m sp dvs E ta t):=by
 intro ic s σ H Q I h;refine uc6 (pl:=pl) (thn (he ic s σ H _ I h) λu s1 z9=>?_) ht;clear 5 z9 x H1 I1 rx a dx fs ex ea l q;subst ex;obtain rfl:u=Value.ref a:=rx;refine Hy I1 ea c hm l ?_;refine ue4 (first:=[.ref a]) (h₀:=X.base) I.ok.mod.kin hm.kp (thn (ha pos ic s1 σ H1 _ I1 q) λus s2 z9=>?_) hst hpl;clear 5 z9 vs H2 I2 r q2;refine⟨I2.kIn,?_⟩;exact N5 (us:=.ref a::us) (vs:=.ref a::vs) F hr hb hd hx I2 (.cons rfl r) q2
theorem UL(he:PE X o ta)(c:Cls X.K C)(hm:Meth X.K C m f)(F:FnOk X.prog X.w X.K X.mg X.base CX k f fd ps sp)(hr:Room k X.A)(hb:Binds X.K fd ps ds)(hd:Vals dvs ds)(hx:F5 CX X E)
 (ht:eval (.Call (.Attribute o m apos) [] [] pos) X.env=(do
   let ov <-eval o X.env
   standAt apos.atName
   let (f,first) <-holding [ov] (getMethod ov m pl)
   callWith pos f first (backTo pos (starEach [] X.env)) (backToKw pos (keywordEach [] X.env))):=by rfl) :
 PE X (.Call (.Attribute o m apos) [] [] pos) (VW C m sp dvs E ta Vi):=by
 intro ic s σ H Q I h;refine uc6 (pl:=pl) (thn (he ic s σ H _ I h) λu s1 z9=>?_) ht;clear 5 z9 x H1 I1 rx a dx fs ex ea l q;subst ex;obtain rfl:u=Value.ref a:=rx;refine Hy I1 ea c hm l ?_;exact PySem.W.callWith_K0 (first:=[.ref a]) I1.kIn hm.kp (N5 (us:=[.ref a]) (vs:=[.ref a]) F hr hb hd hx I1 (.cons rfl .nil) q)
structure Mk(K:ib)(C f:ig):Prop where
 makes:PySem.W.makesIn K C=true
 init:PySem.W.findIn K (.ref C) "__init__" = some (some (.ref f))
 fn:PySem.W.isFn K (.ref f)=true
 kp:PySem.W.keepIn K (.ref C)=true
theorem UX{Q:VK}(M:Mk X.K C f)(F:FnOk X.prog X.w X.K X.mg X.base CX k f fd ps sp)(hr:Room (k+1) X.A)(hb:Binds X.K fd ps ds)(hd:Vals dvs ds)
 (hx:F5 CX X E) (I:Inv X ic σ H s) (r:Vals vs us)
 (h:∀x dx,H x=none->H dx=none->dx≠x->sp (.ref x::(vs++dvs)) (upd (upd H dx (.own x)) x (.ins C dx [])) (λv H2=>v=.non/\Q (.ref x) H2) E) :
 wpAny (model X.prog X.w) X.A (call (.ref C) us) (EP X ic σ Q) X.xe s:=by
 have hq:=h (s.heap.objs.size+1) s.heap.objs.size (I.hok.fresh (ul6 _)) (I.hok.fresh (ul4 _)) (uk8 (ug3 _));have I2:=Inv.made (C:=C) I;have r2:Vals (V.ref (s.heap.objs.size+1)::(vs++dvs)) (Value.ref (s.heap.objs.size+1)::(us++ds)):=.cons rfl (r.append hd);have hl:(Value.ref (s.heap.objs.size+1)::us++ds).length=ps.length:=by
  have e:=r2.length;rw[F.len _ _ _ _ hq] at e;exact e.symm
 refine lw (Uu (f:=f) I.kIn M.makes M.init (lv.mp M.fn) (ld (F.run _ X.stack _ _ ⟨Value.ref (s.heap.objs.size+1)::us,[]⟩ (Value.ref (s.heap.objs.size+1)::(us++ds)) _ _ E (hr.make C us [])
  (I2.env0.make C us []) (hb _ (Value.ref (s.heap.objs.size+1)::us) I2.kIn hl) r2 hq) λr s' hq'=>?_))
 cases r with
 |error e=>exact hx ic σ _ _ e s' I2 hq'
 |ok fl=>
   cases fl with
   |ret u=>
     clear 5(I2.after hq')v H' I3 rv ev q3;subst ev;exact⟨rv,⟨V.ref (s.heap.objs.size+1),H',I3,rfl,q3⟩⟩
   |next=>exact False.elim hq'
   |brk=>exact False.elim hq'
   |cont=>exact False.elim hq'
theorem Xb(M:Mk X.K C f)(F:FnOk X.prog X.w X.K X.mg X.base CX k f fd ps sp)(hr:Room (k+1) X.A)(hg:Gl X x)(hm:X.mg x=some (.ref C))(hb:Binds X.K fd ps ds)(hd:Vals dvs ds)(hx:F5 CX X E)
 (ha:PA X (e::es) t) (hdb:(x==("__debug__":Str))=false:=by decide) (he:starEach (e::es) X.env=(false,eval e X.env)::starEach es X.env:=by rfl) (hpl:(backTo pos (starEach es X.env)).any (·.1)=false:=by rfl) :
 PE X (.Call (.Name x p) (e::es) [] pos) (b8 C sp dvs E t):=by
 intro ic s σ H Q I h;refine jz (C6 I hg hm ?_ hdb);refine ue4 (h₀:=X.base) I.ok.mod.kin M.kp (thn (ha pos ic s σ H _ I h) λus s1 z9=>?_) he hpl;clear 5 z9 vs H1 I1 r q;refine⟨I1.kIn,?_⟩;exact UX M F hr hb hd hx I1 r q
end
section
variable{X:Cx}{CX:CXT}{k:Nat}{f C:ig}{fd:iu}{ps ks:List Str}{sp:Sp}{E:XK}{x m:Str}{p pos apos kpos:Pos}{e o:Expr}{es:List Expr}{kws:List Keyword}{te ta:TE}{t tk:TA}{nm:Option Str}
structure KBinds(K:ib)(fd:iu)(ps ks:List Str)(g:List ie->List ie->List ie)(gV:List V->List V->List V):Prop where
 to:∀(s:ij) (us ws:List ie),K.In s.heap->(g us ws).length=ps.length->BindsTo s fd ⟨us,ks.zip ws⟩ (ps.zip (g us ws))
 rel:∀{vs:List V}{us:List ie}{zs:List V}{ws:List ie},Vals vs us->Vals zs ws->Vals (gV vs zs) (g us ws)
variable{g:List ie->List ie->List ie}{gV:List V->List V->List V}
end
structure FnScope(N P:List Str)(sc:Scope):Prop where
 kind:sc.kind=.function
 co:sc.isCoroutine=false
 gen:sc.isGenerator=false
 nd:N.Nodup
 pre:N.take P.length=P
 par:∀x∈P,sc.names.lookup x=some .local\/sc.names.lookup x=some .cell
 nofree:∀y∈sc.names,y.2≠.free
theorem L9{kindOf:Str->Option NameKind}{x:Str}:∀{binds:List (Str×ie)}{m:Str->Option ie},(∀v,(x,v)∉binds)->bindL kindOf binds m x=m x
 |[],_,_=>rfl
 |(n,v)::r,m,h=>by
   unfold bindL;rw[L9 λw hw=>h w (ud1 _ hw)]
   split
   .have:x≠n:=by rintro rfl;exact h v ue1
    simp[this]
   .rfl
theorem L7{kindOf:Str->Option NameKind}{x:Str}:∀{binds:List (Str×ie)}{m:Str->Option ie},(∀v,(x,v)∉binds)->bindC kindOf binds m x=m x
 |[],_,_=>rfl
 |(n,v)::r,m,h=>by
   unfold bindC;rw[L7 λw hw=>h w (ud1 _ hw)]
   split
   .rfl
   .have:x≠n:=by rintro rfl;exact h v ue1
    simp[this]
theorem L8{kindOf:Str->Option NameKind}{x:Str}{v:ie}:∀{P:List Str}{vs:List ie}{i:Nat}{m:Str->Option ie},P.Nodup->P[i]?=some x->vs[i]?=some v->kindOf x=some .local->
 bindL kindOf (P.zip vs) m x=some v
 |[],_,_,_,_,h,_,_=>by simp at h
 |_::_,[],_,_,_,_,h,_=>by simp at h
 |p::P,w::vs,0,m,nd,h1,h2,hk=>by
   simp at h1 h2;subst h1;subst h2;show bindL kindOf ((p,w)::P.zip vs) m p=_;unfold bindL;rw[L9 λv hv=>(ui0.mp nd).1 (ui1 hv).1,lJ hk];simp
 |p::P,w::vs,i+1,m,nd,h1,h2,hk=>by
   show bindL kindOf ((p,w)::P.zip vs) m x=_;unfold bindL;exact L8 (i:=i) (ui0.mp nd).2 (by simpa using h1) (by simpa using h2) hk
theorem L5{kindOf:Str->Option NameKind}{x:Str}{v:ie}:∀{P:List Str}{vs:List ie}{i:Nat}{m:Str->Option ie},P.Nodup->P[i]?=some x->vs[i]?=some v->kindOf x≠some .local->
 bindC kindOf (P.zip vs) m x=some v
 |[],_,_,_,_,h,_,_=>by simp at h
 |_::_,[],_,_,_,_,h,_=>by simp at h
 |p::P,w::vs,0,m,nd,h1,h2,hk=>by
   simp at h1 h2;subst h1;subst h2;show bindC kindOf ((p,w)::P.zip vs) m p=_;unfold bindC;rw[L7 λv hv=>(ui0.mp nd).1 (ui1 hv).1,lK hk];simp
 |p::P,w::vs,i+1,m,nd,h1,h2,hk=>by
   show bindC kindOf ((p,w)::P.zip vs) m x=_;unfold bindC;exact L5 (i:=i) (ui0.mp nd).2 (by simpa using h1) (by simpa using h2) hk
noncomputable def Dl(N:List Str)(vs:List V):St:=vs.map some++List.replicate (N.length-vs.length) none
noncomputable def D5(CX:CXT)(P:im)(w:ir)(K:ib)(mg:Str->Option ie)(base:Heap)(N:List Str)(qual:Str)(scope:Scope)(f:ig)(cd:ie)(A:Around)(outer:List Env)(s:ij)(H:Hp)(E:XK):Cx where
 prog:=P
 w:=w
 K:=K
 mg:=mg
 base:=base
 A:=A.deeper (envOfC qual scope s.heap.objs.size f cd)
 N:=N
 s₀:=s
 H₀:=H
 env:=envOfC qual scope s.heap.objs.size f cd
 outer:=outer
 stack:=envOfC qual scope s.heap.objs.size f cd::outer
 ex:=[]
 calm:=true
 fn:=λ_=>true
 pn:=[]
 xe:=λe s'=>wpAny (model P w) (A.deeper (envOfC qual scope s.heap.objs.size f cd)) (leaving (envOfC qual scope s.heap.objs.size f cd) e) (λ_ s''=>CX outer H s E e s'') (λe' s''=>CX outer H s E e' s'') s'
theorem No{sc:Scope}{n:Nat}{x:Str}(h:sc.names.lookup x=some .cell):∃c,(cellsFrom n sc.names []).lookup x=some c:=by
 have q:=uc0 sc.names n [] (.inl h);exact jf.mp q
theorem Mm{CX:CXT}{N ps:List Str}{qual:Str}{scope:Scope}{f:ig}{cd:ie}{A:Around}{outer:List Env}{s1:ij}{E:XK}
 (S:FnScope N ps scope) (hd:A.handled=none) (e0:Env0 P w K mg base A outer s H) (hl:vs.length=ps.length) (r:Vals vs us)
 (x:InCallC s s.heap.objs.size (bindL (envOfC qual scope s.heap.objs.size f cd).kindOf (ps.zip us) λ_=>none) (cellsFrom (s.heap.objs.size+1) scope.names []) (bindC (envOfC qual scope s.heap.objs.size f cd).kindOf (ps.zip us) λ_=>none) s1) :
 Inv (D5 CX P w K mg base N qual scope f cd A outer s H E) [] (Dl N vs) H s1:=by
 have hpl:ps.length<=N.length:=by have:=lD List.length S.pre;rw[ug4] at this;lia
 clear 5 x.done h1 tk rfl hk;have noA:∀b:ig,b∉(D5 CX P w K mg base N qual scope f cd A outer s H E).ex:=λb z=>absurd (show b∈([]:List ig) from z) (by simp);refine⟨⟨e0.mod,S.kind,rfl,rfl,ul4 _,λy z c h1 h2=>?_,λy hy=>?_,λy c _ h=>?_,λ_=>hd,Around.frames_deeper e0.frames,.inr ⟨rfl,rfl⟩,λb z=>absurd z (noA b),e0.bs,e0.bsz,λb _ _=>noA b,λb z=>absurd z (noA b),e0.funs,e0.frf⟩,
  rfl,e0.bare,Un.kept hk,⟨_,x.toInCall.ns,λi y v h1 h2 h3=>?_⟩,λy c h=>⟨_,x.cell y c h⟩,e0.hok.fresh (ul4 _),λy c h=>?_,λp hp=>absurd (show p∈([]:List (ig×Obj)) from hp) (by simp),e0.hok.kept hk,?_⟩
 .exact name_of_addr x.apart (jw h1) (jw h2)
 .have hy:scope.names.lookup y=some .cell\/scope.names.lookup y=some .free:=hy;rcases hy with hy|hy
  .exact No hy
  .exact absurd rfl (S.nofree _ (jw hy))
 .exact la (x.above y c (jw h))
 .have hi:i<vs.length:=by
   unfold Dl at h2
   by_cases hi:i<vs.length
   .exact hi
   .rw[ua5 (by simpa using hi)] at h2;rw[ub5] at h2
    split at h2<;>cases h2
  have ha:vs[i]?=some v:=by
   unfold Dl at h2;rw[ub0 (by simpa using hi),uf2] at h2
   cases e:vs[i]? with
   |none=>rw[e] at h2;cases h2
   |some a=>rw[e] at h2;cases h2;rfl
  clear 5(r.get ha)u hu rv;have hp:ps[i]?=some y:=by
   rw[<-S.pre,List.getElem?_take_of_lt ∅];exact h1
  have ndP:ps.Nodup:=by rw[<-S.pre];exact S.nd.sublist (List.take_sublist _ _)
  refine⟨u,rv,?_⟩;rcases S.par y (ud3 hp) with k|k
  .exact .inl ⟨k,L8 ndP hp hu k⟩
  .clear 5(No (n:=s.heap.objs.size+1) k)c e;refine .inr ⟨.inl k,c,e,?_⟩;have q:=x.cell y c e;rw[L5 ndP hp hu (by show scope.names.lookup y≠_;rw[k];decide)] at q;exact q
 .exact e0.hok.fresh (la (x.above y c (jw h)))
 .unfold Dl;show _=N.length;rw[ue5,uh7,uc7];lia
theorem VF{CX:CXT}{k:Nat}{f:ig}{name qual:Str}{params:Arguments}{body:List Stmt}{scope:Scope}{dV kV doc pm cdv ct oc:ie}{an od:Option ig}
 {osl:Array (Option ie)}{N ps:List Str}{sp:Sp} (lk:K.lookup f=some ⟨oc,od,.func (PySem.W.fnOf name qual params body scope dV kV doc pm an cdv ct),osl⟩) (hcd:PySem.W.codeIn K cdv qual=true) (S:FnScope N ps scope)
 (len:∀vs H Q E,sp vs H Q E->vs.length=ps.length)
 (hbody:∀(A:Around) (outer:List Env) (s:ij) (H:Hp) (vs:List V) (Q:VK) (E:XK),Room k (A.deeper (envOfC qual scope s.heap.objs.size f cdv))->sp vs H Q E->
   ∃t,PSs (D5 CX P w K mg base N qual scope f cdv A outer s H E) body t/\t {nx:=λ_ H'=>Q .non H',rt:=Q} (Dl N vs) H) :
 FnOk P w K mg base CX (k+1) f (PySem.W.fnOf name qual params body scope dV kV doc pm an cdv ct) ps sp:=by
 refine⟨len,λA outer s H args us vs Q E hr e0 hb r hsp=>?_⟩;have hl:=len _ _ _ _ hsp;have KX:K.In s.heap:=e0.mod.kin.keeps λb o e=>(e0.bs b o e).1;have lim:s.heap.NoLimit:=e0.mod.nolimit.keeps λb o e=>(e0.bs b o e).1;have hkind:∀y∈ps.zip us,scope.names.lookup y.1=some .local\/(scope.names.lookup y.1=some .cell/\((cellsFrom (s.heap.objs.size+1) scope.names []).lookup y.1).isSome=true):=λz9 hy=>by
  clear 5 z9 n v;rcases S.par n (ui1 hy).1 with q|q
  .exact .inl q
  .exact .inr ⟨q,uc0 _ _ _ (.inl q)⟩
 refine codeAny_call_function hr.depth (KX _ _ lk) rfl S.co S.gen rfl (PySem.W.codeRec_of KX hcd) (hb _ _ _ _ ?_);refine jb S.kind hkind λenv he s1 x=>?_;subst he;refine⟨lim.keeps x.toInCall.keep,codeAny_func ?_⟩;clear 5(hbody A outer s H vs Q E (hr.deeper _) hsp)t ht hq;have I:Inv (D5 CX P w K mg base N qual scope f cdv A outer s H E) [] (Dl N vs) H s1:=Mm S hr.hd e0 hl r x;refine um0 (ht [] s1 (Dl N vs) H _ I hq) (λfl s' hs=>?_) λe s' hs=>hs;have fin:∀{σ':St}{H':Hp}{v:V}{u:ie},Inv (D5 CX P w K mg base N qual scope f cdv A outer s H E) [] σ' H' s'->RelV v u->Q v H'->CE outer P w H s Q u s':=
  λ{σ' H' v u} J rv q=>⟨v,H',J.os,J.bare,J.base,J.hok,rv,q⟩
 cases fl with
 |ret u=>
   clear 5 hs v σ' H' J rv q;exact fin J rv q
 |next=>
   clear 5 hs σ' H' J q;exact fin (v:=V.non) (u:=Value.none) J rfl q
 |brk=>
   obtain⟨_,_,_,q⟩:=hs;exact False.elim q
 |cont=>
   obtain⟨_,_,_,q⟩:=hs;exact False.elim q
section
variable{X:Cx}{x:Str}{p pos:Pos}{e:Expr}{es:List Expr}{t:TA}{id T:String}{r:List V->Hp->VK->Prop}
def tCB(r:List V->Hp->VK->Prop)(t:TA):TE:=λσ H Q=>t σ H λvs H1=>r vs H1 Q
theorem NU(hc:Dv X (.builtin id) r)(hg:Gl X x)(hm:X.mg x=none)(hv:bootBuiltins x=some (.builtin id))(ha:PA X (e::es) t)(hn:x≠"__name__":=by decide)(hdb:(x==("__debug__":Str))=false:=by decide)
 (he:starEach (e::es) X.env=(false,eval e X.env)::starEach es X.env:=by rfl) (hpl:(backTo pos (starEach es X.env)).any (·.1)=false:=by rfl):PE X (.Call (.Name x p) (e::es) [] pos) (tCB r t):=by
 intro ic s σ H Q I h;refine jz (G8 I hg hm hv ?_ hn hdb);exact PyProof.Rows.callWith_builtin1 (thn (ha pos ic s σ H _ I h) λus s1 z9=>by clear 5 z9 vs H1 I1 r1 q1;exact hc ic s1 σ H1 vs us Q I1 r1 q1) he hpl
theorem IL(hc:Dv X (.type T) r)(hg:Gl X x)(hm:X.mg x=none)(hv:bootBuiltins x=some (.type T))(ha:PA X (e::es) t)(hn:x≠"__name__":=by decide)(hdb:(x==("__debug__":Str))=false:=by decide)
 (he:starEach (e::es) X.env=(false,eval e X.env)::starEach es X.env:=by rfl) (hpl:(backTo pos (starEach es X.env)).any (·.1)=false:=by rfl):PE X (.Call (.Name x p) (e::es) [] pos) (tCB r t):=by
 intro ic s σ H Q I h;refine jz (G8 I hg hm hv ?_ hn hdb);exact ua3 (thn (ha pos ic s σ H _ I h) λus s1 z9=>by clear 5 z9 vs H1 I1 r1 q1;exact hc ic s1 σ H1 vs us Q I1 r1 q1) he hpl
end
end
end L2
namespace HT
open PySem PyProof.Rows
section
open PySem.SeqAt
open PySem.AutoSeq1 (wpAny_loadPart')
open PySem.MeetsSeq PySem.MeetsSeq2 PySem.MeetsSeq3
end
section
variable{prog:im}{w:ir}{A:Around}{E:ie->ij->Prop}{s:ij}
noncomputable def sIx(n d:Nat):Option Int->Nat
 |none=>d
 |some v=>if v<0 then(v+(n:Int)).toNat else min v.toNat n
theorem UZ(n d:Nat):sIx n d none=d:=rfl
theorem Xy(n d k:Nat):sIx n d (some (k:Int))=min k n:=by
 show(if (k:Int)<0 then((k:Int)+(n:Int)).toNat else min (k:Int).toNat n)=min k n;rw[lK ∅,uf3]
end
end HT
namespace L2
open PySem PySem.Spec PyProof.Rows
abbrev TO:=St->Hp->(Option Int->Hp->Prop)->Prop
def PO(X:Cx)(e:Option Expr)(t:TO):Prop:=
 ∀(ic:List (ig×Obj)) (s:ij) (σ:St) (H:Hp) (Q:Option Int->Hp->Prop),Inv X ic σ H s->t σ H Q->
  wpAny (model X.prog X.w) X.A (evalPart e X.env) (λu s'=>∃o H',Inv X ic σ H' s'/\IsPart u o/\Q o H') X.xe s
def X3:TO:=λ_ H Q=>Q none H
def cj(t:TE):TO:=λσ H Q=>t σ H λx H1=>∃i,x=.int i/\Q (some i) H1
section
variable{X:Cx}{e:Expr}{te:TE}{lo hi:Option Expr}{tl th:TO}{pos p2:Pos}
theorem Xk:PO X none X3:=by
 intro ic s σ H Q I h;rw[evalPart_none];exact ul9 ⟨none,H,I,.none,h⟩
theorem Xl(h:PE X e te):PO X (some e) (cj te):=by
 intro ic s σ H Q I hw;rw[evalPart_some];refine thn (h ic s σ H _ I hw) λu s1 z9=>?_;clear 5 z9 x H1 I1 r1 q1;clear 5 q1 i rfl q;clear 5 r1 t rfl;exact⟨some i,H1,I1,.int i t,q⟩
def SlR(X:Cx)(r:V->Option Int->Option Int->Hp->VK->Prop):Prop:=
 ∀(ic:List (ig×Obj)) (s:ij) (σ:St) (H:Hp) (x:V) (v vl vu:ie) (lo hi:Option Int) (sl:ig) (Q:VK),Inv X ic σ H s->RelV x v->s.heap.IsSliceOf sl vl vu .none->IsPart vl lo->IsPart vu hi->r x lo hi H Q->
  ∃T id,typeLookup (.type T) "__getitem__" = pure (some (.builtin id))/\s.TypeIs v T/\wpAny (model X.prog X.w) X.A (getItem v (.ref sl)) (EP X ic σ Q) X.xe s
theorem SlR.or{r r':V->Option Int->Option Int->Hp->VK->Prop}(h:SlR X r)(h':SlR X r'):SlR X (λx lo hi H Q=>r x lo hi H Q\/r' x lo hi H Q):=by
 intro ic s σ H x v vl vu lo hi sl Q I rx hs pl pu q;rcases q with q|q
 .exact h ic s σ H x v vl vu lo hi sl Q I rx hs pl pu q
 .exact h' ic s σ H x v vl vu lo hi sl Q I rx hs pl pu q
def tSl(r:V->Option Int->Option Int->Hp->VK->Prop)(te:TE)(tl th:TO):TE:=λσ H Q=>te σ H λx H1=>tl σ H1 λl H2=>th σ H2 λu H3=>r x l u H3 Q
theorem NV{r:V->Option Int->Option Int->Hp->VK->Prop}(hr:SlR X r)(he:PE X e te)(hl:PO X lo tl)(hu:PO X hi th):PE X (.Subscript e (.Slice lo hi none p2) pos) (tSl r te tl th):=by
 intro ic s σ H Q I h;refine Subscript_ (thn (he ic s σ H _ I h) λv s1 z9=>?_);clear 5 z9 x H1 I1 r1 q1;refine wpAny_Slice (thn (hl ic s1 σ H1 _ I1 q1) λvl s2 ⟨l,H2,I2,pl,q2⟩=>thn (hu ic s2 σ H2 _ I2 q2) λvu s3 z9=>?_);clear 5 z9 u H3 I3 pu q3;rw[evalPart_none];refine ul9 ?_;have I4:Inv X ic σ H3 {s3 with heap:=s3.heap.push {cls:=.type "slice",data:=.fields #[vl,vu,.none]} }:=I3.kept (t':=s3.toks) λb ob q=>ub9 _ q;clear 5(hr ic {s3 with heap:=s3.heap.push {cls:=.type "slice",data:=.fields #[vl,vu,.none]} } σ H3 x v vl vu l u s3.heap.objs.size Q I4 r1 (Heap.IsSliceOf.new ..) pl pu q3)T id hT ht hg;show wpAny (model X.prog X.w) X.A (subscriptTail e (.Slice lo hi none p2) v (.ref s3.heap.objs.size)) (EP X ic σ Q) X.xe {s3 with heap:=s3.heap.push {cls:=.type "slice",data:=.fields #[vl,vu,.none]} };exact tail_any (ops:=[.ref s3.heap.objs.size,v]) ht hT hg (by with_unfolding_all rfl)
def JN(xs:List V)(lo hi:Option Int):List V:=(xs.drop (HT.sIx xs.length 0 lo)).take (HT.sIx xs.length xs.length hi-HT.sIx xs.length 0 lo)
theorem Os(xs:List V)(lo hi:Option Int):(JN xs lo hi).length<=xs.length:=by
 unfold JN;rw[ug4,ug5];lia
end
noncomputable def ixN(n:Nat)(i:Int):Option Nat:=if 0<=i then(if i<n then some i.toNat else none) else if -(n:Int)<=i then some (i+n).toNat else none
def atI{α:Type}(xs:List α)(i:Int):Option α:=(ixN xs.length i).bind λj=>xs[j]?
theorem OZ{n:Nat}{i:Int}{j:Nat}(h:ixN n i=some j):seqIndex? i n=some j/\j<n/\-(n:Int)<=i/\i<n:=by
 unfold ixN at h
 by_cases h0:0<=i
 .rw[lJ h0] at h
  by_cases h1:i<n
  .rw[lJ h1] at h;have e:i.toNat=j:=uh6 h;exact⟨by rw[seqIndex_of h0 h1,e],by lia,by lia,h1⟩
  .rw[lK h1] at h;cases h
 .rw[lK h0] at h
  by_cases h1 : -(n:Int)<=i
  .rw[lJ h1] at h;have e:(i+n).toNat=j:=uh6 h;exact⟨by rw[seqIndex_neg ∅ h1,e],by lia,h1,by lia⟩
  .rw[lK h1] at h;cases h
theorem Lk{α:Type}{xs:List α}{i:Int}{v:α}(h:atI xs i=some v):∃j,seqIndex? i xs.length=some j/\xs[j]?=some v/\j<xs.length/\-(xs.length:Int)<=i/\i<xs.length:=by
 unfold atI at h
 cases e:ixN xs.length i with
 |none=>rw[e] at h;cases h
 |some j=>
   rw[e] at h;clear 5(OZ e)h1 h2 h3 h4;exact⟨j,h1,h,h2,h3,h4⟩
theorem Jc{α:Type}{xs:List α}{j:Nat}{v:α}(h:xs[j]?=some v):atI xs (j:Int)=some v:=by
 have hj:j<xs.length:=(ua9.mp h).1;have e:ixN xs.length (j:Int)=some j:=by
  unfold ixN;rw[lJ ∅,lJ ∅];simp
 unfold atI;rw[e];exact h
def OC(b:Expr):Prop:=∀o i,subscripted b false o i=operate [o,i] (getItem o i)
def IxR(X:Cx)(r:R2):Prop:=
 ∀(value slice:Expr) (ic:List (ig×Obj)) (s:ij) (σ:St) (H:Hp) (x y:V) (v u:ie) (Q:VK),Inv X ic σ H s->RelV x v->RelV y u->r x y H Q->
  subscripted slice false v u=operate [v,u] (getItem v u)->wpAny (model X.prog X.w) X.A (subscriptTail value slice v u) (EP X ic σ Q) X.xe s
def MtR(X:Cx)(id:String)(r:V->List V->Hp->VK->Prop):Prop:=
 ∀(ic:List (ig×Obj)) (s:ij) (σ:St) (H:Hp) (x:V) (xs:List V) (v:ie) (us:List ie) (Q:VK),Inv X ic σ H s->RelV x v->Vals xs us->r x xs H Q->
  wpAny (model X.prog X.w) X.A (call (.builtin id) (v::us)) (EP X ic σ Q) X.xe s
section
variable{X:Cx}{a b:Expr}{ta tb:TE}{pos:Pos}
theorem IxR.or{r r':R2}(h:IxR X r)(h':IxR X r'):IxR X (λx y H Q=>r x y H Q\/r' x y H Q):=by
 intro value slice ic s σ H x y v u Q I rx ry q hs;rcases q with q|q
 .exact h value slice ic s σ H x y v u Q I rx ry q hs
 .exact h' value slice ic s σ H x y v u Q I rx ry q hs
theorem bM{r:R2}(hr:IxR X r)(ha:PE X a ta)(hb:PE X b tb)(hs:OC b):PE X (.Subscript a b pos) (tOp r ta tb):=by
 intro ic s σ H Q I h;exact Subscript_ (TC ha hb I h λv u s2 x y H2 I2 rx ry q=>hr a b ic s2 σ H2 x y v u Q I2 rx ry q (hs _ _))
def ac(K:ib):R2:=λx y H Q=>∃p xs i v,x=.ref p/\y=.int i/\SqL K H p xs/\atI xs i=some v/\Q v H
def ae(K:ib):R2:=λx y H Q=>∃p xs i v,x=.ref p/\y=.int i/\SqT K H p xs/\atI xs i=some v/\Q v H
def ad:R2:=λx y H Q=>∃z i c,x=.str z/\y=.int i/\z.length<=sizeLine/\atI z.cps.toList i=some c/\Q (.str ⟨#[c]⟩) H
theorem ix_list:IxR X (ac X.K):=by
 intro value slice ic s σ H x y v u Q I rx ry h hs;clear 5 h p xs i z rfl rfl hq he q
 cases rx
 clear 5 ry t rfl;clear 5(I.list hq)its r pl hz;clear 5(Lk he)j h1 h2 h3 h4 h5;clear 5(r.get h2)w ew rw';have hl:=r.length;have hn:=Iz;have fin:EP X ic σ Q w s:=⟨z,H,I,rw',q⟩
 by_cases h0:0<=i
 .have hj:i.toNat=j:=by
   rw[seqIndex_of h0 h5] at h1;exact uh6 h1
  exact item_listR pl.isList h0 ∅ (by rw[hj];simpa using ew) fin hs
 .have hj:(i+(its.toArray.size:Int)).toNat=j:=by
   rw[seqIndex_neg ∅ h4] at h1;rw[uf1,<-hl];exact uh6 h1
  exact subscriptTail_builtinR (x:=w) pl.isList.typeIs slot_list_getitem.lookup
   (wpAny_getItem_list_neg (Q:=λr s'=>r=w/\EP X ic σ Q r s') pl.isList ∅ (by rw[uf1]<;>lia) ∅ (by rw[hj];simpa using ew) ⟨rfl,fin⟩) hs
theorem ix_tup:IxR X (ae X.K):=by
 intro value slice ic s σ H x y v u Q I rx ry h hs;clear 5 h p xs i z rfl rfl hq he q
 cases rx
 clear 5 ry t rfl;clear 5(I.tuple hq)its r pl hz;clear 5(Lk he)j h1 h2 h3 h4 h5;clear 5(r.get h2)w ew rw';have hl:=r.length;have hn:=Iz;have fin:EP X ic σ Q w s:=⟨z,H,I,rw',q⟩;exact subscriptTail_builtinR (x:=w) pl.typeIs slot_tuple_getitem.lookup
  (getItem_tuple (j:=j) (Q:=λr s'=>r=w/\EP X ic σ Q r s') pl ∅ ∅ (by rw[uf1,<-hl];exact h1) (by simpa using ew) ⟨rfl,fin⟩) hs
theorem Zg:IxR X ad:=by
 intro value slice ic s σ H x y v u Q I rx ry h hs;clear 5 h z i c rfl rfl hz he q;clear 5 rx t rfl;clear 5 ry t' rfl;clear 5(Lk he)j h1 h2 h3 h4 h5;have hl:z.cps.toList.length=z.length:=by simp[Str.length]
 rw[hl] at h1 h4 h5;have hn:=Iz;exact tail_any (typeIs_str s z t) slot_str_getitem.lookup (getItem_str (c:=c) (by
  have e1:decide (i < -(2 ^ 63:Int))=false:=ui9 ∅;have e2:decide (i ≥ 2 ^ 63)=false:=ui9 ∅;rw[e1,e2,uj9]) (by rw[h1];simpa using h2) ⟨.str ⟨#[c]⟩,H,I.tok _,⟨_,rfl⟩,q⟩) hs
def rIx(K:ib):R2:=λx y H Q=>ac K x y H Q\/ae K x y H Q\/ad x y H Q
theorem Zf:IxR X (rIx X.K):=ix_list.or (ix_tup.or Zg)
theorem Qe(its:List ie)(n j:Nat)(u:ie):Obj.mapSeq (·.setIfInBounds j u) {cls:=.type "list",data:=.seq its.toArray n} = {cls:=.type "list",data:=.seq (its.set j u).toArray n}:=by
 simp[Obj.mapSeq]
theorem Inv.lst{ic:List (ig×Obj)}{σ:St}{H:Hp}{s:ij}{p:ig}{xs:List V}(I:Inv X ic σ H s)(h:H p=some (.lst xs)) :
 ∃(its:List ie) (n:Nat),Vals xs its/\s.heap.get? p=some {cls:=.type "list",data:=.seq its.toArray n}/\xs.length<=sizeLine:=by
 clear 5(I.hok p _ h)z its n r e;exact⟨its,n,r,e,z⟩
theorem Inv.lstUpd{ic:List (ig×Obj)}{σ:St}{H:Hp}{s:ij}{p:ig}{xs ys:List V}{its its':List ie}{n n':Nat}{f:Obj->Obj}(I:Inv X ic σ H s)(h:H p=some (.lst xs))
 (ho:s.heap.get? p=some {cls:=.type "list",data:=.seq its.toArray n}) (hf:f {cls:=.type "list",data:=.seq its.toArray n} = {cls:=.type "list",data:=.seq its'.toArray n'}) (r:Vals ys its') (hz:ys.length<=sizeLine) (t:Nat) :
 Inv X ic σ (upd H p (.lst ys)) {s with heap:=s.heap.update p f,toks:=t}:=by
 have e:(s.heap.update p f).get? p=some {cls:=.type "list",data:=.seq its'.toArray n'}:=by
  rw[uc8 f ho (by rw[hf]<;>rfl),hf]
 refine I.write (x:=p) (e:=p) (by rw[h];trivial) (.inl rfl) (λb u hb q=>(uc1 _ _ (Ne.symm hb)).trans q) ⟨_,e⟩ ?_;exact⟨hz,its',n',r,e⟩
def bX:V->V->V->Hp->(Hp->Prop)->Prop:=λo i v H Q=>∃p xs k j,o=.ref p/\i=.int k/\H p=some (.lst xs)/\ixN xs.length k=some j/\Q (upd H p (.lst (xs.set j v)))
theorem U9:Tt X bX:=by
 intro ic s σ H o i v ov iv u Q I ro ri rv h;clear 5 h p xs k j rfl rfl hp hj q
 cases ro
 clear 5 ri t rfl;clear 5(I.lst hp)its n r ho hz;clear 5(OZ hj)h1 h2 h3 h4;have hl:=r.length;have hn:=Iz;have I':Inv X ic σ (upd H p (.lst (xs.set j v))) {s with heap:=s.heap.update p (Obj.mapSeq (·.setIfInBounds j u))}:=
  I.lstUpd hp ho (Qe its n j u) (r.set rv j) (by rw[ui2];exact hz) s.toks
 by_cases h0:0<=k
 .have hk:k.toNat=j:=by
   rw[seqIndex_of h0 h4] at h1;exact uh6 h1
  exact PySem.W.ki_setAt ho h0 ∅ (by rw[uf1,<-hl];exact h4) (by rw[hk];exact⟨_,I',q⟩)
 .have hk:(k+(its.toArray.size:Int)).toNat=j:=by
   rw[seqIndex_neg ∅ h3] at h1;rw[uf1,<-hl];exact uh6 h1
  exact PySem.W.ki_setBack ho ∅ (by rw[uf1,<-hl];exact h3) ∅ (by rw[hk];exact⟨_,I',q⟩)
theorem Oa(lo hi:Option Int)(n:Nat):(sliceBounds lo hi none n).1=((HT.sIx n 0 lo:Nat):Int)/\(sliceBounds lo hi none n).2.1=((HT.sIx n n hi:Nat):Int)/\(sliceBounds lo hi none n).2.2=1:=by
 refine⟨?_,?_,rfl⟩
 .cases lo with
  |none=>simp[sliceBounds,HT.sIx]
  |some i=>
    simp only[sliceBounds,HT.sIx,Option.getD_none,show(1:Int) > 0 by decide,lH]
    by_cases h:i<0
    .simp only[h,lH]<;>lia
    .simp only[h,lF]<;>lia
 .cases hi with
  |none=>simp[sliceBounds,HT.sIx]
  |some i=>
    simp only[sliceBounds,HT.sIx,Option.getD_none,show(1:Int) > 0 by decide,lH]
    by_cases h:i<0
    .simp only[h,lH]<;>lia
    .simp only[h,lF]<;>lia
theorem MN(its:List ie)(lo hi:Option Int):slicePick its.toArray lo hi none=((its.drop (HT.sIx its.length 0 lo)).take (HT.sIx its.length its.length hi-HT.sIx its.length 0 lo)).toArray:=by
 clear 5(Oa lo hi its.toArray.size)h1 h2 h3;unfold slicePick;rw[h1,h2,h3];simp only[sliceRange_one,pick_run,uf1]<;>rfl
def af(K:ib):V->Option Int->Option Int->Hp->VK->Prop:=λx lo hi H Q=>∃a xs,x=.ref a/\SqL K H a xs/\∀p,H p=none->Q (.ref p) (upd H p (.lst (JN xs lo hi)))
theorem XX:SlR X (af X.K):=by
 intro ic s σ H x v vl vu lo hi sl Q I rx hs pl pu h;clear 5 h a xs rfl hx q
 cases rx
 clear 5(I.list hx)its r ht hz;have hlen:=r.length;refine⟨"list",_,slot_list_getitem.lookup,ht.isList.typeIs,?_⟩;refine wpAny_getItem_list_slice ht.isList hs pl pu .none (by simp) ?_ (by rw[uf1]<;>lia);rw[MN,<-hlen];refine⟨.ref s.heap.objs.size,_,I.laid (t':=s.toks) (o:=.lst (JN xs lo hi)) (λb ob q=>ub9 _ q) (ul4 _) ?_,rfl,q _ (I.hok.fresh (ul4 _))⟩;exact⟨uk9 (Os xs lo hi) hz,_,0,(r.drop (HT.sIx xs.length 0 lo)).take (HT.sIx xs.length xs.length hi-HT.sIx xs.length 0 lo),ud6 _ rfl⟩
theorem Nn:Dv X (.type "list") (λxs H Q=>∃p ys,xs=[.ref p]/\(SqL X.K H p ys\/SqT X.K H p ys)/\∀l,H l=none->Q (.ref l) (upd H l (.lst ys))):=by
 intro ic s σ H xs us Q I r h;clear 5 h p ys rfl hq q;clear 5(HL r)u rfl rx
 cases rx
 have fin:∀(its:List ie),Vals ys its->ys.length<=sizeLine->∀(h':Heap) (c':Nat),(∀b o',s.heap.get? b=some o'->h'.get? b=some o')->
  h'.get? s.heap.objs.size=some {cls:=.type "list",dict:=none,data:=.seq its.toArray c',slots:=#[]}->EP X ic σ Q (.ref s.heap.objs.size) {s with heap:=h'}:=λits r' hz h' c' kp e=>
  ⟨.ref s.heap.objs.size,_,I.laid (t':=s.toks) kp (ul4 _) (show ObjOk X.prog X.w _ h' _ (.lst ys) from⟨hz,its,c',r',e⟩),rfl,q _ (I.hok.fresh (ul4 _))⟩
 rcases hq with hq|hq
 .clear 5(I.list hq)its r' pl hz;have hlen:=r'.length;clear 5 pl.isList o ho hc n hd;exact call_list_seq p (.inl rfl) ho hc hd (λh' c' kp e=>fin its r' hz h' c' kp e) (by simp only[uf1]<;>lia)
 .clear 5(I.tuple hq)its r' pl hz;have hlen:=r'.length;clear 5 pl o ho hc n hd;exact call_list_seq p (.inr rfl) ho hc hd (λh' c' kp e=>fin its r' hz h' c' kp e) (by simp only[uf1]<;>lia)
def tyV(K:ib)(T:String)(x:V)(H:Hp):Prop:=match x with
 |.str _=>T = "str"
 |.int _=>T = "int"
 | .ref p=>(T = "list"/\∃xs,SqL K H p xs)\/(T = "tuple"/\∃o,K.lookup p=some o/\o.cls = .type "tuple"/\o.dict=none)\/
    (T = "dict"/\((∃kvs,H p=some (.dK kvs))\/∃kvs,H p=some (.dT kvs)))\/(T = "set"/\∃S n,H p=some (.set S n))
 |_=>False
theorem Tl{ic:List (ig×Obj)}{σ:St}{H:Hp}{s:ij}{T:String}{x:V}{v:ie}(I:Inv X ic σ H s)(r:RelV x v)(ty:tyV X.K T x H) :
 s.TypeIs v T/\∀a,v=.ref a->∃ob,s.heap.get? a=some ob/\ob.dict=none:=by
 cases x with
 |str z=>
   clear 5 r t rfl
   cases (show T = "str" from ty)
   exact⟨typeIs_str s z t,λ_ e=>nomatch e⟩
 |int i=>
   clear 5 r t rfl
   cases (show T = "int" from ty)
   exact⟨ly s i t,λ_ e=>nomatch e⟩
 |ref p=>
   cases r
   rcases ty with⟨rfl,xs,hq⟩|⟨rfl,o,hk,hc,hd⟩|⟨rfl,hk⟩|⟨rfl,S,n,hk⟩
   .obtain⟨its,_,pl,_⟩:=I.list hq;refine⟨pl.isList.typeIs,λa e=>?_⟩
    cases e
    obtain⟨o,n,e,c,hd,_⟩:=pl;exact⟨o,e,hd⟩
   .refine⟨⟨o,I.kIn p o hk,hc⟩,λa e=>?_⟩
    cases e
    exact⟨o,I.kIn _ o hk,hd⟩
   .have z:∃o,s.heap.get? p=some o/\o.ExactDict:=by
     rcases hk with⟨kvs,hk⟩|⟨kvs,hk⟩
     .obtain⟨_,_,_,_,o,_,_,e,ex,_⟩:=I.hok p _ hk;exact⟨o,e,ex⟩
     .obtain⟨_,_,_,_,o,_,_,e,ex,_⟩:=I.hok p _ hk;exact⟨o,e,ex⟩
    clear 5 z o e ex;refine⟨⟨o,e,ex.1⟩,λa e2=>?_⟩
    cases e2
    exact⟨o,e,ex.2.1⟩
   .obtain⟨o,_,_,_,e,ex,_⟩:=I.hok p _ hk;refine⟨⟨o,e,ex.1⟩,λa e2=>?_⟩
    cases e2
    exact⟨o,e,ex.2.1⟩
 |_=>exact False.elim ty
def eJ(K:ib)(T:String)(r:V->List V->Hp->VK->Prop)(to:TE):TE:=λσ H Q=>to σ H λx H1=>tyV K T x H1/\r x [] H1 Q
def tBM(K:ib)(T:String)(r:V->List V->Hp->VK->Prop)(to:TE)(t:TA):TE:=λσ H Q=>to σ H λx H1=>tyV K T x H1/\t σ H1 λxs H2=>r x xs H2 Q
variable{o e:Expr}{es:List Expr}{to:TE}{t:TA}{name:Str}{apos cpos:Pos}{T id:String}{r:V->List V->Hp->VK->Prop}
theorem ZQ(pa:PlainAttrs T)(slot:Slot T name id)(hty:typeOf (.builtin id)=pure (.type "method_descriptor"))(hm:MtR X id r)(ho:PE X o to)
 (hbase:attributeBase o name X.env (eval o X.env)=eval o X.env:=by rfl) (hline:(apos.endLine==cpos.line)=true:=by rfl):PE X (.Call (.Attribute o name apos) [] [] cpos) (eJ X.K T r to):=by
 intro ic s σ H Q I h;refine wpAny_Call_method0_late hbase hline (thn (ho ic s σ H _ I h) λv s1 z9=>?_);clear 5 z9 x H1 I1 r1 ty q1;clear 5(Tl I1 r1 ty)h1 h2;exact⟨T,id,pa,slot,hty,h1,h2,Calls.callWith_builtin rfl (PySem.evalArgs_none (hm ic s1 σ H1 x [] v [] Q I1 r1 .nil q1))⟩
theorem KQ(pa:PlainAttrs T)(slot:Slot T name id)(hty:typeOf (.builtin id)=pure (.type "method_descriptor"))(hm:MtR X id r)(ho:PE X o to)(ha:PA X (e::es) t)
 (hbase:attributeBase o name X.env (eval o X.env)=eval o X.env:=by rfl)
 (hfew:((backTo cpos (starEach (e :: es) X.env)).all (λx=>!x.1) && (backToKw cpos (keywordEach [] X.env)).all (λx=>x.1.isSome)
   && decide ((e::es).length+([]:List Keyword).length+(if ([]:List Keyword).isEmpty then 0 else 1)<30))=true:=by rfl)
 (hline:(apos.endLine==cpos.line)=true:=by rfl) (hs:starEach (e::es) X.env=(false,eval e X.env)::starEach es X.env:=by rfl) (hplain:(backTo cpos (starEach es X.env)).any (·.1)=false:=by rfl) :
 PE X (.Call (.Attribute o name apos) (e::es) [] cpos) (tBM X.K T r to t):=by
 intro ic s σ H Q I h;refine wpAny_Call_method_late hbase hfew hline rfl (thn (ho ic s σ H _ I h) λv s1 z9=>?_);clear 5 z9 x H1 I1 r1 ty q1;clear 5(Tl I1 r1 ty)h1 h2;refine⟨T,id,pa,slot,hty,h1,h2,?_⟩;have hA:=ha cpos ic s1 σ H1 _ I1 q1;rw[hs] at hA⊢;refine Calls.callWith_builtin (by show(false||(backTo cpos (starEach es X.env)).any (·.1))=false;rw[hplain]<;>rfl) (Calls.evalArgs_plain ?_);exact thn hA λus s2 ⟨vs,H2,I2,r2,q2⟩=>hm ic s2 σ H2 x vs v us Q I2 r1 r2 q2
/- xs.append(e),list.index on a module's tuple .. are MtR facts of 06m -/
end
def MtM(X:Cx)(id:String)(r:V->List V->Hp->VK->Prop):Prop:=
 ∀(ic:List (ig×Obj)) (s:ij) (σ:St) (H:Hp) (x:V) (xs:List V) (v:ie) (us:List ie) (Q:VK),Inv X ic σ H s->RelV x v->Vals xs us->r x xs H Q->
  wpAny (model X.prog X.w) X.A (call (.builtin id) (v::us)) (EP X ic σ Q) X.xe s
theorem Vals.one{x:V}{us:List ie}(h:Vals [x] us):∃u,us=[u]/\RelV x u:=by
 cases h with
 |cons r t=>
   cases t
   exact⟨_,rfl,r⟩
theorem Vals.zero:∀{us:List ie},Vals [] us->us=[]
 |_,.nil=>rfl
theorem Vals.rep{xs:List V}{us:List ie}(h:Vals xs us):∀k:Nat,Vals (List.replicate k xs).flatten (List.replicate k us).flatten
 |0=>.nil
 |k+1=>by
   rw[ud8,ud8,uf4,uf4];exact Vals.append h (Vals.rep h k)
section
variable{X:Cx}{ic:List (ig×Obj)}{σ:St}{H:Hp}{s:ij}{l b:ig}{xs ys zs:List V}
theorem Inv.lset{its its':List ie}{n:Nat}{f:Array ie->Array ie}{t':Nat}(I:Inv X ic σ H s)(hH:H l=some (.lst xs))
 (e:s.heap.get? l=some {cls:=.type "list",data:=.seq its.toArray n}) (hf:f its.toArray=its'.toArray) (hv:Vals ys its') (hz:ys.length<=sizeLine) :
 Inv X ic σ (upd H l (.lst ys)) {s with heap:=s.heap.update l (Obj.mapSeq f),toks:=t'}:=by
 have q:=PySem.IsL.update e f;rw[hf] at q;refine I.write (x:=l) (e:=l) (by rw[hH];exact trivial) (.inl rfl) (λb' u hb hu=>(uc1 s.heap (Obj.mapSeq f) (Ne.symm hb)).trans hu) ⟨_,q⟩ ?_;exact⟨hz,its',_,hv,q⟩
theorem Inv.lnew{its:List ie}{t':Nat}(I:Inv X ic σ H s)(hv:Vals ys its)(hz:ys.length<=sizeLine) :
 Inv X ic σ (upd H s.heap.objs.size (.lst ys)) {s with heap:=s.heap.push {cls:=.type "list",data:=.seq its.toArray},toks:=t'}:=
 I.laid (λ_ _ q=>ub9 _ q) (ul4 _) ⟨hz,its,0,hv,ud6 _ rfl⟩
theorem Inv.fresh(I:Inv X ic σ H s):H s.heap.objs.size=none:=I.hok.fresh (ul4 _)
theorem Inv.lstM(I:Inv X ic σ H s)(hH:H l=some (.lst xs)):xs.length<=sizeLine/\∃(its:List ie) (n:Nat),Vals xs its/\xs.length=its.length/\s.heap.get? l=some {cls:=.type "list",data:=.seq its.toArray n}:=by
 clear 5(I.hok l _ hH)z its n r e;exact⟨z,its,n,r,r.length,e⟩
theorem NP{n:Nat}(h:n<=sizeLine):Builtin.List.listTooLong n=false:=by
 unfold Builtin.List.listTooLong;exact ui9 ∅
end
section
variable{X:Cx}
def O9:V->List V->Hp->VK->Prop:=λx vs H Q=>∃l xs y,x=.ref l/\vs=[y]/\H l=some (.lst xs)/\xs.length<sizeLine/\Q .non (upd H l (.lst (xs++[y])))
theorem Mq:MtM X "list.append" O9:=by
 intro ic s σ H x vs v us Q I rx rv h;clear 5 h l xs y rfl rfl hH hz q
 cases rx
 clear 5 rv.one u rfl ru;clear 5(I.lstM hH)z its n r hl e;refine lz F.slot_list_append ⟨_,e,rfl⟩ F.entry_list_append (F.args_list_append_2 _ _) (PySem.list_append l its.toArray n u (by rw[uf1];lia)) ⟨e,?_⟩;refine⟨.non,_,I.lset (its':=its++[u]) hH e (by simp) (r.append (.cons ru .nil)) ?_,rfl,q⟩;rw[ue5,uc9];lia
def Pa:V->List V->Hp->VK->Prop:=λx vs H Q=>∃l b xs zs,x=.ref l/\vs=[.ref b]/\H l=some (.lst xs)/\H b=some (.lst zs)/\xs.length+zs.length<=sizeLine/\Q .non (upd H l (.lst (xs++zs)))
theorem Se:MtM X "list.extend" Pa:=by
 intro ic s σ H x vs v us Q I rx rv h;clear 5 h l b xs zs rfl rfl hH hB hz q
 cases rx
 clear 5 rv.one u rfl ru
 cases ru
 clear 5(I.lstM hH)z its n r hl e;clear 5(I.lstM hB)z2 its2 n2 r2 hl2 e2;have hsz:its.toArray.size+its2.toArray.size<=sizeLine:=by rw[uf1,uf1];lia
 have hlong:¬(!its.toArray.isEmpty&&Builtin.List.listTooLong (its.toArray.size+its2.toArray.size))=true:=by
  rw[NP hsz,uj2];exact ue2
 refine lz F.slot_list_extend ⟨_,e,rfl⟩ F.entry_list_extend (F.args_list_extend_2 _ _)
  (AutoSeq1.list_extend_list_list_0 l its.toArray n b its2.toArray n2 hlong (by rw[uf1];lia) ∅) ⟨e,e2,?_⟩
 refine⟨.non,_,I.lset (its':=its++its2) hH e (by simp) (r.append r2) ?_,rfl,q⟩;rw[ue5];lia
def Z8:V->List V->Hp->VK->Prop:=λx vs H Q=>∃l xs,x=.ref l/\vs=[]/\H l=some (.lst xs)/\Q .non (upd H l (.lst []))
theorem Uz:MtM X "list.clear" Z8:=by
 intro ic s σ H x vs v us Q I rx rv h;clear 5 h l xs rfl rfl hH q
 cases rx
 have hus:=rv.zero;subst hus;clear 5(I.lstM hH)z its n r hl e;refine lz F.slot_list_clear ⟨_,e,rfl⟩ F.entry_list_clear (F.args_list_clear_1 _) (AutoSeq1.list_clear_list_0 l its.toArray n (by rw[uf1];lia)) ⟨e,?_⟩;exact⟨.non,_,I.lset (its':=[]) (ys:=[]) hH e rfl .nil (ul5 _),rfl,q⟩
def UR:R2:=λx y H Q=>∃l b xs zs,x=.ref l/\y=.ref b/\H l=some (.lst xs)/\H b=some (.lst zs)/\xs.length+zs.length<=sizeLine/\∀p,H p=none->Q (.ref p) (upd H p (.lst (xs++zs)))
theorem Sq:OpR X (binaryOp .Add) UR:=by
 intro ic s σ H x y v u Q I rx ry h;clear 5 h l b xs zs rfl rfl hH hB hz q
 cases rx
 cases ry
 clear 5(I.lstM hH)z its n r hl e;clear 5(I.lstM hB)z2 its2 n2 r2 hl2 e2;refine PySem.P.add_list e e2 ?_ (by rw[uf1,uf1];lia);have ea:its.toArray++its2.toArray=(its++its2).toArray:=by simp
 rw[ea];exact⟨.ref _,_,I.lnew (t':=s.toks) (r.append r2) (by rw[ue5];lia),rfl,q _ I.fresh⟩
end
section
variable{prog:im}{w:ir}{A:Around}{E:ie->ij->Prop}{s:ij}
end
section
variable{X:Cx}
end
end L2
namespace Att
open PySem PySem.W PySem.Calls PyProof.Rows
theorem KH{P:Params}{h:Heap}:∀(ns:List Int) (vs:List ie),WellAll P h vs (ns.map WData.int)->IntsAre vs ns:=by
 intro ns
 induction ns with
 |nil=>
   intro vs w;rw[ul1] at w
   cases w
   exact .nil
 |cons n ns ih=>
   intro vs w;rw[uj8] at w
   cases w with
   |cons a b=>
     cases a
     exact .cons _ _ (ih _ b)
theorem ST{l:OpenLaw}{n:Nat}(hn:l.most=some n){P:Params}{h:Heap}{args:List WData}{vals:List ie}
 (hpre:l.row.toRowW.claim.pre args=true) (hwl:WellAll P h vals args) :
 ∃a vs ns,vals=[Value.ref a]/\args=[WData.list (ns.map WData.int)]/\h.get? a=some {cls:=.type "list",data:=.seq vs.toArray}/\IntsAre vs ns/\ns.length<=n:=by
 have hsh:WShape.hasAll [] args [.list .int]=true:=(pre_splitW hpre).1;have hc:l.pre.holds [] {args:=args}=true:=(pre_splitW hpre).2;clear 5(hasAllW_cons hsh)d r rfl h1 h2;obtain rfl:=hasAllW_nil h2;clear 5(hasW_list h1)xs rfl h3;clear 5(items_int h3)ns rfl;have hlen:ns.length<=n:=by
  unfold OpenLaw.pre at hc;have h4:(WTm.not (.lt (.lit (.int (n:Int))) (.len (.arg 0)))).holds [] {args:=[.list (ns.map .int)]}=true:=by
   have h4:=(holds_andW hc).1;rw[hn] at h4;exact h4
  have h5:=condW_of h4 (w_not (w_lt w_lit (w_len_list (w_arg rfl))));rw[uh7] at h5;refine Nat.le_of_not_lt λq=>?_;have q':(n:Int)<((ns.length:Nat):Int):=by lia
  first
   |(rw[uj5 q'] at h5;exact absurd h5 (by decide))
   |(simp at h5;lia)
 cases hwl with
 |cons w1 w2=>
   cases w2
   cases w1 with
   |list ho hall=>exact⟨_,_,ns,rfl,rfl,ho,KH ns _ hall,hlen⟩
theorem SE(l:OpenLaw)(args:List WData):l.row.toRowW.claim.post args (.bool true) args=true:=
 postW_of (r:=l.row.toRowW) (X:=(true==true))
  (show WShape.has [] (.bool true) .bool=true by first|rfl|decide|simp[WShape.has,WShape.arms,WShape.armsAll])
  (show(WTm.eq .res (.lit (.bool true))).value [] {args:=args,res:=some (.bool true),after:=args}=some (.bool (true==true)) from w_eq_bool (w_res rfl) w_lit) rfl
theorem attach_call{l:OpenLaw}{n:Nat}{q:im}{loose:List Str}{XP:(Str->Option ie)->Heap->Prop}{YP:ir->Heap->Prop}{d:DefRec}
 (hn:l.most=some n) (hdf:d.params.defaults=[])
 (call:∀(w:ir) (s₀ s₁:ij) (mg mb:Str->Option ie) (fa:ig) (o:Obj) (pm cd doc:ie) (a:ig) (vs:List ie) (ns:List Int),
   Ground q loose [] XP w s₀ mg mb s₁.heap->YP w s₁.heap->
   s₁.heap.get? fa=some o->o.data=.func (docDef d.name d.params d.body d.scope pm cd doc)->s₁.heap.CodeRec cd d.name->mg d.name=some (.ref fa)->
   s₁.heap.get? a=some {cls:=.type "list",data:=.seq vs.toArray}->IntsAre vs ns->ns.length<=n->s₁.gens=#[]->
   codeAny (model l.prog w) callerA (.call (.ref fa) ⟨[.ref a],[]⟩) (λr s'=>r=.ok (.ret (.bool true))/\OldK s₁.heap s'.heap/\s'.os=s₁.os/\AllBare s'.gens) s₁) :
 WalkO q loose XP YP l.row.toRowW d [] (λf vs=>PySem.call f vs):=by
 intro w s₀ s₁ mg mb G Y fa o pm cd doc dV kV ho hd hcd hD hmg hg args vals as hpre hlay hrd hwl hlo;obtain rfl:dV=.none:=Dflts.none hD hdf;obtain rfl:kV=.none:=Dflts.noKw hD;clear 5(ST hn hpre hwl)a vs ns rfl rfl hobj hints hlen;refine enter_call (ld (call w s₀ s₁ mg mb fa o pm cd doc a vs ns G Y ho (fd_plain hd) hcd hmg hobj hints hlen hg) λr s' hq=>?_);clear 5 hq rfl h2 h3 h4;exact⟨.inl ⟨.bool true,.bool true,[],rfl,λ_=>rfl,.bool true,SE l _,λ_=>⟨List.Pairwise.nil,λ_ hm=>(nomatch hm)⟩⟩,h2,h3,h4⟩
section
variable{prog:im}{w:ir}{A:Around}{E:ie->ij->Prop}{s:ij}{K:Frag}
end
end Att
namespace L2
open PySem PySem.Spec PyProof.Rows
theorem MC:∀{vs:List ie}{ns:List Int},IntsAre vs ns->Vals (ns.map V.int) vs
 |_,_,.nil=>.nil
 |_,_,.cons n t h=>.cons ⟨t,rfl⟩ (MC h)
def Px(H:Hp):Prop:=∀b,H b=none\/∃o xs,H b=some (.frz o (.lst xs))
section
variable{P:im}{w:ir}{fd:iu}
theorem Ul{K:ib}{mg mb:Str->Option ie}{CX:CXT}{k:Nat}{fa a:ig}{x:Str}{sp:Sp}{s₁:ij}{vs:List ie}{ns:List Int}
 (KX:K.In s₁.heap) (hns:s₁.heap.Ns mainGlobals mg) (hb:s₁.heap.Ns builtinsNs mb) (hbb:∀x:Str,x≠"__name__"->mb x=bootBuiltins x) (hlim:s₁.heap.NoLimit) (hg:s₁.gens=#[])
 (ha:s₁.heap.get? a=some {cls:=.type "list",data:=.seq vs.toArray}) (hi:IntsAre vs ns) (hl:ns.length<=sizeLine) (hr:Room k callerA)
 (F:∀base:Heap,K.In base->base.Ns mainGlobals mg->FnOk P w K mg base CX k fa fd [x] sp) (hbind:∀(s:ij) (u:ie),BindsTo s fd ⟨[u],[]⟩ [(x,u)])
 (hsp:∀H:Hp,Px H->SqL K H a (ns.map V.int)->sp [.ref a] H (λv _=>v=.bl true) λ_ _ _=>False)
 (hCX:∀H e s',CX [] H s₁ (λ_ _ _=>False) e s'->False) :
 codeAny (model P w) callerA (.call (.ref fa) ⟨[.ref a],[]⟩) (λr s'=>r=.ok (.ret (.bool true))/\OldK s₁.heap s'.heap/\s'.os=s₁.os/\AllBare s'.gens) s₁:=by
 have rv:=MC hi;have lenV:=hi.length
 -- from an abstract heap in which nothing but the script may be tracked
 have core:∀H:Hp,Px H->SqL K H a (ns.map V.int)->HOk P w H s₁.heap->(∀b,H b≠none->b=a)->(H a≠none->K.lookup a=none)->
  codeAny (model P w) callerA (.call (.ref fa) ⟨[.ref a],[]⟩) (λr s'=>r=.ok (.ret (.bool true))/\OldK s₁.heap s'.heap/\s'.os=s₁.os/\AllBare s'.gens) s₁:=by
  intro H hO hS hok hA hK;have base_of:∀{b:ig}{o:Obj},s₁.heap.get? b=some o->H b=none->(Hz s₁.heap H).get? b=some o:=λe n=>Ug e n;have noA:∀{b:ig}{o:Obj}{es:Array DictEntry}{ep:Nat},s₁.heap.get? b=some o->o.data=.dict es ep->H b=none:=λ{b o es ep} e d=>by
   cases q:H b with
   |none=>rfl
   |some u=>
     have e':b=a:=hA b (by rw[q];simp);subst e';rw[ha] at e;cases e
     have d':Data.seq vs.toArray _=Data.dict es ep:=d
     cases d'
  have nsK:∀{b:ig}{m:Str->Option ie},s₁.heap.Ns b m->(Hz s₁.heap H).Ns b m:=λ{b m} ⟨o,es,ep,e,d,r⟩=>⟨o,es,ep,base_of e (noA e d),d,r⟩;have hKb:K.In (Hz s₁.heap H):=λb o e=>base_of (KX b o e) (by
   cases q:H b with
   |none=>rfl
   |some u=>
     have e':b=a:=hA b (by rw[q];simp);subst e';rw[hK (by rw[q];simp)] at e;cases e)
  have hM:Mod K mg (Hz s₁.heap H):=⟨hKb,nsK hns,⟨mb,nsK hb,hbb⟩,let ⟨mc,h1,h2⟩:=hlim;⟨mc,nsK h1,h2⟩⟩;have e0:Env0 P w K mg (Hz s₁.heap H) callerA [] s₁ H:=⟨rfl,hM,λb o e=>WZ e,lc (RK _ _),trivial,λb hb=>absurd (show b∈([]:List ig) from hb) (by simp),hok,.of_eq hg⟩;refine ld ((F _ hKb (nsK hns)).run callerA [] s₁ H ⟨[.ref a],[]⟩ [.ref a] [.ref a] _ _ hr e0 (hbind s₁ (.ref a)) (.cons rfl .nil) (hsp H hO hS)) λr s' h=>?_
  cases r with
  |error e=>exact(hCX H e s' h).elim
  |ok fl=>
    cases fl with
    |next=>exact False.elim h
    |brk=>exact False.elim h
    |cont=>exact False.elim h
    |ret u=>
      clear 5 h v H' os bare un hok' r' q;have q':v=.bl true:=q;subst q';obtain rfl:u=Value.bool true:=r';refine⟨rfl,OldK.of_keep λb o e=>?_,os,bare⟩
      cases q:H b with
      |none=>exact un.keep b o e q (by intro z;exact absurd (show b∈([]:List ig) from z) (by simp)) (by simp)
      |some u=>
        rcases hO b with z|⟨ob,xs,z⟩
        .rw[q] at z;cases z
        .have z2:=un.frzs b ob _ z;obtain⟨e1,_⟩:=hok b _ z;obtain⟨e2,_⟩:=hok' b _ z2;rw[e] at e1;cases e1
         exact e2
 cases hk:K.lookup a with
 |some o=>
   -- the script is one of the module's own objects
   have e:=KX a o hk;rw[ha] at e
   cases e
   refine core (λ_=>none) (λ_=>.inl rfl) (.inr ⟨_,vs.toArray,_,hk,rfl,rfl,rfl,by rw[uf1,lenV];exact hl,by simpa using rv⟩) (λb u z=>by have z':(none:Option HO)=some u:=z;cases z') (λb z=>absurd rfl z) λz=>absurd rfl z
 |none=>
   refine core (λb=>if b=a then some (.frz {cls:=.type "list",data:=.seq vs.toArray} (.lst (ns.map V.int))) else none) (λb=>?_) (.inl (.inr ⟨{cls:=.type "list",data:=.seq vs.toArray},lJ rfl⟩)) (λb u z=>?_) (λb z=>?_) λ_=>hk
   .by_cases hb:b=a
    .exact .inr ⟨_,_,lJ hb⟩
    .exact .inl (lK hb)
   .by_cases hb:b=a
    .have z':=(lJ hb).symm.trans z
     cases z'
     subst hb;exact⟨ha,by rw[uh7];exact hl,vs,_,rv,ha⟩
    .have z':=(lK hb).symm.trans z
     cases z'
   .by_cases hb:b=a
    .exact hb
    .exact absurd (lK hb) z
theorem Yh{l:PySem.W.OpenLaw}{n k:Nat}{q:im}{loose:List Str}{XP:(Str->Option ie)->Heap->Prop}{YP:ir->Heap->Prop}{d:DefRec}{K:Params->ib}{CX:ir->CXT}{sp:ir->Sp}{x:Str}
 (hn:l.most=some n) (hn2:n<=sizeLine) (hdf:d.params.defaults=[]) (hr:Room k callerA)
 (hY:∀(w:ir) (h:Heap),YP w h->(K w.params).In h)
 (F:∀(w:ir) (mg:Str->Option ie) (fa:ig) (h:Heap),(K w.params).In h->h.Ns mainGlobals mg->mg d.name=some (.ref fa)->
   ∃fd:iu,(∀(s:ij) (u:ie),BindsTo s fd ⟨[u],[]⟩ [(x,u)])/\
    ∀base:Heap,(K w.params).In base->base.Ns mainGlobals mg->FnOk l.prog w (K w.params) mg base (CX w) k fa fd [x] (sp w))
 (hsp:∀(w:ir) (H:Hp) (a:ig) (ns:List Int),ns.length<=n->Px H->SqL (K w.params) H a (ns.map V.int)->sp w [.ref a] H (λv _=>v=.bl true) λ_ _ _=>False)
 (hCX:∀(w:ir) (H:Hp) (s:ij) (e:ie) (s':ij),CX w [] H s (λ_ _ _=>False) e s'->False) :
 PySem.W.WalkO q loose XP YP l.row.toRowW d [] (λf vs=>PySem.call f vs):=by
 refine Att.attach_call hn hdf λw s₀ s₁ mg mb fa o pm cd doc a vs ns G Y ho hd hcd hmg hobj hints hlen hg=>?_;have KX:=hY w _ Y;clear 5(F w mg fa _ KX G.T.g hmg)fd hb hF;exact Ul KX G.T.g G.T.b G.T.builtins G.T.nolimit hg hobj hints (uk9 hlen hn2) hr hF hb (λH hO hS=>hsp w H a ns hlen hO hS) λH e s'=>hCX w H s₁ e s'
noncomputable def Do(s:Stmt):Arguments:=match s with
 |.FunctionDef _ a _ _ _ _ _ _ _ _=>a
 |_=>{posonlyargs:=[],args:=[],vararg:=none,kwonlyargs:=[],kw_defaults:=[],kwarg:=none,defaults:=[]}
noncomputable def Bq(s:Stmt):List Stmt:=match s with
 |.FunctionDef _ _ b _ _ _ _ _ _ _=>b
 |_=>[]
noncomputable def An(s:Stmt):Scope:=match s with
 |.FunctionDef _ _ _ _ _ _ sc _ _ _=>sc
 |_=>{kind:=.function,names:=[],isGenerator:=false,isCoroutine:=false}
abbrev CX0:CXT:=λ_ _ _ _ _ _=>False
abbrev E0:XK:=λ_ _ _=>False
variable{X:Cx}
theorem Jl:F5 CX0 X E0:=λ_ _ _ _ _ _ _ h=>h.elim
structure Fun(K:ib)(x qual:Str)(st:Stmt)(f:ig)(fd:iu):Prop where
 ex:∃(oc:ie) (od:Option ig) (kV doc pm:ie) (an:Option ig) (cdv ct:ie) (osl:Array (Option ie)),
  fd=PySem.W.fnOf x qual (Do st) (Bq st) (An st) .none kV doc pm an cdv ct/\K.lookup f=some ⟨oc,od,.func fd,osl⟩/\PySem.W.codeIn K cdv qual=true
 kp:PySem.W.keepIn K (.ref f)=true
variable{qual:Str}{f:ig}
section
variable{P:im}{w:ir}{K:ib}{mg:Str->Option ie}{base:Heap}
theorem Fun.ok{x:Str}{st:Stmt}{N ps:List Str}{k:Nat}{sp:Sp}(F:Fun K x qual st f fd)(S:FnScope N ps (An st))(len:∀vs H Q E,sp vs H Q E->vs.length=ps.length)
 (hbody:∀(cdv:ie) (A:Around) (outer:List Env) (s:ij) (H:Hp) (vs:List V) (Q:VK) (E:XK),Room k (A.deeper (envOfC qual (An st) s.heap.objs.size f cdv))->sp vs H Q E->
   ∃t,PSs (D5 CX0 P w K mg base N qual (An st) f cdv A outer s H E).nox (Bq st) t/\t {nx:=λ_ H'=>Q .non H',rt:=Q} (Dl N vs) H):FnOk P w K mg base CX0 (k+1) f fd ps sp:=by
 clear 5 F.ex oc od kV doc pm an cdv ct osl rfl lk hcd;refine VF lk hcd S len λA outer s H vs Q E hr hsp=>?_;clear 5(hbody cdv A outer s H vs Q E hr hsp)t h q;exact⟨t,h.nox,q⟩
theorem Fun.binds{x:Str}{st:Stmt}{ps:List Str}(F:Fun K x qual st f fd)
 (h:∀(kV doc pm:ie) (an:Option ig) (cdv ct:ie) (us:List ie),us.length=ps.length->bindArgs (PySem.W.fnOf x qual (Do st) (Bq st) (An st) .none kV doc pm an cdv ct) ⟨us,[]⟩=pure (ps.zip us)):Binds K fd ps []:=by
 clear 5 F.ex oc od kV doc pm an cdv ct osl rfl lk hcd;exact .all (h kV doc pm an cdv ct)
theorem FG{x:Str}{st:Stmt}{oc:ie}{od an:Option ig}{osl:Array (Option ie)}{kV doc pm cdv ct:ie}(l:K.lookup f=some ⟨oc,od,.func (PySem.W.fnOf x qual (Do st) (Bq st) (An st) .none kV doc pm an cdv ct),osl⟩)
 (c:PySem.W.codeIn K cdv qual=true) (k:PySem.W.keepIn K (.ref f)=true):Fun K x qual st f (PySem.W.fnOf x qual (Do st) (Bq st) (An st) .none kV doc pm an cdv ct):=⟨⟨oc,od,kV,doc,pm,an,cdv,ct,osl,rfl,l,c⟩,k⟩
end
section
variable{X:Cx}
end
section
variable{κ:Type}[DecidableEq κ]
noncomputable def EG(kvs:List (κ×V))(k:κ):Option V:=(kvs.find? λkv=>decide (kv.1=k)).map (·.2)
noncomputable def EE(kvs:List (κ×V))(k:κ)(v:V):List (κ×V):=
 if (kvs.any λkv=>decide (kv.1=k))=true then kvs.map (λkv=>if kv.1=k then(kv.1,v) else kv) else kvs++[(k,v)]
theorem HK{p:κ×V}{r:List (κ×V)}{k:κ}(e:p.1=k):EG (p::r) k=some p.2:=by simp[EG,ui4,e]
theorem HJ{p:κ×V}{r:List (κ×V)}{k:κ}(e:¬p.1=k):EG (p::r) k=EG r k:=by simp[EG,ui4,e]
theorem Jx(kvs:List (κ×V))(k:κ)(v:V):(EE kvs k v).length<=kvs.length+1:=by
 unfold EE
 split
 .rw[uh7];lia
 .rw[ue5,ug2,ui5];lia
theorem RelO.isSome_eq{o:Option V}{u:Option ie}(r:RelO o u):o.isSome=u.isSome:=by
 cases o with
 |none=>cases u with
   |none=>rfl
   |some _=>exact(show False from r).elim
 |some _=>cases u with
   |none=>exact(show False from r).elim
   |some _=>rfl
theorem KV.val{kvs:List (κ×V)}{vs:List (κ×ie)}(r:KV kvs vs)(k:κ):RelO (EG kvs k) (valueAt vs k):=by
 unfold KV at r
 induction r with
 |nil=>exact True.intro
 |@cons p q ps qs h t ih=>
   clear 5 h h1 h2
   by_cases e:p.1=k
   .have e':q.1=k:=h1.symm.trans e;have b:valueAt (q::qs) k=some q.2:=by simp[valueAt,ui4,e']
    rw[HK e,b];exact h2
   .have e':¬q.1=k:=λz=>e (h1.trans z);have b:valueAt (q::qs) k=valueAt qs k:=by simp[valueAt,ui4,e']
    rw[HJ e,b];exact ih
theorem KV.any{kvs:List (κ×V)}{vs:List (κ×ie)}(r:KV kvs vs)(k:κ):(kvs.any λkv=>decide (kv.1=k))=vs.any λkv=>decide (kv.1=k):=by
 unfold KV at r
 induction r with
 |nil=>rfl
 |cons h t ih=>rw[uk0,uk0,ih,h.1]
theorem KV.repl{kvs:List (κ×V)}{vs:List (κ×ie)}(r:KV kvs vs)(k:κ){y:V}{u:ie}(ry:RelV y u) :
 KV (kvs.map λkv=>if kv.1=k then(kv.1,y) else kv) (vs.map λkv=>if kv.1=k then(kv.1,u) else kv):=by
 unfold KV at r⊢
 induction r with
 |nil=>exact .nil
 |@cons p q ps qs h t ih=>
   rw[uj8,uj8];refine .cons ?_ ih;clear 5 h h1 h2
   by_cases e:p.1=k
   .rw[lJ e,lJ (h1.symm.trans e)];exact⟨h1,ry⟩
   .rw[lK e,lK (λz=>e (h1.trans z))];exact⟨h1,h2⟩
theorem KV.put{kvs:List (κ×V)}{vs:List (κ×ie)}(r:KV kvs vs)(k:κ){y:V}{u:ie}(ry:RelV y u):KV (EE kvs k y) (stored vs k u):=by
 unfold EE stored;rw[r.any k]
 by_cases e:(vs.any λkv=>decide (kv.1=k))=true
 .rw[lJ e,lJ e];exact r.repl k ry
 .rw[lK e,lK e];exact Paired.snoc r ⟨rfl,ry⟩
theorem KV.length{kvs:List (κ×V)}{vs:List (κ×ie)}(r:KV kvs vs):kvs.length=vs.length:=Paired.length r
end
theorem KJ{k:Key}{u:ie}(r:RelV (kV k) u):(Ch P w).is k u=true:=by
 cases k with
 |inl i=>clear 5((show ∃t,u=Value.int i t from r))t e;subst e;exact Ot P w i t
 |inr x=>clear 5((show ∃t,u=Value.str x t from r))t e;subst e;exact Ou P w x t
theorem Mo{P:im}{w:ir}:∀{ks:List Key}{us:List ie},Vals (ks.map kV) us->ItemsAre (Ch P w) ks us
 |[],_,r=>by rw[ul1] at r;cases r;exact .nil
 |k::ks,_,r=>by
   rw[uj8] at r
   cases r with
   |cons h t=>exact .cons (KJ h) (Mo t)
abbrev KT(H:Hp):List (List Key×V)->List (List Key×ig×ie)->Prop:=Paired λp q=>p.1=q.1/\H q.2.1=some (.tup (p.1.map kV))/\RelV p.2 q.2.2
variable{H:Hp}
theorem KT.val{kvs:List (List Key×V)}{xs:List (List Key×ig×ie)}(r:KT H kvs xs)(k:List Key):RelO (EG kvs k) ((atKey xs k).map (·.2)):=by
 induction r with
 |nil=>exact True.intro
 |@cons p q ps qs h t ih=>
   obtain⟨h1,_,h2⟩:=h
   by_cases e:p.1=k
   .have e':q.1=k:=h1.symm.trans e;have b:atKey (q::qs) k=some q.2:=by simp[atKey,ui4,e']
    rw[HK e,b];exact h2
   .have e':¬q.1=k:=λz=>e (h1.trans z);have b:atKey (q::qs) k=atKey qs k:=by simp[atKey,ui4,e']
    rw[HJ e,b];exact ih
variable{kvs:List (Key×V)}
section
variable{P:im}{w:ir}{H:Hp}{h:Heap}{a:ig}
theorem VR{u:HO}(ok:HOk P w H h)(e:Rd H a u):ObjOk P w H h a u:=e.ok ok
theorem Vz(ok:HOk P w H h)(e:Rd H a (.dK kvs)):kvs.length<=sizeLine/\(a==sysModules)=false/\∃vs,KV kvs vs/\h.DictOf (Ch P w) a vs:=
 show ObjOk P w H h a (.dK kvs) from VR ok e
theorem MR(ok:HOk P w H h)(e:H a=some (.dK kvs)):kvs.length<=sizeLine/\(a==sysModules)=false/\∃vs,KV kvs vs/\h.DictOf (Ch P w) a vs:=Vz ok (.inl e)
theorem RZ{ks:List Key}(ok:HOk P w H h)(e:H a=some (.tup (ks.map kV))):(tupleKind (Ch P w)).is h ks a:=by
 obtain⟨_,its,r,o,h1,h2,n,h3⟩:=(show ObjOk P w H h a (.tup (ks.map kV)) from ok a _ e);exact⟨o,its.toArray,n,h1,h2,h3,by simpa using Mo r⟩
theorem bj{kvs:List (List Key×V)}(ok:HOk P w H h)(e:Rd H a (.dT kvs)):kvs.length<=sizeLine/\(a==sysModules)=false/\
 ∃xs,KT H kvs xs/\h.DictOfH (tupleKind (Ch P w)) a xs:=by
 clear 5((show ObjOk P w H h a (.dT kvs) from VR ok e))z y xs r o es ep h1 h2 h3 h4 h5;refine⟨z,y,xs,r,o,es,ep,h1,h2,h3,h4,λx hx=>?_,h5⟩;have all:∀{l:List (List Key×V)}{m:List (List Key×ig×ie)},KT H l m->∀x∈m,(tupleKind (Ch P w)).is h x.1 x.2.1:=by
  intro l m q
  induction q with
  |nil=>intro x hx;exact nomatch hx
  |@cons p q ps qs hq t ih=>
    intro x hx;rcases uj7.mp hx with e|hx
    .subst e;exact RZ ok (by rw[<-hq.1];exact hq.2.1)
    .exact ih x hx
 exact all r x hx
end
def DGet(H:Hp)(a:ig)(y:V)(r:Option V):Prop:=
 (∃kvs k,Rd H a (.dK kvs)/\y=kV k/\r=EG kvs k)\/∃kvs k b,Rd H a (.dT kvs)/\y=.ref b/\H b=some (.tup (k.map kV))/\r=EG kvs k
theorem DGet.k{a:ig}{k:Key}(e:H a=some (.dK kvs)):DGet H a (kV k) (EG kvs k):=.inl ⟨kvs,k,.inl e,rfl,rfl⟩
section
variable{X:Cx}{ic:List (ig×Obj)}{σ:St}{H:Hp}{s:ij}{a:ig}{y v:V}{u r:ie}{o:Option V}{A:Around}{E:ie->ij->Prop}
theorem Inv.big(I:Inv X ic σ H s):sysModules<s.heap.objs.size:=by
 have h:mainGlobals<s.heap.objs.size:=(I.mod.glob.keeps I.bk).lt;exact Nat.lt_trans (by decide) h
theorem dO{Q:ie->ij->Prop}(hu:A.units+1<cLine)(I:Inv X ic σ H s)(g:DGet H a y o)(ry:RelV y u)(h:∀s',Inv X ic σ H s'->Q (.bool o.isSome) s') :
 wpAny (model X.prog X.w) A (compareOp .In u (.ref a)) Q E s:=by
 rcases g with⟨kvs,k,e,ey,l⟩|⟨kvs,k,b,e,ey,eb,l⟩
 .subst ey;clear 5(Vz I.hok e)z hd vs rel dd;refine wpAny_in_of (KJ ry) hd dd.mapOf ?_;rw[<-(rel.val k).isSome_eq,<-l];exact h _ (I.tok _)
 .subst ey
  cases (show u=Value.ref b from ry)
  clear 5(bj I.hok e)z hd xs rel dd;refine wpAny_in_heap (tupleKind_room_in1 hu) (RZ I.hok eb) hd dd ?_;have q:=(rel.val k).isSome_eq;rw[Option.isSome_map] at q;rw[<-q,<-l];exact h _ (I.tok _)
theorem OI{h':Heap}{t':Nat}{ob:HO}(I:Inv X ic σ H s)(mu:Mut (H a))(hs:Heap.SameBut a s.heap h')(he:∃q,h'.get? a=some q)(new:ObjOk X.prog X.w (upd H a ob) h' a ob) :
 Inv X ic σ (upd H a ob) {s with heap:=h',toks:=t'}:=
 I.write (x:=a) (e:=a) mu (.inl rfl) (λb q hb z=>(hs.2 b hb).trans z) he new
theorem Nu{H':Hp}{h':Heap}{vs:List (Key×ie)}(z:kvs.length<=sizeLine)(hd:(a==sysModules)=false)(rel:KV kvs vs)(dd:h'.DictOf (Ch P w) a vs) :
 ObjOk P w H' h' a (.dK kvs):=⟨z,hd,vs,rel,dd⟩
end
section
variable{X:Cx}{ic:List (ig×Obj)}{σ:St}{H:Hp}{s:ij}{a:ig}{kvs:List (Key×V)}{k:Key}{u:ie}{A:Around}{E:ie->ij->Prop}
end
section
variable{X:Cx}{o i e value:Expr}{pos pos' tpos:Pos}{td ty tv:TE}
end
theorem Nt(h:Heap)(hb:sysModules<h.objs.size):ObjOk P w H (h.push {cls:=.type "dict",data:=.dict #[]}) h.objs.size (.dK []):=
 ⟨ul5 _,jv.mpr (Ne.symm (uk8 hb)),[],.nil,Heap.DictOf.new h⟩
def aD:TE:=λ_ H Q=>∀p,H p=none->Q (.ref p) (upd H p (.dK []))
section
variable{X:Cx}{pos:Pos}
theorem UJ:PE X (.Dict [] [] pos) aD:=λic s σ H Q I h=>
 wpAny_Dict_empty ⟨.ref s.heap.objs.size,_,I.laid (a:=s.heap.objs.size) (o:=.dK []) (t':=s.toks) (λ_ _ q=>ub9 _ q) (ul4 _) (Nt s.heap I.big),rfl,h _ (I.hok.fresh (ul4 _))⟩
end
def K7:List (TE×TE)->St->Hp->(List (V×V)->Hp->Prop)->Prop
 |[],_,H,Q=>Q [] H
 |(tk,tv)::r,σ,H,Q=>tk σ H λx H1=>tv σ H1 λy H2=>K7 r σ H2 λps H3=>Q ((x,y)::ps) H3
abbrev VV:List (V×V)->List (ie×ie)->Prop:=Paired λp q=>RelV p.1 q.1/\RelV p.2 q.2
def PPs(X:Cx)(pos:Pos)(keys:List (Option Expr))(values:List Expr)(trs:List (TE×TE)):Prop:=
 ∀(ic:List (ig×Obj)) (s:ij) (σ:St) (H:Hp) (Q:List (V×V)->Hp->Prop),Inv X ic σ H s->K7 trs σ H Q->
  wpAny (model X.prog X.w) X.A (evalPairs (pairTrees keys values X.env pos)) (λvs s'=>∃ps H',Inv X ic σ H' s'/\VV ps vs/\Q ps H') X.xe s
theorem Xm{pos:Pos}:PPs X pos [] [] []:=λic s σ H Q I h=>pairTrees_nil_walk ⟨[],H,I,.nil,h⟩
theorem UO{pos:Pos}{k v:Expr}{ks:List (Option Expr)}{vs:List Expr}{tk tv:TE}{trs:List (TE×TE)}(hk:PE X k tk)(hv:PE X v tv)(hr:PPs X pos ks vs trs) :
 PPs X pos (some k::ks) (v::vs) ((tk,tv)::trs):=λic s σ H Q I h=>
 pairTrees_cons_walk (thn (hk ic s σ H _ I h) λu s1 ⟨x,H1,I1,rx,q1⟩=>thn (hv ic s1 σ H1 _ I1 q1) λw2 s2 ⟨y,H2,I2,ry,q2⟩=>
  thn (hr ic s2 σ H2 _ I2 q2) λws s3 ⟨ps,H3,I3,rel,q3⟩=>⟨(x,y)::ps,H3,I3,.cons ⟨rx,ry⟩ rel,q3⟩)
def Gn(kvs more:List (Key×V)):List (Key×V):=more.foldl (λacc kv=>EE acc kv.1 kv.2) kvs
theorem KV.merge:∀{more:List (Key×V)}{rs:List (Key×ie)}{kvs:List (Key×V)}{vs:List (Key×ie)},KV more rs->KV kvs vs->KV (Gn kvs more) (merged vs rs):=by
 intro more rs kvs vs r;unfold KV at r
 induction r generalizing kvs vs with
 |nil=>intro q;exact q
 |@cons p q ps qs h t ih=>
   intro r0;have e:KV (EE kvs p.1 p.2) (stored vs q.1 q.2):=by
    have:=r0.put p.1 h.2;rw[<-h.1];exact this
   exact ih e
theorem HS:∀(more kvs:List (Key×V)),(Gn kvs more).length<=kvs.length+more.length
 |[],kvs=>by show kvs.length<=kvs.length+0;lia
 |p::r,kvs=>by
   have h1:=HS r (EE kvs p.1 p.2);have h2:=Jx kvs p.1 p.2;show(Gn (EE kvs p.1 p.2) r).length<=_;rw[ug2];lia
theorem Ku{P:im}{w:ir}:∀{kvs:List (Key×V)}{ws:List (ie×ie)},VV (kvs.map λkv=>(kV kv.1,kv.2)) ws->∃rs,Carries (Ch P w) ws rs/\KV kvs rs
 |[],_,r=>by rw[ul1] at r;cases r;exact⟨[],True.intro,.nil⟩
 |p::kvs,_,r=>by
   rw[uj8] at r
   cases r with
   |@cons a b as bs h t=>
     clear 5(Ku (P:=P) (w:=w) t)rs c q;clear 5 b b1 b2;exact⟨(p.1,b2)::rs,⟨KJ h.1,rfl,c⟩,.cons ⟨rfl,h.2⟩ q⟩
def b7(trs:List (TE×TE)):TE:=λσ H Q=>∀p,H p=none->K7 trs σ (upd H p (.dK [])) λps H2=>H2 p=some (.dK [])/\∃kvs:List (Key×V),ps=kvs.map (λkv=>(kV kv.1,kv.2))/\kvs.length<=15/\Q (.ref p) (upd H2 p (.dK (Gn [] kvs)))
theorem Xa{pos:Pos}{keys:List (Option Expr)}{values:List Expr}{trs:List (TE×TE)}(h:PPs X pos keys values trs)(hall:keys.all (·.isSome)=true)(hl:keys.length=values.length)(h0:keys≠[])
 (h15:keys.length<=15):PE X (.Dict keys values pos) (b7 trs):=by
 intro ic s σ H Q I q;have hn:=I.hok.fresh (ul4 s.heap.objs.size);have I1:=I.laid (a:=s.heap.objs.size) (o:=.dK []) (h':=s.heap.push {cls:=.type "dict",data:=.dict #[]}) (t':=s.toks) (λ_ _ q=>ub9 _ q) (ul4 _) (Nt s.heap I.big);refine wpAny_Dict_walk (knd:=Ch X.prog X.w) hall hl h0 h15 (thn (h ic _ σ _ _ I1 (q _ hn)) λws s2 z9=>?_);clear 5 z9 ps H2 I2 rel e kvs ep lk q2;subst ep;clear 5(Ku (P:=X.prog) (w:=X.w) rel)rs c rk;clear 5(MR I2.hok e)z hd vs0 r0 dd
 cases r0
 refine⟨rs,c,dd,λh' dd' hs=>⟨.ref s.heap.objs.size,_,?_,rfl,q2⟩⟩;have hz:(Gn [] kvs).length<=sizeLine:=by
  have h1:=HS kvs [];rw[ui5] at h1;rw[lp];lia
 have he:∃q,h'.get? s.heap.objs.size=some q:=let ⟨q,_,_,hq,_⟩:=dd';⟨q,hq⟩;exact OI I2 (by rw[e];exact True.intro) hs he (Nu hz hd (rk.merge .nil) dd')
theorem F9{env:Env}:∀(l:List (Str×NameKind)) (cs:List (Str×ig)),(∀x c,cs.lookup x=some c->env.cells.lookup x=some c)->(∀y∈l,y.2=.free->∃c,env.cells.lookup y.1=some c)->
 ∃cl,(forIn l cs λ(x:Str×NameKind) r=>(match x with|(name,kind)=>if (kind==NameKind.free)=true then do let c <-cellOf env name;pure (ForInStep.yield ((name,c)::r)) else pure (ForInStep.yield r):Sem (ForInStep (List (Str×ig)))))=pure cl/\
  (∀x c,cl.lookup x=some c->env.cells.lookup x=some c)/\(∀x c,cs.lookup x=some c->∃c',cl.lookup x=some c')/\∀y∈l,y.2=.free->∃c,cl.lookup y.1=some c
 |[],cs,h,_=>⟨cs,rfl,h,λ_ c e=>⟨c,e⟩,λ_ z=>nomatch z⟩
 |(n,k)::l,cs,h,hf=>by
   by_cases hk:k=.free
   .subst hk;clear 5(hf (n,.free) ue1 rfl)c hc;have hc':env.cells.lookup n=some c:=hc;have e:cellOf env n=pure c:=by unfold cellOf;rw[hc']
    obtain⟨cl,e1,e2,e3,e4⟩:=F9 l ((n,c)::cs) (λx c' q=>by
     rw[ug6] at q
     by_cases hx:(x==n)=true
     .rw[hx] at q;cases q;rw[eq_of_beq hx];exact hc'
     .rw[uf6.mpr hx] at q;exact h x c' q) (λy hy=>hf y (ud1 _ hy))
    have self:((n,c)::cs).lookup n=some c:=by rw[ug6,uh4]
    refine⟨cl,?_,e2,λx c' q=>?_,λy hy hyf=>?_⟩
    .rw[List.forIn_cons];simp only[uh4,lH,e];exact e1
    .by_cases hx:(x==n)=true
     .rw[eq_of_beq hx];exact e3 n c self
     .exact e3 x c' (by rw[ug6,uf6.mpr hx];exact q)
    .rcases uj7.mp hy with z|z
     .subst z;exact e3 n c self
     .exact e4 y z hyf
   .have hb:(k==NameKind.free)=false:=by simpa using hk
    clear 5(F9 l cs h (λy hy=>hf y (ud1 _ hy)))cl e1 e2 e3 e4;refine⟨cl,?_,e2,e3,λy hy hyf=>?_⟩
    .rw[List.forIn_cons];simp only[hb,ue6,lF];exact e1
    .rcases uj7.mp hy with z|z
     .subst z;exact absurd hyf hk
     .exact e4 y z hyf
theorem Kw{scope:Scope}{env:Env}(h:∀y∈scope.names,y.2=.free->∃c,env.cells.lookup y.1=some c) :
 ∃cl,closureFor scope env=pure cl/\(∀x c,cl.lookup x=some c->env.cells.lookup x=some c)/\∀y∈scope.names,y.2=.free->∃c,cl.lookup y.1=some c:=by
 obtain⟨cl,e1,e2,_,e4⟩:=F9 (env:=env) scope.names [] (λ_ _ q=>nomatch q) h;refine⟨cl,?_,e2,e4⟩;simp only[closureFor]
 first|(rw[e1];rfl)|(simp only[e1];rfl)|(trace_state;exact e1)
theorem Nr{prog:im}{A:Around}{R:Result->ij->Prop}{s:ij}{elt target iter:Expr}{ifs:List Expr}{scope:Scope}{pos:Pos}{it acc:ie}{env:Env}(I:Nat->ij->Prop)
 (turn:∀n s,I n s->wpAny (model prog w) A (pyNext it) (λr s₁=>match r with
   |none=>R (.ok .next) s₁
   | some v=>wpAny (model prog w) A (letOwnedTupleGo target it v) (λ_ s₁'=>wpAny (model prog w) A (assign target env v) (λ_ s₂=>
      wpAny (model prog w) A (forIn ifs true λc r=>if r=true then do let ok <-isTrue c env (eval c env);pure (ForInStep.yield ok) else pure (ForInStep.yield r)) (λok s₃=>
       if ok=true then wpAny (model prog w) A (eval elt env) (λx s₄=>
        wpAny (model prog w) A (call (.builtin "list.append") [acc,x]) (λ_ s₅=>∃m,m<n/\I m s₅) (λ_ _=>False) s₄) (λ_ _=>False) s₃
       else ∃m,m<n/\I m s₃) (λ_ _=>False) s₂) (λ_ _=>False) s₁') (λ_ _=>False) s₁) (λ_ _=>False) s)
 (n:Nat) (h:I n s) :
 codeAny (model prog w) A (.compLoop (.ListComp elt [⟨target,iter,ifs,0⟩] scope pos) 0 it acc env) R s:=by
 refine codeAny_loop rfl I (λn s hI=>?_) n h;show wpAny _ A ((compTurn (.ListComp elt [⟨target,iter,ifs,0⟩] scope pos) 0 it acc env).onRaise (λx=>do noteFrame x env;theTreesLotGoes x)) _ _ s;refine wpAny_noted ?_;rw[compTurn_list];refine ul8 (kx (ul8 (um0 (turn n s hI) (λr s₁ h₁=>?_) λ_ _ h'=>h'.elim)))
 cases r with
 |none=>exact ul9 h₁
 |some v=>
   refine ul8 (um0 h₁ (λ_ s₁' h₁'=>?_) λ_ _ h'=>h'.elim);refine ul8 (um0 h₁' (λ_ s₂ h₂=>ul8 (um0 h₂ (λok s₃ h₃=>?_) λ_ _ h'=>h'.elim)) λ_ _ h'=>h'.elim)
   cases ok with
   |false=>exact ul9 ⟨rfl,h₃⟩
   |true=>
     exact ul8 (ul8 (um0 h₃ (λx s₄ h₄=>ul8 (um0 h₄ (λ_ s₅ h₅=>ul9 (ul9 ⟨rfl,h₅⟩)) λ_ _ h'=>h'.elim)) λ_ _ h'=>h'.elim))
end
noncomputable def BY(X:Cx)(N':List Str)(scope:Scope)(cl:List (Str×ig))(C:ig)(s2:ij)(H2:Hp)(fp:List ig):Cx where
 prog:=X.prog
 w:=X.w
 K:=X.K
 mg:=X.mg
 base:=X.base
 A:=X.A
 N:=N'
 s₀:=s2
 H₀:=H2
 env:=compEnvC scope cl C X.env
 outer:=X.stack
 stack:=X.stack
 ex:=fp
 fn:=λ_=>false
 calm:=X.calm
 pn:=[]
 xe:=λ_ _=>False
theorem Jy(h:Str->NameKind->NameKind)(x:Str):∀l:List (Str×NameKind),(l.map λp=>(p.1,h p.1 p.2)).lookup x=(l.lookup x).map (h x)
 |[]=>rfl
 |(n,k)::l=>by
   show List.lookup x ((n,h n k)::_)=_;rw[ug6,ug6]
   by_cases hx:(x==n)=true
   .rw[hx,eq_of_beq hx];rfl
   .rw[uf6.mpr hx];exact Jy h x l
theorem Hd(scope:Scope)(env:Env)(x:Str):(relabel scope env).names.lookup x=(scope.names.lookup x).map λk=>if (k==.free&&env.scope.kind==.function&&env.kindOf x==some .cell)=true then .cell else k:=by
 rw[<-Jy (λn k=>if (k==NameKind.free&&env.scope.kind==.function&&env.kindOf n==some .cell)=true then .cell else k) x scope.names];unfold relabel;dsimp only
 congr 1
 apply ud9;intro p _;clear 5 p n k;dsimp only
 split<;>rfl
theorem Dt{x:Str}{k:NameKind}:∀{l:List (Str×NameKind)},l.lookup x=some k->(x,k)∈l
 |(n,k')::l,h=>by
   rw[ug6] at h
   by_cases hx:(x==n)=true
   .rw[hx] at h;cases h;rw[eq_of_beq hx];exact ue1
   .rw[uf6.mpr hx] at h;exact ud1 _ (Dt h)
theorem N2{scope:Scope}{env:Env}{x:Str}(hcell:∀y∈scope.names,y.2≠.cell)(h:(relabel scope env).names.lookup x=some .cell\/(relabel scope env).names.lookup x=some .free):scope.names.lookup x=some .free:=by
 rw[Hd] at h
 cases e:scope.names.lookup x with
 |none=>rw[e] at h;rcases h with h|h<;>cases h
 |some k=>
   by_cases hk:k=.free
   .rw[hk]
   .have hb:(k==NameKind.free)=false:=by simpa using hk
    rw[e] at h;simp only[ui6,hb,uj1,ue6,lF] at h;rcases h with h|h
    .cases h;exact absurd rfl (hcell _ (Dt e))
    .cases h;exact absurd rfl hk
def PIf(X:Cx)(ifs:List Expr)(t:TT):Prop:=
 ∀(ic:List (ig×Obj)) (s:ij) (σ:St) (H:Hp) (Q:Bool->Hp->Prop),Inv X ic σ H s->t σ H Q->
  wpAny (model X.prog X.w) X.A (forIn ifs true λc r=>if r=true then do let ok <-isTrue c X.env (eval c X.env);pure (ForInStep.yield ok) else pure (ForInStep.yield r)) (TP X ic σ Q) X.xe s
def cq:TT:=λ_ H Q=>Q true H
theorem Xg{X:Cx}:PIf X [] cq:=λ_ _ _ H _ I h=>wpAny_tests_nil ⟨H,I,h⟩
theorem Xh{X:Cx}{c:Expr}{t:TT}(h:PT X c t):PIf X [c] t:=λic s σ H Q I q=>wpAny_tests_one (h ic s σ H Q I q)
def Ta(J:It)(g:TG)(tt:TT)(te:TE)(σ₀:St)(H1:Hp)(Fin:List V->Hp->Prop):Prop:=
 ∃W:Nat->Nat->List V->St->Hp->Prop,(∃m,W 0 m [] σ₀ H1)/\∀i m acc σ' H',W i m acc σ' H'->acc.length<=sizeLine/\
  ((J.stop i H'/\Fin acc H')\/
    (J.go i H'/\∀x H2,J.yld i H' x H2->g x σ' H2 λσ3 H3=>tt σ3 H3 λb H4=>if b=true then te σ3 H4 λv H5=>∃m',m'<m/\W (i+1) m' (acc++[v]) σ3 H5 else ∃m',m'<m/\W (i+1) m' acc σ3 H4))
def K0(wi:TI)(g:TG)(tt:TT)(te:TE)(σf:St->St):TE:=λσ H Q=>wi σ H λJ H1=>Ta J g tt te (σf σ) H1 λacc H'=>∀p,H' p=none->acc.length<=sizeLine->Q (.ref p) (upd H' p (.lst acc))
structure CmpOk(X:Cx)(scope:Scope)(N':List Str)(σf:St->St):Prop where
 kind:scope.kind=.function
 cell:∀y∈scope.names,y.2≠.cell
 loc:∀y∈scope.names,y.2=.local->scope.names.lookup y.1=some .local
 free:∀y∈scope.names,y.2=.free->X.env.kindOf y.1=some .cell\/X.env.kindOf y.1=some .free
 len:∀σ:St,σ.length=X.N.length->(σf σ).length=N'.length
 vals:∀(σ:St) (j:Nat) (x:Str) (v:V),N'[j]?=some x->(σf σ)[j]?=some (some v)->∃i:Nat,X.N[i]?=some x/\σ[i]?=some (some v)/\scope.names.lookup x=some .free
section
variable{ic:List (ig×Obj)}{σ:St}{H2:Hp}{s2:ij}{cl:List (Str×ig)}{fp:List ig}
section
variable{X:Cx}{tg elt iter:Expr}{ifs:List Expr}{scope:Scope}{pos:Pos}{N':List Str}{wi:TI}{g:TG}{tt:TT}{te:TE}{σf:St->St}
theorem YD{C:ig}(O:CmpOk X scope N' σf)(I2:Inv X ic σ H2 s2)(f2:∀b∈fp,FpOk X ic H2 b)(hC:s2.heap.objs.size<=C)
 (hlt:∀b∈fp,b<s2.heap.objs.size) (e2:∀x c,cl.lookup x=some c->X.env.cells.lookup x=some c) (e4:∀y∈scope.names,y.2=.free->∃c,cl.lookup y.1=some c):(BY X N' scope cl C s2 H2 fp).Ok where
 mod:=I2.ok.mod
 kind:=O.kind
 glob:=I2.ok.glob
 blt:=I2.ok.blt
 above:=hC
 inj:=λx y c h1 h2=>I2.ok.inj x y c (e2 x c h1) (e2 y c h2)
 has:=λx h=>by
  have q:=N2 (env:=X.env) (x:=x) O.cell h;exact e4 _ (Dt q) rfl
 cab:=λx c h _=>nomatch h
 hd:=I2.ok.hd
 frames:=I2.ok.frames
 stk:=.inl rfl
 exf:=λb hb=>⟨uk8 (ue0 (hlt b hb) hC),λx c e=>(f2 b hb).2.2.2.2.1 x c (e2 x c e)⟩
 bs:=I2.bs
 bsz:=uk9 I2.ok.bsz I2.sz
 noex:=λb o e hb=>by
  rcases (f2 b hb).2.2.2.1 with z|z
  .exact I2.ok.noex b o e z
  .exact absurd (ue0 (uk7 (I2.ok.bs b o e).1) z) (uj6 _)
 exfs:=λb hb z=>by
  rcases uj7.mp (I2.stkSub b z) with q|q
  .exact(f2 b hb).2.1 q
  .exact(f2 b hb).2.2.1 q
 funs:=I2.stack
 frf:=I2.stkFree
theorem ay(I2:Inv X ic σ H2 s2){a:ig}(h:s2.heap.objs.size<=a):a∉frs X.stack:=λhb=>by
 rcases uj7.mp (I2.stkSub a hb) with q|q
 .exact absurd (ue0 I2.lt h) (by rw[q];exact uj6 _)
 .exact I2.nofs h q
theorem M9{it:ig}{tn:Nat->Heap->Prop}{J:It}{Fin:List V->Hp->Prop}{RR:ie->ig->Result->ij->Prop}{E:ie->ij->Prop}(O:CmpOk X scope N' σf)(hc:X.calm=true)
 (I2:Inv X ic σ H2 s2) (T:Turn X.prog X.w X.K tg J fp it tn) (st2:tn 0 s2.heap) (f2:∀b∈fp,FpOk X ic H2 b)
 (e2:∀x c,cl.lookup x=some c->X.env.cells.lookup x=some c) (e4:∀y∈scope.names,y.2=.free->∃c,cl.lookup y.1=some c)
 (hg:∀C,PG (BY X N' scope cl C s2 H2 fp) tg g) (ht:∀C,PIf (BY X N' scope cl C s2 H2 fp) ifs tt) (he:∀C,PE (BY X N' scope cl C s2 H2 fp) elt te)
 (B:Ta J g tt te (σf σ) H2 Fin)
 (fin:∀C s' σ' H' acc m,s2.heap.objs.size<=C->C≠s2.heap.objs.size->Inv (BY X N' scope cl C s2 H2 fp) [] σ' H' s'->H' s2.heap.objs.size=none->acc.length<=sizeLine->(∃its n,Vals acc its/\s'.heap.get? s2.heap.objs.size=some { cls:=.type "list",data:=.seq its.toArray n })->Fin acc H'->s'.heap.Ns C m->
   RR (.ref s2.heap.objs.size) C (.ok .next) s') :
 wpAny (model X.prog X.w) X.A (newList []) (λacc s₃=>wpAny (model X.prog X.w) X.A (newFunctionEnv scope X.env.globals cl [] X.env.qual none .none (some X.env)) (λcenv s₄=>
  codeAny (model X.prog X.w) X.A (.compStart (.ListComp elt [⟨tg,iter,ifs,0⟩] scope pos) 0 (.ref it) acc {cenv with scope:=relabel scope X.env}) (RR acc cenv.locals) s₄) E s₃) E s2:=by
 refine wpAny_newObj_type (wpAny_newFunctionEnv O.cell (by intro y hy;simp at hy) (λh₁ hns₁ hsb₁=>?_) O.kind);dsimp only at hns₁ hsb₁⊢;generalize hH2:s2.heap.push {cls:=.type "list",dict:=none,data:=.seq ([]:List ie).toArray}=HP at hns₁ hsb₁⊢;have hC:HP.objs.size=s2.heap.objs.size+1:=by rw[<-hH2,kt]
 generalize hDD:s2.heap.objs.size=DD at *;generalize hCC:HP.objs.size=CC at *;have hDC:DD≠CC:=by rw[hC];exact uk8 (ug3 _)
 have hCle:s2.heap.objs.size<=CC:=by rw[hC,hDD];exact ul6 _
 have hlt:∀b∈fp,b<s2.heap.objs.size:=λb hb=>by obtain⟨o,e,_⟩:=T.obj _ _ st2 b hb;exact uk7 e
 have hlt':∀b∈fp,b<DD:=λb hb=>by rw[<-hDD];exact hlt b hb
 have below:∀b,b<DD->b≠CC/\b≠DD:=λb hb=>⟨by rw[hC];exact uk8 (Nat.lt_succ_of_lt hb),uk8 hb⟩;have old:∀b o,s2.heap.get? b=some o->h₁.get? b=some o:=λb o e=>hsb₁.extBut b o (below b (by rw[<-hDD];exact uk7 e)).1 (ub9 _ (hH2 ▸ ub9 _ e));have hacc:h₁.get? DD=some {cls:=.type "list",data:=.seq ([]:List ie).toArray}:=by
  refine hsb₁.extBut _ _ hDC (ub9 _ ?_);rw[<-hH2,<-hDD];exact ud6 _ rfl
 have ok:=YD (cl:=cl) (C:=CC) O I2 f2 hCle hlt e2 e4;have hfs:DD∉frs X.stack:=ay I2 (by rw[hDD];exact ul4 _);obtain⟨W,⟨m0,w0⟩,turn⟩:=B
 let X':Cx:=BY X N' scope cl CC s2 H2 fp
 have I0:Inv X' [] (σf σ) H2 {s2 with heap:=h₁,toks:=s2.toks+([]:List (Str×ie)).length}:=by
  refine⟨ok,rfl,I2.bare,Un.kept old,⟨_,hns₁,λj x v q1 q2 q3=>?_⟩,λx c e=>?_,I2.hok.fresh hCle,λx c e=>I2.freeC x c (e2 x c e),(λp hp=>nomatch hp),I2.hok.kept old,O.len σ I2.len⟩
  .clear 5(O.vals σ j x v q1 q2)i n1 n2 n3;obtain⟨m,_,hl⟩:=I2.loc;have hfr:=O.free _ (Dt n3) rfl;clear 5(hl i x v n1 n2 (.inr hfr))u r l;refine⟨u,r,?_⟩;rcases l with⟨k,_⟩|⟨_,c,ec,hcell⟩
   .rcases hfr with z|z<;>(have z':=k.symm.trans z;cases z')
   .clear 5(e4 _ (Dt n3) rfl)c' ec';have z:=e2 _ _ ec';have ez:X.env.cells.lookup x=some c':=z;rw[ec] at ez
    cases ez
    refine .inr ⟨?_,c,ec',?_⟩
    .show(relabel scope X.env).names.lookup x=some .cell\/(relabel scope X.env).names.lookup x=some .free;rw[Hd,n3];simp only[ui6]
     split
     .exact .inl rfl
     .exact .inr rfl
    .clear 5 hcell o ho hd;exact⟨o,old _ _ ho,hd⟩
  .clear 5(I2.cell x c (e2 x c e))v o ho hd;exact⟨v,o,old _ _ ho,hd⟩
 have loop:∀s₃:ij,s₃ = {s2 with heap:=h₁,toks:=s2.toks+([]:List (Str×ie)).length}->
  codeAny (model X.prog X.w) X.A (.compLoop (.ListComp elt [⟨tg,iter,ifs,0⟩] scope pos) 0 (.ref it) (.ref DD) (compEnvC scope cl CC X.env)) (RR (.ref DD) CC) s₃:=by
  rintro s₃ rfl;refine Nr (λn s'=>∃i acc its nn σ' H',Inv X' [] σ' H' s'/\tn i s'.heap/\(∀b∈fp,H' b=none)/\Vals acc its/\s'.heap.get? DD=some {cls:=.type "list",data:=.seq its.toArray nn}/\H' DD=none/\W i n acc σ' H') ?_ m0
   ⟨0,[],[],0,σf σ,H2,I0,T.keep _ _ _ st2 (λb _ o e=>old b o e),λb hb=>(f2 b hb).1,.nil,hacc,I2.hok.fresh (by rw[hDD];exact ul4 _),w0⟩
  rintro n s' ⟨i,acc,its,nn,σ3,H3,I3,st3,fr3,hv,hD,hDn,w3⟩;have I3p:Inv X' [(DD,({cls:=.type "list",data:=.seq its.toArray nn}:Obj))] σ3 H3 s':=I3.pins_of λp hp=>by
   have e:p=(DD,({cls:=.type "list",data:=.seq its.toArray nn}:Obj)):=by simpa using hp
   subst e;exact⟨hD,hDn,hDC,hfs,λv z=>nomatch z⟩
  have stat:∀{pins':List (ig×Obj)}{H':Hp},(∀p∈pins',p.1=DD)->(∀b∈fp,H' b=none)->∀b∈fp,FpOk X' pins' H' b:=λ{pins' H'} hp hn b hb=>
   ⟨hn b hb,(ok.exf b hb).1,ok.exfs b hb,.inl hb,(ok.exf b hb).2,λp hp' z=>by
    have e:p.1=DD:=hp p (by simpa[X',BY] using hp');exact absurd (hlt' b hb) (by rw[<-z,e];exact uj6 _)⟩
  have one:∀p∈[(DD,({cls:=.type "list",data:=.seq its.toArray nn}:Obj))],p.1=DD:=λp hp=>by
   have e:p=(DD,({cls:=.type "list",data:=.seq its.toArray nn}:Obj)):=by simpa using hp
   rw[e]
  clear 5(turn i n acc σ3 H3 w3)hz tr;rcases tr with⟨stop,qf⟩|⟨go,step⟩
  .refine thn (T.done X' rfl rfl rfl hc i _ s' σ3 H3 (λ_ _=>False) I3p (stat one fr3) st3 stop) λr s4 z9=>?_;clear 5 z9 hr I4;subst hr;obtain⟨m4,hm4,_⟩:=I4.loc;have pD:=(I4.pin (DD,({cls:=.type "list",data:=.seq its.toArray nn}:Obj)) (by simp[X',BY])).1;have I4':Inv X' [] σ3 H3 s4:=I4.pins_of λp hp=>nomatch hp;exact fin CC s4 σ3 H3 acc m4 (by rw[hDD] at hCle;exact hCle) (Ne.symm hDC) I4' hDn hz ⟨its,nn,hv,pD⟩ qf hm4
  .refine thn (T.item X' rfl rfl rfl hc i _ s' σ3 H3 (λ_ _=>False) I3p (stat one fr3) st3 go) λr s4 z9=>?_;clear 5 z9 u hr h4;subst hr;refine thn h4 λ_ s5 z9=>?_;clear 5 z9 x H5 I5 r5 y5 st5 fr5;have I5':=I5.pinned (stat one fr5) (T.obj _ _ st5);refine thn (hg CC _ s5 σ3 H5 x u _ I5' r5 (step x H5 y5)) λ_ s6 z9=>?_;clear 5 z9 σ6 H6 I6 q6;refine thn (ht CC _ s6 σ6 H6 _ I6 q6) λb s7 z9=>?_;clear 5 z9 H7 I7 q7;have back:∀{H8:Hp}{s8:ij},Inv X' ([(DD,({cls:=.type "list",data:=.seq its.toArray nn}:Obj))]++IM fp s5.heap) σ6 H8 s8->
    s8.heap.get? DD=some {cls:=.type "list",data:=.seq its.toArray nn}/\H8 DD=none/\tn (i+1) s8.heap/\(∀b∈fp,H8 b=none)/\Inv X' [] σ6 H8 s8:=λ{H8 s8} I8=>by
    have p1:=I8.pin (DD,({cls:=.type "list",data:=.seq its.toArray nn}:Obj)) (by simp[X',BY]);refine⟨p1.1,p1.2.1,T.keep _ _ _ st5 λb hb o e=>(I8.pin (b,o) (uc5 _ (uc5 _ (FU hb e)))).1,λb hb=>?_,I8.pins_of λp hp=>nomatch hp⟩;obtain⟨o,e,_⟩:=T.obj _ _ st5 b hb;exact(I8.pin (b,o) (uc5 _ (uc5 _ (FU hb e)))).2.1
   cases b with
   |false=>
     rw[lK ue2] at q7⊢;clear 5 q7 m' hm w7;clear 5(back I7)a1 a2 a3 a4 a5;exact⟨m',hm,i+1,acc,its,nn,σ6,H7,a5,a3,a4,hv,a1,a2,w7⟩
   |true=>
     rw[lJ rfl] at q7⊢;refine thn (he CC _ s7 σ6 H7 _ I7 q7) λy s8 z9=>?_;clear 5 z9 v8 H8 I8 r8 m' hm w8;clear 5(back I8)a1 a2 a3 a4 a5;have hsz:its.toArray.size<=sizeLine:=by
      have e:=hv.length;simpa[e] using hz
     refine wpAny_list_append_plain (hsz:=hsz) ⟨nn,a1⟩ λh9 hl9 hs9=>?_;clear 5 hl9 n9 e9;have e9':h9.get? DD=some {cls:=.type "list",data:=.seq (its++[y]).toArray n9}:=by simpa using e9
     refine⟨m',hm,i+1,acc++[v8],its++[y],n9,σ6,H8,a5.turned (t':=s8.toks) (h':=h9) (it:=DD) (λb o hb e=>hs9.extBut b o hb e) a2 hDC (.inr (show s2.heap.objs.size<=DD by rw[hDD];exact ul4 _)) (λx' c e z=>?_) (λp hp=>nomatch hp),T.keep _ _ _ a3 λb hb o e=>hs9.extBut b o (uk8 (hlt' b hb)) e,a4,hv.append (.cons r8 .nil),e9',a2,w8⟩;clear 5(I2.cell x' c (e2 x' c e))v o ho hd;have:=uk7 ho;rw[hDD,z] at this;exact uj6 _ this
 exact codeAny_compStart_list (loop _ rfl) (T.self _ 0 _ _ _ (T.keep _ _ _ st2 λb _ o e=>old b o e) (loop _ rfl))
end
section
variable{X:Cx}{tg elt iter:Expr}{ifs:List Expr}{scope:Scope}{pos:Pos}{N':List Str}{wi:TI}{g:TG}{tt:TT}{te:TE}{σf:St->St}
theorem Mb{σ':St}{H':Hp}{s':ij}{C:ig}{acc:List V}{its:List ie}{n:Nat}{h':Heap}(I2:Inv X ic σ H2 s2)(f2:∀b∈fp,FpOk X ic H2 b)
 (hC:s2.heap.objs.size<=C) (hCD:C≠s2.heap.objs.size) (I':Inv (BY X N' scope cl C s2 H2 fp) [] σ' H' s') (hDn:H' s2.heap.objs.size=none) (hz:acc.length<=sizeLine) (hv:Vals acc its)
 (hD:s'.heap.get? s2.heap.objs.size=some {cls:=.type "list",data:=.seq its.toArray n}) (hs:Heap.SameBut C s'.heap h') :
 Inv X ic σ (upd H' s2.heap.objs.size (.lst acc)) {s' with heap:=h'}:=by
 have U:=I'.base;have lt:∀b o,s2.heap.get? b=some o->b≠C/\b≠s2.heap.objs.size:=λb o e=>⟨uk8 (ue0 (uk7 e) hC),uk8 (uk7 e)⟩;have neD:∀b u,H' b=some u->b≠s2.heap.objs.size:=λb u e=>AQ e hDn;have neC:∀b u,H' b=some u->b≠C:=λb u e=>AQ e I'.free;refine I2.call' (s':={s' with heap:=h'}) (ch:=fp) I'.os ⟨λb o e n hb hx=>?_,λb o e n hb hx=>?_,λb o e n hx=>?_,λb o e hx=>?_,λb xs e=>?_,λb o u e=>?_,λb ps e=>?_⟩ ?_ I'.bare λb hb=>⟨(f2 b hb).2.2.2.1,(f2 b hb).2.1,(f2 b hb).2.2.2.2.1,(f2 b hb).2.2.2.2.2⟩
 .exact hs.extBut b o (lt b o e).1 (U.keep b o e n hb hx)
 .clear 5(U.slot b o e n hb hx)sl q;exact⟨sl,hs.extBut b _ (lt b o e).1 q⟩
 .rw[Ah (lt b o e).2];exact U.free b o e n hx
 .clear 5(U.there b o e hx)o' q;exact⟨o',hs.extBut b _ (lt b o e).1 q⟩
 .have q:=U.tups b xs e;rw[Ah (neD b _ q)];exact q
 .have q:=U.frzs b o u e;rw[Ah (neD b _ q)];exact q
 .clear 5(U.tbls b ps e)m q;exact⟨m,by rw[Ah (neD b _ q)];exact q⟩
 .intro b u e
  by_cases hb:b=s2.heap.objs.size
  .subst hb;rw[Ak] at e
   cases e
   exact⟨hz,its,n,hv,hs.extBut _ _ (Ne.symm hCD) hD⟩
  .rw[Ah hb] at e;refine(I'.hok b u e).stay (λc v hc q=>hs.extBut c v ?_ q) (λc q=>by rw[Ah (neD c _ q)];exact q) λc xs q=>by rw[Ah (neD c _ q)];exact q
   rcases hc with z|z
   .rw[z];exact neC b u e
   .exact neC c _ z
theorem LL(O:CmpOk X scope N' σf)(hc:X.calm=true)(hi:PI X tg iter wi)
 (hg:∀cl C s2 H2 fp,PG (BY X N' scope cl C s2 H2 fp) tg g) (ht:∀cl C s2 H2 fp,PIf (BY X N' scope cl C s2 H2 fp) ifs tt) (he:∀cl C s2 H2 fp,PE (BY X N' scope cl C s2 H2 fp) elt te)
 (hs:∀x,foldedSetIterable iter X.env x=pure x:=by intro _;rfl):PE X (.ListComp elt [⟨tg,iter,ifs,0⟩] scope pos) (K0 wi g tt te σf):=by
 intro ic s σ H Q I h;obtain⟨cl,e1,e2,e4⟩:=Kw (scope:=scope) (env:=X.env) λy hy hf=>I.ok.has y.1 (O.free y hy hf);rw[eval_ListComp];refine wpAny_comprehension_free (use:=none) rfl hs e1 O.kind O.loc (thn (hi ic s σ H _ I h) λv s1 h1=>thn h1 λitv s2 h2=>?_);clear 5 h2 it fp tn J H2 rfl I2 T st2 f2 B;refine M9 (RR:=λacc C=>compPost (model X.prog X.w) X.A X.xe none (EP X ic σ Q) acc C) O hc I2 T st2 f2 e2 e4 (λC=>hg cl C s2 H2 fp) (λC=>ht cl C s2 H2 fp) (λC=>he cl C s2 H2 fp) B ?_;intro C s' σ' H' acc m hC hCD I' hDn hz hL fin hn;clear 5 hL its n hv hD;refine⟨m,hn,λh' hs'=>?_⟩;exact⟨.ref s2.heap.objs.size,upd H' _ (.lst acc),Mb I2 f2 hC hCD I' hDn hz hv hD hs',rfl,fin _ hDn hz⟩
set_option tactic.hygienic true in
theorem Xo{i:Nat}{y:Str}{py spos:Pos}(O:CmpOk X scope N' σf)(hc:X.calm=true)(hN:X.N.Nodup)(hiN:X.N[i]?=some y)(hx:X.env.scope.names.lookup y=some .local)(hi:PI X tg iter wi)
 (hg:∀cl C s2 H2 fp,PG (BY X N' scope cl C s2 H2 fp) tg g) (ht:∀cl C s2 H2 fp,PIf (BY X N' scope cl C s2 H2 fp) ifs tt) (he:∀cl C s2 H2 fp,PE (BY X N' scope cl C s2 H2 fp) elt te)
 (hsw:swapsWith (.ListComp elt [⟨tg,iter,ifs,0⟩] scope pos) (some (.Name y py)) spos.line X.env=pure true:=by rfl)
 (hs:∀x,foldedSetIterable iter X.env x=pure x:=by intro _;rfl):PS X (.Assign [.Name y py] (.ListComp elt [⟨tg,iter,ifs,0⟩] scope pos) spos) (Od (K0 wi g tt te σf) (KF i)):=by
 intro ic s σ H D I h;obtain⟨cl,e1,e2,e4⟩:=Kw (scope:=scope) (env:=X.env) λy hy hf=>I.ok.has y.1 (O.free y hy hf);rw[exec_Assign_Name_used _ _ _ _ hsw];refine ul8 (kx (ul8 ?_));show wpAny _ X.A (do let _ <-comprehension (.ListComp elt [⟨tg,iter,ifs,0⟩] scope pos) scope X.env _ (newList []) false (eval iter X.env) (some (assign (.Name y py) X.env))) _ _ s;refine ul8 (thn (wpAny_comprehension_free (use:=some (assign (.Name y py) X.env)) (Q:=λ_ s'=>SP X ic D .next s') rfl hs e1 O.kind O.loc (thn (hi ic s σ H _ I h) λv s1 h1=>thn h1 λitv s2 h2=>?_)) (λ_ s' hq=>ul9 (ul9 hq)));clear 5 h2 it fp tn J H2 rfl I2 T st2 f2 B;refine M9 (RR:=λacc C=>compPost (model X.prog X.w) X.A X.xe (some (assign (.Name y py) X.env)) (λ_ s'=>SP X ic D .next s') acc C) O hc I2 T st2 f2 e2 e4 (λC=>hg cl C s2 H2 fp) (λC=>ht cl C s2 H2 fp) (λC=>he cl C s2 H2 fp) B ?_;intro C s' σ' H' acc m hC hCD I' hDn hz hL fin hn;clear 5 hL its n hv hD;show wpAny _ X.A (assign (.Name y py) X.env (.ref s2.heap.objs.size)) _ _ _;have I3:=Mb I2 f2 hC hCD I' hDn hz hv hD (Heap.SameBut.refl ..);refine wpAny_assign_Name (IU I3 hN hiN (.inl hx) (v:=.ref s2.heap.objs.size) rfl (λs4 I4 z9=>?_) (.inr hx));clear 5 z9 a hsb ha;have hCL:C≠X.env.locals:=ul0 (ue0 I2.lt hC);have hCc:∀x c,X.env.cells.lookup x=some c->c≠C:=λx c e z=>by
  clear 5(I2.cell x c e)v q;exact absurd (ue0 q.lt (by rw[z];exact hC)) (uj6 _)
 have hCa:C≠a:=by
  rcases ha with z|z
  .rw[z];exact hCL
  .exact λq=>hCc _ _ z q.symm
 refine⟨m,hn.sameBut hsb hCa,λh' hs'=>?_⟩;have hnC:(upd H' s2.heap.objs.size (.lst acc)) C=none:=by rw[Ah hCD];exact I'.free
 refine⟨_,_,I4.turned (t':=s4.toks) (h':=h') (it:=C) (λb o hb e=>hs'.extBut b o hb e) hnC hCL (.inr (uk9 I2.sz hC)) hCc (λp hp z=>?_),fin _ hDn hz⟩;exact absurd (ue0 (uk7 (I2.pin p hp).1) (by rw[z];exact hC)) (uj6 _)
end
end
set_option autoImplicit false
inductive D where
 |non|bl (b:Bool)|int (i:Int)|str (x:Str)|tup (xs:List D)|lst (xs:List D)|scr (ns:List Int)|dic|obj (k:Nat)|ty (n:String)|exc (n:Str) (xs:List D)
structure Cf where
 ι:List ig
 O:ig->Prop
def Cf.A(c:Cf)(a:ig):Prop:=a∈c.ι\/c.O a
def Scr(K:ib)(c:Cf)(H:Hp)(a:ig)(vs:List V):Prop:=
 ((∃o,H a=some (.frz o (.lst vs)))/\¬c.A a)\/
   ∃(o:Obj) (its:Array ie) (n:Nat),K.lookup a=some o/\o.cls=.type "list"/\o.dict=none/\o.data=.seq its n/\its.size<=sizeLine/\Vals vs its.toList
def XIs(qx:Bool)(x C:ig)(dx:Option ig)(h:Heap):Prop:=∃(o:Obj) (vs:Array ie),h.get? x=some o/\o.cls=.ref C/\o.dict=dx/\o.data=.fields vs/\(qx=true->vs[2]?=some .none/\4<vs.size)
noncomputable def JR(n:Str):List Str:=if n = "NoTalk" then ["at"] else if n = "Broken" then ["at", "side"] else []
def XFld(c:Cf)(H:Hp)(dx:Option ig)(ns:List Str)(vs:List V):Prop:=match dx with
 |none=>vs=[]
 |some d=>H d=some (.xd (ns.zip vs))/\¬c.A d
mutual
inductive Rep(K:ib)(c:Cf)(H:Hp):V->D->Prop where
 |non:Rep K c H .non .non
 |bl (b:Bool):Rep K c H (.bl b) (.bl b)
 |int (i:Int):Rep K c H (.int i) (.int i)
 |str (x:Str):Rep K c H (.str x) (.str x)
 |ty (n:String):Rep K c H (.ty n) (.ty n)
 |tup {a:ig}{vs:List V}{ds:List D}:H a=some (.tup vs)->¬c.A a->Reps K c H vs ds->Rep K c H (.ref a) (.tup ds)
 |lst {a:ig}{vs:List V}{ds:List D}:H a=some (.lst vs)->¬c.A a->Reps K c H vs ds->Rep K c H (.ref a) (.lst ds)
 |scr {a:ig}{ns:List Int}:Scr K c H a (ns.map V.int)->Rep K c H (.ref a) (.scr ns)
 |dic {a:ig}:H a=some (.dK [])->¬c.A a->Rep K c H (.ref a) .dic
 |obj {a:ig}{k:Nat}:c.ι[k]?=some a->Rep K c H (.ref a) (.obj k)
 |exc {qx:Bool}{x C:ig}{dx:Option ig}{n:Str}{vs:List V}{ds:List D}:PySem.W.nsIn K mainGlobals n=some (some (.ref C))->H x=some (.ext (XIs qx x C dx))->¬c.A x->XFld c H dx (JR n) vs->Reps K c H vs ds->Rep K c H (.ref x) (.exc n ds)
inductive Reps(K:ib)(c:Cf)(H:Hp):List V->List D->Prop where
 |nil:Reps K c H [] []
 |cons {v:V}{d:D}{vs:List V}{ds:List D}:Rep K c H v d->Reps K c H vs ds->Reps K c H (v::vs) (d::ds)
end
def Rpv(K:ib)(c:Cf)(H:Hp)(v:V):D->Prop
 |.non=>v=.non
 |.bl b=>v=.bl b
 |.int i=>v=.int i
 |.str x=>v=.str x
 |.ty n=>v=.ty n
 |.tup ds=>∃a vs,v=.ref a/\H a=some (.tup vs)/\¬c.A a/\Reps K c H vs ds
 |.lst ds=>∃a vs,v=.ref a/\H a=some (.lst vs)/\¬c.A a/\Reps K c H vs ds
 |.scr ns=>∃a,v=.ref a/\Scr K c H a (ns.map V.int)
 |.dic=>∃a,v=.ref a/\H a=some (.dK [])/\¬c.A a
 |.obj k=>∃a,v=.ref a/\c.ι[k]?=some a
 |.exc _ _=>True
theorem Rep.rv{K:ib}{c:Cf}{H:Hp}{v:V}{d:D}(h:Rep K c H v d):Rpv K c H v d:=by cases h<;>first|rfl|trivial|exact⟨_,rfl,by assumption⟩|exact⟨_,rfl,by assumption,by assumption⟩|exact⟨_,_,rfl,by assumption,by assumption,by assumption⟩
structure Ext(c:Cf)(H:Hp)(c':Cf)(H':Hp):Prop where
 keep:∀b o,H b=some o->¬c.A b->H' b=some o
 av:∀b o,H b=some o->c'.A b->c.A b
 io:∀(k:Nat) (a:ig),c.ι[k]?=some a->c'.ι[k]?=some a
section
variable{c:Cf}{H:Hp}
theorem Ext.refl:Ext c H c H:=⟨λ_ _ h _=>h,λ_ _ _ h=>h,λ_ _ h=>h⟩
theorem Ext.trans{c1 c2:Cf}{H1 H2:Hp}(a:Ext c H c1 H1)(b:Ext c1 H1 c2 H2):Ext c H c2 H2:=by
 refine⟨λx o h n=>?_,λx o h n=>?_,λk x h=>b.io k x (a.io k x h)⟩
 .exact b.keep x o (a.keep x o h n) λz=>n (a.av x o h z)
 .by_cases q:c.A x
  .exact q
  .exact a.av x o h (b.av x o (a.keep x o h q) n)
variable{K:ib}{a:ig}{vs:List V}
theorem Scr.mono{c':Cf}{H':Hp}(e:Ext c H c' H')(h:Scr K c H a vs):Scr K c' H' a vs:=by
 rcases h with⟨⟨o,h⟩,n⟩|h
 .exact .inl ⟨⟨o,e.keep _ _ h n⟩,λz=>n (e.av _ _ h z)⟩
 .exact .inr h
theorem Scr.sq(h:Scr K c H a vs):SqL K H a vs:=by
 rcases h with⟨h,_⟩|h
 .exact .inl (.inr h)
 .exact .inr h
theorem XFld.mono{c':Cf}{H':Hp}{dx:Option ig}{ns:List Str}(e:Ext c H c' H')(h:XFld c H dx ns vs):XFld c' H' dx ns vs:=by
 cases dx with
 |none=>exact h
 |some d=>exact⟨e.keep _ _ h.1 h.2,λz=>h.2 (e.av _ _ h.1 z)⟩
mutual
theorem Rep.mono{K:ib}{c c':Cf}{H H':Hp}(e:Ext c H c' H'){v:V}{d:D}(r:Rep K c H v d):Rep K c' H' v d:=by
 cases r with
 |non=>exact .non
 |bl b=>exact .bl b
 |int i=>exact .int i
 |str x=>exact .str x
 |ty n=>exact .ty n
 |tup h n r=>exact .tup (e.keep _ _ h n) (λz=>n (e.av _ _ h z)) (Reps.mono e r)
 |lst h n r=>exact .lst (e.keep _ _ h n) (λz=>n (e.av _ _ h z)) (Reps.mono e r)
 |scr h=>exact .scr (h.mono e)
 |dic h n=>exact .dic (e.keep _ _ h n) (λz=>n (e.av _ _ h z))
 |obj h=>exact .obj (e.io _ _ h)
 |exc g h n f r=>exact .exc g (e.keep _ _ h n) (λz=>n (e.av _ _ h z)) (f.mono e) (Reps.mono e r)
theorem Reps.mono{K:ib}{c c':Cf}{H H':Hp}(e:Ext c H c' H'){vs:List V}{ds:List D}(r:Reps K c H vs ds):Reps K c' H' vs ds:=by
 cases r with
 |nil=>exact .nil
 |cons h t=>exact .cons (Rep.mono e h) (Reps.mono e t)
end
section
variable{K:ib}{c:Cf}{H:Hp}
theorem Reps.length:∀{vs:List V}{ds:List D},Reps K c H vs ds->vs.length=ds.length
 |_,_,.nil=>rfl
 |_,_,.cons _ t=>by simp[Reps.length t]
theorem Reps.get:∀{vs:List V}{ds:List D}{i:Nat}{v:V}{d:D},Reps K c H vs ds->vs[i]?=some v->ds[i]?=some d->Rep K c H v d
 |_,_,_,_,_,.nil,e,_=>by simp at e
 |_,_,0,_,_,.cons r _,e,e'=>by simp at e e';subst e e';exact r
 |_,_,i+1,_,_,.cons _ t,e,e'=>Reps.get (i:=i) t (by simpa using e) (by simpa using e')
theorem Reps.at:∀{vs:List V}{ds:List D}{i:Nat}{d:D},Reps K c H vs ds->ds[i]?=some d->∃v,vs[i]?=some v/\Rep K c H v d
 |_,_,_,_,.nil,e=>by simp at e
 |_,_,0,_,.cons r _,e=>by simp at e;subst e;exact⟨_,rfl,r⟩
 |_,_,i+1,_,.cons _ t,e=>by
   clear 5(Reps.at (i:=i) t (by simpa using e))v h1 h2;exact⟨v,by simpa using h1,h2⟩
theorem Reps.append{vs ws:List V}{ds es:List D}(r:Reps K c H vs ds)(s:Reps K c H ws es):Reps K c H (vs++ws) (ds++es):=by
 cases r with
 |nil=>exact s
 |cons r t=>exact .cons r (Reps.append t s)
theorem Reps.take:∀{vs:List V}{ds:List D} (n:Nat),Reps K c H vs ds->Reps K c H (vs.take n) (ds.take n)
 |_,_,0,_=>.nil
 |_,_,_+1,.nil=>.nil
 |_,_,n+1,.cons r t=>.cons r (Reps.take n t)
theorem Reps.drop:∀{vs:List V}{ds:List D} (n:Nat),Reps K c H vs ds->Reps K c H (vs.drop n) (ds.drop n)
 |_,_,0,r=>r
 |_,_,_+1,.nil=>.nil
 |_,_,n+1,.cons _ t=>Reps.drop n t
theorem Reps.set{v:V}{d:D}(r:Rep K c H v d):∀{vs:List V}{ds:List D} (i:Nat),Reps K c H vs ds->Reps K c H (vs.set i v) (ds.set i d)
 |_,_,_,.nil=>.nil
 |_,_,0,.cons _ t=>.cons r t
 |_,_,i+1,.cons q t=>.cons q (Reps.set r i t)
theorem Reps.ints:∀ns:List Int,Reps K c H (ns.map V.int) (ns.map D.int)
 |[]=>.nil
 |n::r=>.cons (.int n) (Reps.ints r)
theorem Reps.rep{vs:List V}{ds:List D}(h:Reps K c H vs ds):∀k:Nat,Reps K c H (List.replicate k vs).flatten (List.replicate k ds).flatten
 |0=>.nil
 |k+1=>by
   rw[ud8,ud8,uf4,uf4];exact h.append (Reps.rep h k)
end
inductive Ob where
 |lst (xs:List D)
 |dct (kvs:List (Key×D))
 |ins (n:Str) (fs:List (Str×D))
inductive Sl where
 |val (d:D)
 |own (xs:List D)
structure T where
 env:List (Option Sl)
 S:List Ob
def KVR(K:ib)(c:Cf)(H:Hp):List (Key×V)->List (Key×D)->Prop:=Paired λp q=>p.1=q.1/\Rep K c H p.2 q.2
noncomputable def Lv:List Str:=["Reader", "Side", "Lasting", "Parley", "Listener", "Relay", "Desk"]
noncomputable def atN:List Str:=["grammar", "standing", "wires", "places", "side", "said", "taken", "handed", "left", "right", "under_way", "grammars", "standings", "heard", "left_grammar", "right_grammar", "rows", "pair", "broken", "parley"]
def FldR(K:ib)(c:Cf)(H:Hp):List (Str×V)->List (Str×D)->Prop:=Paired λp q=>p.1=q.1/\Rep K c H p.2 q.2
def ObR(K:ib)(c:Cf)(H:Hp)(a:ig):Ob->Prop
 |.lst ds=>∃vs,H a=some (.lst vs)/\Reps K c H vs ds
 |.dct kvs=>∃us,H a=some (.dK us)/\KVR K c H us kvs
 |.ins n fs=>(n∈Lv/\∀p∈fs,p.1∈atN)/\∃C dx us,PySem.W.nsIn K mainGlobals n=some (some (.ref C))/\H a=some (.ins C dx us)/\FldR K c H us fs
theorem ObR.mono{K:ib}{c c':Cf}{H H':Hp}{a:ig}{o:Ob}(e:Ext c H c' H')(h:ObR K c H a o)(ha:H' a=H a):ObR K c' H' a o:=by
 cases o with
 |lst ds=>clear 5 h vs h1 h2;exact⟨vs,ha.trans h1,h2.mono e⟩
 |dct kvs=>clear 5 h us h1 h2;exact⟨us,ha.trans h1,Paired.mapP h2 λ_ _ z=>⟨z.1,z.2.mono e⟩⟩
 |ins n fs=>clear 5 h h0 C dx us g h1 h2;exact⟨h0,C,dx,us,g,ha.trans h1,Paired.mapP h2 λ_ _ z=>⟨z.1,z.2.mono e⟩⟩
theorem ObR.some{o:Ob}(h:ObR K c H a o):∃u,H a=some u:=by
 cases o with
 |lst ds=>obtain⟨vs,h1,_⟩:=h;exact⟨_,h1⟩
 |dct kvs=>obtain⟨us,h1,_⟩:=h;exact⟨_,h1⟩
 |ins n fs=>obtain⟨_,_,_,_,_,h1,_⟩:=h;exact⟨_,h1⟩
structure SInv(K:ib)(c:Cf)(S:List Ob)(H:Hp):Prop where
 len:c.ι.length=S.length
 nd:c.ι.Nodup
 obs:∀(k:Nat) (a:ig) (o:Ob),c.ι[k]?=some a->S[k]?=some o->ObR K c H a o
 trk:∀b,c.O b->∃o,H b=some o
 dis:∀b,c.O b->b∉c.ι
variable{S:List Ob}
theorem SInv.trkA(s:SInv K c S H){b:ig}(h:c.A b):∃o,H b=some o:=by
 rcases h with h|h
 .clear 5(List.mem_iff_getElem.mp h)k hk e;have e1:c.ι[k]?=some b:=by rw[ub3 hk,e]
  have hk':k<S.length:=by rw[<-s.len];exact hk
  exact(s.obs k b _ e1 (ub3 hk')).some
 .exact s.trk b h
theorem SInv.free(s:SInv K c S H){b:ig}(h:H b=none):¬c.A b:=λz=>by
 clear 5(s.trkA z)o e;rw[h] at e;cases e
structure FInv(K:ib)(Oo:ig->Prop)(c:Cf)(t:T)(σ:St)(H:Hp):Prop where
 s:SInv K c t.S H
 len:t.env.length=σ.length
 sub:∀b,Oo b->c.O b
 val:∀(i:Nat) (d:D),t.env[i]?=some (some (.val d))->∃v,σ[i]?=some (some v)/\Rep K c H v d
 own:∀(i:Nat) (ds:List D),t.env[i]?=some (some (.own ds))->∃a vs,σ[i]?=some (some (.ref a))/\c.O a/\¬Oo a/\H a=some (.lst vs)/\Reps K c H vs ds
 inj:∀(i j:Nat) (ds es:List D) (a:ig),t.env[i]?=some (some (.own ds))->t.env[j]?=some (some (.own es))->σ[i]?=some (some (.ref a))->σ[j]?=some (some (.ref a))->i=j
structure Stp(Oo:ig->Prop)(c:Cf)(H:Hp)(c':Cf)(H':Hp):Prop where
 ext:Ext c H c' H'
 oo:∀b,Oo b->H' b=H b
theorem Stp.refl{Oo:ig->Prop}{c:Cf}{H:Hp}:Stp Oo c H c H:=⟨.refl,λ_ _=>rfl⟩
theorem Stp.trans{Oo:ig->Prop}{c c1 c2:Cf}{H H1 H2:Hp}(a:Stp Oo c H c1 H1)(b:Stp Oo c1 H1 c2 H2):Stp Oo c H c2 H2:=
 ⟨a.ext.trans b.ext,λx h=>(b.oo x h).trans (a.oo x h)⟩
section
variable{K:ib}{Oo:ig->Prop}{c:Cf}{t:T}{σ:St}{H:Hp}
theorem Ext.laid(s:SInv K c S H){p:ig}{o:HO}(h:H p=none):Ext c H c (upd H p o):=
 ⟨λb u e _=>by rw[Ah (AQ e h)];exact e,λ_ _ _ z=>z,λ_ _ e=>e⟩
theorem SInv.laid{S:List Ob}(s:SInv K c S H){p:ig}{o:HO}(h:H p=none):SInv K c S (upd H p o):=
 ⟨s.len,s.nd,λk a u e1 e2=>by
  have q:=s.obs k a u e1 e2;clear 5 q.some w hw;exact q.mono (Ext.laid s h) (Ah (AQ hw h)),
  λb z=>by clear 5(s.trk b z)u e;exact⟨u,by rw[Ah (AQ e h)];exact e⟩,s.dis⟩
theorem FInv.laid(f:FInv K Oo c t σ H){p:ig}{o:HO}(h:H p=none):FInv K Oo c t σ (upd H p o):=by
 have e:=Ext.laid (o:=o) f.s h;refine⟨f.s.laid h,f.len,f.sub,λi d q=>?_,λi ds q=>?_,f.inj⟩
 .clear 5(f.val i d q)v h1 h2;exact⟨v,h1,h2.mono e⟩
 .clear 5(f.own i ds q)a vs h1 h2 h3 h4 h5;exact⟨a,vs,h1,h2,h3,by rw[Ah (AQ h4 h)];exact h4,h5.mono e⟩
theorem FInv.stp_laid(f:FInv K Oo c t σ H){p:ig}{o:HO}(h:H p=none):Stp Oo c H c (upd H p o):=
 ⟨Ext.laid f.s h,λb z=>by clear 5(f.s.trk b (f.sub b z))u e;exact Ah (AQ e h)⟩
set_option tactic.hygienic true
theorem FInv.set(f:FInv K Oo c t σ H){i:Nat}{v:V}{d:D}(r:Rep K c H v d):FInv K Oo c {t with env:=t.env.set i (some (.val d))} (σ.set i (some v)) H:=by
 have neq:∀{j:Nat}{x:Sl},(t.env.set i (some (.val d)))[j]?=some (some x)->(j=i/\x=.val d/\j<t.env.length)\/(j≠i/\t.env[j]?=some (some x)):=λ{j x} q=>by
  by_cases h:j=i
  .subst h;rw[uf7] at q
   split at q
   .split at q
    .next h1=>injection q with q;injection q with q;exact .inl ⟨rfl,q.symm,h1⟩
    .cases q
   .next h1=>exact absurd rfl h1
  .rw[ud2 (Ne.symm h)] at q;exact .inr ⟨h,q⟩
 refine⟨f.s,by simp[f.len],f.sub,λj e q=>?_,λj ds q=>?_,λj k ds es a q1 q2 q3 q4=>?_⟩
 .rcases neq q with⟨rfl,z,hl⟩|⟨h,q⟩
  .cases z
   exact⟨v,by rw[ub8 (by rw[<-f.len];exact hl)],r⟩
  .clear 5(f.val j e q)u h1 h2;exact⟨u,by rw[ud2 (Ne.symm h)];exact h1,h2⟩
 .rcases neq q with⟨rfl,z,_⟩|⟨h,q⟩
  .cases z
  .clear 5(f.own j ds q)a vs h1 h2;exact⟨a,vs,by rw[ud2 (Ne.symm h)];exact h1,h2⟩
 .rcases neq q1 with⟨_,z,_⟩|⟨h,q1⟩
  .cases z
  rcases neq q2 with⟨_,z,_⟩|⟨h',q2⟩
  .cases z
  rw[ud2 (Ne.symm h)] at q3;rw[ud2 (Ne.symm h')] at q4;exact f.inj j k ds es a q1 q2 q3 q4
theorem FInv.setOwn(f:FInv K Oo c t σ H){i:Nat}{p:ig}{vs:List V}{ds:List D}(h:H p=none)(r:Reps K c H vs ds) :
 ∃c',FInv K Oo c' {t with env:=t.env.set i (some (.own ds))} (σ.set i (some (.ref p))) (upd H p (.lst vs))/\Stp Oo c H c' (upd H p (.lst vs)):=by
 let c':Cf:=⟨c.ι,λb=>c.O b\/b=p⟩
 have nA:¬c.A p:=f.s.free h;have ext:Ext c H c' (upd H p (.lst vs)):=by
  refine⟨λb u e _=>by rw[Ah (AQ e h)];exact e,λb u e z=>?_,λ_ _ e=>e⟩;rcases z with z|z|z
  .exact .inl z
  .exact .inr z
  .subst z;rw[h] at e;cases e
 have stp:Stp Oo c H c' (upd H p (.lst vs)):=⟨ext,λb z=>by clear 5(f.s.trk b (f.sub b z))u e;exact Ah (AQ e h)⟩;have sinv:SInv K c' t.S (upd H p (.lst vs)):=by
  refine⟨f.s.len,f.s.nd,λk a u e1 e2=>?_,λb z=>?_,λb z hb=>?_⟩
  .have q:=f.s.obs k a u e1 e2;clear 5 q.some w hw;exact q.mono ext (Ah (AQ hw h))
  .rcases z with z|z
   .clear 5(f.s.trk b z)u e;exact⟨u,by rw[Ah (AQ e h)];exact e⟩
   .subst z;exact⟨_,Ak⟩
  .rcases z with z|z
   .exact f.s.dis b z hb
   .subst z;exact nA (.inl hb)
 have neq:∀{j:Nat}{x:Sl},(t.env.set i (some (.own ds)))[j]?=some (some x)->(j=i/\x=.own ds/\j<t.env.length)\/(j≠i/\t.env[j]?=some (some x)):=λ{j x} q=>by
  by_cases h:j=i
  .subst h;rw[uf7] at q
   split at q
   .split at q
    .next h1=>injection q with q;injection q with q;exact .inl ⟨rfl,q.symm,h1⟩
    .cases q
   .next h1=>exact absurd rfl h1
  .rw[ud2 (Ne.symm h)] at q;exact .inr ⟨h,q⟩
 have fresh:∀(j:Nat) (es:List D),t.env[j]?=some (some (.own es))->σ[j]?≠some (some (.ref p)):=λj es q z=>by
  obtain⟨a,vs',h1,_,_,h4,_⟩:=f.own j es q;rw[h1] at z;injection z with z;injection z with z;injection z with z;subst z;rw[h] at h4;cases h4
 refine⟨c',⟨sinv,by simp[f.len],λb z=>.inl (f.sub b z),λj e q=>?_,λj es q=>?_,λj k ds' es a q1 q2 q3 q4=>?_⟩,stp⟩
 .rcases neq q with⟨_,z,_⟩|⟨hn,q⟩
  .cases z
  .clear 5(f.val j e q)u h1 h2;exact⟨u,by rw[ud2 (Ne.symm hn)];exact h1,h2.mono ext⟩
 .rcases neq q with⟨rfl,z,hl⟩|⟨hn,q⟩
  .cases z
   refine⟨p,vs,by rw[ub8 (by rw[<-f.len];exact hl)],.inr rfl,λz=>?_,Ak,r.mono ext⟩;clear 5(f.s.trk p (f.sub p z))u e;rw[h] at e;cases e
  .clear 5(f.own j es q)a ws h1 h2 h3 h4 h5;exact⟨a,ws,by rw[ud2 (Ne.symm hn)];exact h1,.inl h2,h3,by rw[Ah (AQ h4 h)];exact h4,h5.mono ext⟩
 .rcases neq q1 with⟨z1,z2,l1⟩|⟨n1,r1⟩
  .rcases neq q2 with⟨y1,_,_⟩|⟨n2,r2⟩
   .rw[z1,y1]
   .subst z1;rw[ub8 (by rw[<-f.len];exact l1)] at q3;injection q3 with q3;injection q3 with q3;injection q3 with q3;subst q3
    rw[ud2 (Ne.symm n2)] at q4;exact absurd q4 (fresh k es r2)
  .rcases neq q2 with⟨y1,y2,l2⟩|⟨n2,r2⟩
   .subst y1;rw[ub8 (by rw[<-f.len];exact l2)] at q4;injection q4 with q4;injection q4 with q4;injection q4 with q4;subst q4
    rw[ud2 (Ne.symm n1)] at q3;exact absurd q3 (fresh j ds' r1)
   .rw[ud2 (Ne.symm n1)] at q3;rw[ud2 (Ne.symm n2)] at q4;exact f.inj j k ds' es a r1 r2 q3 q4
theorem FInv.frz(f:FInv K Oo c t σ H){i:Nat}{ds:List D}(q:t.env[i]?=some (some (.own ds))) :
 ∃c' v,FInv K Oo c' {t with env:=t.env.set i (some (.val (.lst ds)))} σ H/\Stp Oo c H c' H/\σ[i]?=some (some v)/\Rep K c' H v (.lst ds):=by
 clear 5(f.own i ds q)a vs h1 h2 h3 h4 h5
 let c':Cf:=⟨c.ι,λb=>c.O b/\b≠a⟩
 have ext:Ext c H c' H:=⟨λ_ _ e _=>e,λb u e z=>z.elim .inl λw=>.inr w.1,λ_ _ e=>e⟩;have sinv:SInv K c' t.S H:=⟨f.s.len,f.s.nd,λk b u e1 e2=>(f.s.obs k b u e1 e2).mono ext rfl,λb z=>f.s.trk b z.1,λb z=>f.s.dis b z.1⟩;have nA:¬c'.A a:=λz=>z.elim (λw=>f.s.dis a h2 w) λw=>w.2 rfl;have hσ:σ.set i (some (.ref a))=σ:=by
  apply List.ext_getElem?;intro j
  by_cases hj:j=i
  .subst hj;rw[ub8 (by have:=(ua9.mp h1).1;exact this),h1]
  .rw[ud2 (Ne.symm hj)]
 have r:Rep K c' H (.ref a) (.lst ds):=.lst h4 nA (h5.mono ext);have f0:FInv K Oo c' {t with env:=t.env.set i (some (.val (.lst ds)))} σ H:=by
  have neq:∀{j:Nat}{x:Sl},(t.env.set i (some (.val (.lst ds))))[j]?=some (some x)->(j=i/\x=.val (.lst ds))\/(j≠i/\t.env[j]?=some (some x)):=λ{j x} q=>by
   by_cases h:j=i
   .subst h;rw[uf7] at q
    split at q
    .split at q
     .injection q with q;injection q with q;exact .inl ⟨rfl,q.symm⟩
     .cases q
    .next h1=>exact absurd rfl h1
   .rw[ud2 (Ne.symm h)] at q;exact .inr ⟨h,q⟩
  refine⟨sinv,by simp[f.len],λb z=>⟨f.sub b z,λw=>h3 (w ▸ z)⟩,λj e q'=>?_,λj es q'=>?_,λj k ds' es b q1 q2 q3 q4=>?_⟩
  .rcases neq q' with⟨rfl,z⟩|⟨hn,q'⟩
   .cases z;exact⟨_,h1,r⟩
   .clear 5(f.val j e q')u w1 w2;exact⟨u,w1,w2.mono ext⟩
  .rcases neq q' with⟨_,z⟩|⟨hn,q'⟩
   .cases z
   .clear 5(f.own j es q')b ws w1 w2 w3 w4 w5;refine⟨b,ws,w1,⟨w2,λz=>?_⟩,w3,w4,w5.mono ext⟩;subst z;exact hn (f.inj j i es ds b q' q w1 h1)
  .rcases neq q1 with⟨_,z⟩|⟨_,q1⟩
   .cases z
   rcases neq q2 with⟨_,z⟩|⟨_,q2⟩
   .cases z
   exact f.inj j k ds' es b q1 q2 q3 q4
 exact⟨c',_,f0,⟨ext,λ_ _=>rfl⟩,h1,r⟩
theorem FInv.wrOwn(f:FInv K Oo c t σ H){i:Nat}{ds ds':List D}{vs':List V}{a:ig}(q:t.env[i]?=some (some (.own ds)))(h1:σ[i]?=some (some (.ref a)))(r:Reps K c H vs' ds') :
 FInv K Oo c {t with env:=t.env.set i (some (.own ds'))} σ (upd H a (.lst vs'))/\Stp Oo c H c (upd H a (.lst vs')):=by
 clear 5(f.own i ds q)a' vs g1 h2 h3 h4 h5;rw[h1] at g1;injection g1 with g1;injection g1 with g1;injection g1 with g1;subst g1
 have ext:Ext c H c (upd H a (.lst vs')):=⟨λb u e n=>by rw[Ah (λ(z:b=a)=>n (.inr (by rw[z];exact h2)))];exact e,λ_ _ _ z=>z,λ_ _ e=>e⟩;have stp:Stp Oo c H c (upd H a (.lst vs')):=⟨ext,λb z=>Ah λw=>h3 (w ▸ z)⟩;have sinv:SInv K c t.S (upd H a (.lst vs')):=by
  refine⟨f.s.len,f.s.nd,λk b u e1 e2=>(f.s.obs k b u e1 e2).mono ext (Ah λz=>f.s.dis a h2 (z ▸ ud3 e1)),λb z=>?_,f.s.dis⟩
  by_cases hb:b=a
  .subst hb;exact⟨_,Ak⟩
  .clear 5(f.s.trk b z)u e;exact⟨u,by rw[Ah hb];exact e⟩
 have neq:∀{j:Nat}{x:Sl},(t.env.set i (some (.own ds')))[j]?=some (some x)->(j=i/\x=.own ds')\/(j≠i/\t.env[j]?=some (some x)):=λ{j x} q=>by
  by_cases h:j=i
  .subst h;rw[uf7] at q
   split at q
   .split at q
    .injection q with q;injection q with q;exact .inl ⟨rfl,q.symm⟩
    .cases q
   .next h1=>exact absurd rfl h1
  .rw[ud2 (Ne.symm h)] at q;exact .inr ⟨h,q⟩
 refine⟨⟨sinv,by simp[f.len],f.sub,λj e q'=>?_,λj es q'=>?_,λj k es es' b q1 q2 q3 q4=>?_⟩,stp⟩
 .rcases neq q' with⟨_,z⟩|⟨_,q'⟩
  .cases z
  .clear 5(f.val j e q')u w1 w2;exact⟨u,w1,w2.mono ext⟩
 .rcases neq q' with⟨rfl,z⟩|⟨hn,q'⟩
  .cases z;exact⟨a,vs',h1,h2,h3,Ak,r.mono ext⟩
  .clear 5(f.own j es q')b ws w1 w2 w3 w4 w5;have hb:b≠a:=λz=>by subst z;exact hn (f.inj j i es ds b q' q w1 h1)
   exact⟨b,ws,w1,w2,w3,by rw[Ah hb];exact w4,w5.mono ext⟩
 .have old:∀{j:Nat}{x:List D},(t.env.set i (some (.own ds')))[j]?=some (some (.own x))->∃y,t.env[j]?=some (some (.own y)):=λ{j x} q'=>by
   rcases neq q' with⟨rfl,_⟩|⟨_,q'⟩
   .exact⟨ds,q⟩
   .exact⟨x,q'⟩
  clear 5(old q1)y1 z1;clear 5(old q2)y2 z2;exact f.inj j k y1 y2 b z1 z2 q3 q4
set_option tactic.hygienic false
theorem FInv.wrObj(f:FInv K Oo c t σ H){k:Nat}{a:ig}{o:Ob}{u:HO}(e:c.ι[k]?=some a)(r:∀c' H',Ext c H c' H'->H' a=some u->ObR K c' H' a o) :
 FInv K Oo c {t with S:=t.S.set k o} σ (upd H a u)/\Stp Oo c H c (upd H a u):=by
 have hA:a∈c.ι:=ud3 e;have ext:Ext c H c (upd H a u):=⟨λb w h n=>by rw[Ah (λ(z:b=a)=>n (.inl (by rw[z];exact hA)))];exact h,λ_ _ _ z=>z,λ_ _ e=>e⟩;have neO:∀b,c.O b->b≠a:=λb z w=>f.s.dis b z (w ▸ hA);have stp:Stp Oo c H c (upd H a u):=⟨ext,λb z=>Ah (neO b (f.sub b z))⟩;have sinv:SInv K c (t.S.set k o) (upd H a u):=by
  refine⟨by simp[f.s.len],f.s.nd,λj b o' e1 e2=>?_,λb z=>?_,f.s.dis⟩
  .by_cases hj:j=k
   .subst hj;rw[e] at e1;cases e1
    have hl:j<t.S.length:=by rw[<-f.s.len];exact(ua9.mp e).1
    rw[ub8 hl] at e2;cases e2
    exact r c _ ext Ak
   .rw[ud2 (Ne.symm hj)] at e2;refine(f.s.obs j b o' e1 e2).mono ext (Ah λz=>?_);subst z;clear 5(ua9.mp e1)l1 g1;clear 5(ua9.mp e)l2 g2;exact hj ((ug1 f.s.nd).mp (g1.trans g2.symm))
  .clear 5(f.s.trk b z)w h;exact⟨w,by rw[Ah (neO b z)];exact h⟩
 refine⟨⟨sinv,f.len,f.sub,λi d q=>?_,λi ds q=>?_,f.inj⟩,stp⟩
 .clear 5(f.val i d q)v h1 h2;exact⟨v,h1,h2.mono ext⟩
 .clear 5(f.own i ds q)b vs h1 h2 h3 h4 h5;exact⟨b,vs,h1,h2,h3,by rw[Ah (neO b h2)];exact h4,h5.mono ext⟩
theorem FInv.newObj(f:FInv K Oo c t σ H){p:ig}{o:Ob}{u:HO}(h:H p=none)(r:∀c' H',Ext c H c' H'->H' p=some u->ObR K c' H' p o) :
 ∃c',FInv K Oo c' {t with S:=t.S++[o]} σ (upd H p u)/\Stp Oo c H c' (upd H p u)/\c'.ι[t.S.length]?=some p:=by
 let c':Cf:=⟨c.ι++[p],c.O⟩
 have nA:¬c.A p:=f.s.free h;have ext:Ext c H c' (upd H p u):=by
  refine⟨λb w e _=>by rw[Ah (AQ e h)];exact e,λb w e z=>?_,λk a e=>?_⟩
  .rcases z with z|z
   .rcases uh5.mp z with z|z
    .exact .inl z
    .rw[ue7] at z;subst z;rw[h] at e;cases e
   .exact .inr z
  .show(c.ι++[p])[k]?=some a;rw[ub0 (ua9.mp e).1];exact e
 have stp:Stp Oo c H c' (upd H p u):=⟨ext,λb z=>by clear 5(f.s.trk b (f.sub b z))w e;exact Ah (AQ e h)⟩;have at_:(c.ι++[p])[t.S.length]?=some p:=by rw[<-f.s.len,ua5 (ul4 _)];simp
 have sinv:SInv K c' (t.S++[o]) (upd H p u):=by
  refine⟨by simp[c',f.s.len],?_,λj b o' e1 e2=>?_,λb z=>?_,λb z hb=>?_⟩
  .show(c.ι++[p]).Nodup;exact List.nodup_append.mpr ⟨f.s.nd,by simp,λx hx y hy z=>by rw[ue7] at hy;subst z;subst hy;exact nA (.inl hx)⟩
  .have hlt:j<(t.S++[o]).length:=(ua9.mp e2).1
   by_cases hj:j<t.S.length
   .have e1':c.ι[j]?=some b:=by
     have q:(c.ι++[p])[j]?=some b:=e1;rw[ub0 (by rw[f.s.len];exact hj)] at q;exact q
    rw[ub0 hj] at e2;have q:=f.s.obs j b o' e1' e2;clear 5 q.some w hw;exact q.mono ext (Ah (AQ hw h))
   .have hj':j=t.S.length:=by simp at hlt;lia
    subst hj';rw[at_] at e1;cases e1
    rw[ua5 (ul4 _)] at e2;simp at e2;subst e2;exact r c' _ ext Ak
  .clear 5(f.s.trk b z)w e;exact⟨w,by rw[Ah (AQ e h)];exact e⟩
  .rcases uh5.mp hb with w|w
   .exact f.s.dis b z w
   .rw[ue7] at w;subst w;exact nA (.inr z)
 refine⟨c',⟨sinv,f.len,f.sub,λi d q=>?_,λi ds q=>?_,f.inj⟩,stp,at_⟩
 .clear 5(f.val i d q)v h1 h2;exact⟨v,h1,h2.mono ext⟩
 .clear 5(f.own i ds q)b vs h1 h2 h3 h4 h5;exact⟨b,vs,h1,h2,h3,by rw[Ah (AQ h4 h)];exact h4,h5.mono ext⟩
theorem FInv.after(f:FInv K Oo c t σ H){c':Cf}{S':List Ob}{H':Hp}(s:SInv K c' S' H')(st:Stp c.O c H c' H')(ho:∀b,c'.O b↔c.O b):FInv K Oo c' {t with S:=S'} σ H'/\Stp Oo c H c' H':=by
 refine⟨⟨s,f.len,λb z=>(ho b).mpr (f.sub b z),λi d q=>?_,λi ds q=>?_,f.inj⟩,st.ext,λb z=>st.oo b (f.sub b z)⟩
 .clear 5(f.val i d q)v h1 h2;exact⟨v,h1,h2.mono st.ext⟩
 .clear 5(f.own i ds q)b vs h1 h2 h3 h4 h5;exact⟨b,vs,h1,(ho b).mpr h2,h3,(st.oo b h2).trans h4,h5.mono st.ext⟩
end
abbrev M(α:Type):=T->Option (α×T)
inductive Out where
 |next|brk|cont|ret (d:D)
noncomputable def ret{α:Type}(a:α):M α:=λt=>some (a,t)
noncomputable def fail{α:Type}:M α:=λ_=>none
noncomputable def bnd{α β:Type}(f:M α)(g:α->M β):M β:=λt=>match f t with
 |some (a,t1)=>g a t1
 |none=>none
variable{t:T}
theorem Af{α β:Type}{f:M α}{g:α->M β}{z:β×T}(h:bnd f g t=some z):∃a t1,f t=some (a,t1)/\g a t1=some z:=by
 unfold bnd at h
 cases e:f t with
 |none=>rw[e] at h;cases h
 |some p=>clear 5 p a t1;rw[e] at h;exact⟨a,t1,rfl,h⟩
noncomputable def LIM:Nat:=100000
theorem Dm:LIM<=sizeLine:=by unfold LIM;decide
theorem Yn:LIM<sizeLine:=by unfold LIM;decide
section
variable(K:ib)
inductive RE(f:M D)(σ:L2.St)(H:Hp)(Q:VK):Prop where
 |mk (Oo:ig->Prop) (c:Cf) (t:T) (fi:FInv K Oo c t σ H) (r:D) (t':T) (e:f t=some (r,t')) (k:∀v H' c',FInv K Oo c' t' σ H'->Stp Oo c H c' H'->Rep K c' H' v r->Q v H'):RE f σ H Q
inductive RT(f:M Bool)(σ:L2.St)(H:Hp)(Q:Bool->Hp->Prop):Prop where
 |mk (Oo:ig->Prop) (c:Cf) (t:T) (fi:FInv K Oo c t σ H) (r:Bool) (t':T) (e:f t=some (r,t')) (k:∀H' c',FInv K Oo c' t' σ H'->Stp Oo c H c' H'->Q r H'):RT f σ H Q
inductive RA(f:M (List D))(σ:L2.St)(H:Hp)(Q:List V->Hp->Prop):Prop where
 |mk (Oo:ig->Prop) (c:Cf) (t:T) (fi:FInv K Oo c t σ H) (r:List D) (t':T) (e:f t=some (r,t')) (k:∀vs H' c',FInv K Oo c' t' σ H'->Stp Oo c H c' H'->Reps K c' H' vs r->Q vs H'):RA f σ H Q
inductive RF(f:M (List D))(σ:L2.St)(H:Hp)(Q:VK):Prop where
 |mk (Oo:ig->Prop) (c:Cf) (t:T) (fi:FInv K Oo c t σ H) (ds:List D) (t':T) (e:f t=some (ds,t')) (k:∀p vs H' c',FInv K Oo c' t' σ H'->Stp Oo c H c' H'->Reps K c' H' vs ds->H' p=none->Q (.ref p) (upd H' p (.lst vs))):RF f σ H Q
inductive RSg(μ:Cf->Hp->D->(V->Hp->Prop)->Prop)(f:M Out)(E:Ends)(σ:L2.St)(H:Hp):Prop where
 |mk (Oo:ig->Prop) (c:Cf) (t:T) (fi:FInv K Oo c t σ H) (o:Out) (t':T) (e:f t=some (o,t')) (k:∀σ' H' c',FInv K Oo c' t' σ' H'->Stp Oo c H c' H'->
 match (generalizing:=false) o with
 |.next=>E.nx σ' H'
 |.brk=>E.bk σ' H'
 |.cont=>E.ct σ' H'
 |.ret r=>μ c' H' r E.rt):RSg μ f E σ H
def μR:Cf->Hp->D->(V->Hp->Prop)->Prop:=λc H r rt=>∀v,Rep K c H v r->rt v H
def μF:Cf->Hp->D->(V->Hp->Prop)->Prop:=λc H r rt=>match r with
 |.lst ds=>∀p us,H p=none->Reps K c H us ds->rt (.ref p) (upd H p (.lst us))
 |_=>False
abbrev RS(f:M Out):TS:=RSg K (μR K) f
inductive RG(f:D->M Unit)(v:V)(σ:L2.St)(H:Hp)(Q:L2.St->Hp->Prop):Prop where
 |mk (Oo:ig->Prop) (c:Cf) (t:T) (d:D) (fi:FInv K Oo c t σ H) (r:Rep K c H v d) (t':T) (e:f d t=some ((),t')) (k:∀σ' H' c',FInv K Oo c' t' σ' H'->Stp Oo c H c' H'->Q σ' H'):RG f v σ H Q
structure ItOk(J:It)(c:Cf)(H:Hp)(ds:List D):Prop where
 go:∀c' H' (i:Nat),Ext c H c' H'->i<ds.length->J.go i H'
 yld:∀c' H' (i:Nat) x H'' d,Ext c H c' H'->ds[i]?=some d->J.yld i H' x H''->H''=H'/\Rep K c' H' x d
 stop:∀c' H',Ext c H c' H'->J.stop ds.length H'
inductive RI(f:M (List D))(σ:L2.St)(H:Hp)(R:It->Hp->Prop):Prop where
 |mk (Oo:ig->Prop) (c:Cf) (t:T) (fi:FInv K Oo c t σ H) (ds:List D) (t':T) (e:f t=some (ds,t')) (k:∀J H' c',FInv K Oo c' t' σ H'->Stp Oo c H c' H'->ItOk K J c' H' ds->R J H'):RI f σ H R
def Yr(R:V->Hp->VK->Prop)(h:D->M D):Prop:=∀{Oo:ig->Prop}{c:Cf}{t:T}{σ:L2.St}{H:Hp}{x:V}{dx r:D}{t':T}{Q:VK},FInv K Oo c t σ H->Rep K c H x dx->h dx t=some (r,t')->
 (∀v H' c',FInv K Oo c' t' σ H'->Stp Oo c H c' H'->Rep K c' H' v r->Q v H')->R x H Q
def BB(R:R2)(h:D->D->M D):Prop:=∀{Oo:ig->Prop}{c:Cf}{t:T}{σ:L2.St}{H:Hp}{x y:V}{dx dy r:D}{t':T}{Q:VK},FInv K Oo c t σ H->Rep K c H x dx->Rep K c H y dy->h dx dy t=some (r,t')->
 (∀v H' c',FInv K Oo c' t' σ H'->Stp Oo c H c' H'->Rep K c' H' v r->Q v H')->R x y H Q
def GN(R:List V->Hp->VK->Prop)(h:List D->M D):Prop:=∀{Oo:ig->Prop}{c:Cf}{t:T}{σ:L2.St}{H:Hp}{xs:List V}{ds:List D}{r:D}{t':T}{Q:VK},FInv K Oo c t σ H->Reps K c H xs ds->h ds t=some (r,t')->
 (∀v H' c',FInv K Oo c' t' σ H'->Stp Oo c H c' H'->Rep K c' H' v r->Q v H')->R xs H Q
def Py(R:R2)(h:D->D->M (List D)):Prop:=∀{Oo:ig->Prop}{c:Cf}{t:T}{σ:L2.St}{H:Hp}{x y:V}{dx dy:D}{r:List D}{t':T}{Q:VK},FInv K Oo c t σ H->Rep K c H x dx->Rep K c H y dy->h dx dy t=some (r,t')->
 (∀p vs H' c',FInv K Oo c' t' σ H'->Stp Oo c H c' H'->Reps K c' H' vs r->H' p=none->Q (.ref p) (upd H' p (.lst vs)))->R x y H Q
def MO(R:List V->Hp->VK->Prop)(h:List D->M (List D)):Prop:=∀{Oo:ig->Prop}{c:Cf}{t:T}{σ:L2.St}{H:Hp}{xs:List V}{ds r:List D}{t':T}{Q:VK},FInv K Oo c t σ H->Reps K c H xs ds->h ds t=some (r,t')->
 (∀p vs H' c',FInv K Oo c' t' σ H'->Stp Oo c H c' H'->Reps K c' H' vs r->H' p=none->Q (.ref p) (upd H' p (.lst vs)))->R xs H Q
end
variable{tg:Expr}{j:Nat}{f g:M D}{h:D->D->M D}{R:R2}{op:CmpOp}{σ:L2.St}
section
variable{X:Cx}{e a b:Expr}{pos:Pos}
theorem AH{t t':TE}(h:PE X e t)(i:∀σ H Q,t' σ H Q->t σ H Q):PE X e t':=λic s σ H Q I q=>h ic s σ H Q I (i σ H Q q)
theorem M3{t t':TT}(h:PT X e t)(i:∀σ H Q,t' σ H Q->t σ H Q):PT X e t':=λic s σ H Q I q=>h ic s σ H Q I (i σ H Q q)
theorem Q6{t t':TT}(h:PW X e t)(i:∀σ H Q,t' σ H Q->t σ H Q):PW X e t':=λw ic s σ H Q I q=>h w ic s σ H Q I (i σ H Q q)
theorem Q4{es:List Expr}{t t':TA}(h:PA X es t)(i:∀σ H Q,t' σ H Q->t σ H Q):PA X es t':=λpos ic s σ H Q I q=>h pos ic s σ H Q I (i σ H Q q)
theorem Br{st:Stmt}{t t':TS}(h:PS X st t)(i:∀E σ H,t' E σ H->t E σ H):PS X st t':=λic s σ H E I q=>h ic s σ H E I (i E σ H q)
theorem OB{st:List Stmt}{t t':TS}(h:PSs X st t)(i:∀E σ H,t' E σ H->t E σ H):PSs X st t':=λic s σ H E I q=>h ic s σ H E I (i E σ H q)
theorem Kf{t t':TG}(h:PG X e t)(i:∀v σ H Q,t' v σ H Q->t v σ H Q):PG X e t':=λic s σ H v u Q I r q=>h ic s σ H v u Q I r (i v σ H Q q)
theorem HY{t t':TI}(h:PI X tg e t)(i:∀σ H R,t' σ H R->t σ H R):PI X tg e t':=λic s σ H R I q=>h ic s σ H R I (i σ H R q)
def fC(d:D):M D:=ret d
theorem JO{v:V}{d:D}(h:PE X e (tC v))(r:∀c H,Rep X.K c H v d):PE X e (RE X.K (fC d)):=
 AH h λσ H Q z9=>by
  clear 5 z9 Oo c t f r' t' eq k
  cases eq
  exact k v H c f .refl (r c H)
theorem YO{i:Int}:PE X (.Constant (.int i) j pos) (RE X.K (fC (.int i))):=JO ZS λ_ _=>.int i
theorem bo{i:Bool}:PE X (.Constant (.bool i) j pos) (RE X.K (fC (.bl i))):=JO bL λ_ _=>.bl i
theorem YU{i:Str}:PE X (.Constant (.str i) j pos) (RE X.K (fC (.str i))):=JO Sx λ_ _=>.str i
theorem YQ:PE X (.Constant .none j pos) (RE X.K (fC .non)):=JO ZV λ_ _=>.non
theorem Lz{x:Str}{i:Int}{tk:Tok}(hg:Gl X x)(hm:X.mg x=some (.int i tk))(hd:(x==("__debug__":Str))=false:=by decide):PE X (.Name x pos) (RE X.K (fC (.int i))):=
 JO (LM hg hm (v:=.int i) ⟨tk,rfl⟩ hd) λ_ _=>.int i
theorem TX{x:Str}{y:Str}{tk:Tok}(hg:Gl X x)(hm:X.mg x=some (.str y tk))(hd:(x==("__debug__":Str))=false:=by decide):PE X (.Name x pos) (RE X.K (fC (.str y))):=
 JO (LM hg hm (v:=.str y) ⟨tk,rfl⟩ hd) λ_ _=>.str y
theorem KB{x:Str}{n:String}(hg:Gl X x)(hm:X.mg x=none)(hv:bootBuiltins x=some (.type n))(hn:x≠"__name__":=by decide)(hd:(x==("__debug__":Str))=false:=by decide):PE X (.Name x pos) (RE X.K (fC (.ty n))):=
 JO (W8 hg hm hv (v:=.ty n) rfl hn hd) λ_ _=>.ty n
noncomputable def Aa(i:Nat):M D:=λt=>match t.env[i]? with
 |some (some (.val d))=>some (d,t)
 |some (some (.own ds))=>some (.lst ds,{t with env:=t.env.set i (some (.val (.lst ds)))})
 |_=>none
theorem PR{i:Nat}{t':T}{r:D}(h:Aa i t=some (r,t')):(t.env[i]?=some (some (.val r))/\t'=t)\/∃ds,t.env[i]?=some (some (.own ds))/\r=.lst ds/\t' = {t with env:=t.env.set i (some (.val (.lst ds)))}:=by
 unfold Aa at h
 cases e:t.env[i]? with
 |none=>rw[e] at h;cases h
 |some o=>
   cases o with
   |none=>rw[e] at h;cases h
   |some sl=>
     cases sl with
     |val d=>rw[e] at h;cases h;exact .inl ⟨rfl,rfl⟩
     |own ds=>rw[e] at h;cases h;exact .inr ⟨ds,rfl,rfl,rfl⟩
theorem YV(i:Nat){x:Str}(hN:X.N[i]?=some x:=by rfl)(hv:Vis X.env.scope x:=by walk_at"h")(hd:(x==("__debug__":Str))=false:=by decide)
 (hcd:(x==("__classdict__":Str))=false:=by decide):PE X (.Name x pos) (RE X.K (Aa i)):=
 AH (Dc hN hv hd hcd) λσ H Q z9=>by
  clear 5 z9 Oo c t f r t' eq k;rcases PR eq with⟨q,rfl⟩|⟨ds,q,rfl,rfl⟩
  .clear 5(f.val i r q)v h1 h2;exact⟨v,h1,k v H c f .refl h2⟩
  .clear 5(f.frz q)c' v f' st h1 h2;exact⟨v,h1,k v H c' f' st h2⟩
def Ac(f g:M D)(h:D->D->M D):M D:=bnd f λx=>bnd g λy=>h x y
theorem RE.two(s:BB K R h){σ:L2.St}{H:Hp}{Q:VK}(q:RE K (Ac f g h) σ H Q):tOp R (RE K f) (RE K g) σ H Q:=by
 clear 5 q Oo c t fi r t' eq k;clear 5(Af eq)dx t1 e1 eq;clear 5(Af eq)dy t2 e2 eq;exact⟨Oo,c,t,fi,dx,t1,e1,λx H1 c1 f1 s1 rx=>⟨Oo,c1,t1,f1,dy,t2,e2,λy H2 c2 f2 s2 ry=>s f2 (rx.mono s2.ext) ry eq λv H' c' f' s' rv=>k v H' c' f' ((s1.trans s2).trans s') rv⟩⟩
theorem Ht{op:Operator}(ho:OpR X (binaryOp op) R)(s:BB X.K R h)(ha:PE X a (RE X.K f))(hb:PE X b (RE X.K g)):PE X (.BinOp a op b pos) (RE X.K (Ac f g h)):=
 AH (Qk ho ha hb) λ_ _ _ q=>RE.two s q
theorem KA(ho:OpR X (compareOp op) R)(s:BB X.K R h)(ha:PE X a (RE X.K f))(hb:PE X b (RE X.K g))(hm:behindInMarks op b=false):PE X (.Compare a [op] [b] pos) (RE X.K (Ac f g h)):=
 AH (W9 ho ha hb hm) λ_ _ _ q=>RE.two s q
theorem VB(hr:IxR X R)(s:BB X.K R h)(ha:PE X a (RE X.K f))(hb:PE X b (RE X.K g))(hs:OC b):PE X (.Subscript a b pos) (RE X.K (Ac f g h)):=
 AH (bM hr ha hb hs) λ_ _ _ q=>RE.two s q
def fUn(f:M D)(h:D->M D):M D:=bnd f h
theorem bp{op:UnaryOp}{R:V->Hp->VK->Prop}{h:D->M D}(ho:UnR X (unaryOp op) R)(s:Yr X.K R h)(ha:PE X a (RE X.K f)):PE X (.UnaryOp op a pos) (RE X.K (fUn f h)):=
 AH (bN ho ha) λσ H Q z9=>by
  clear 5 z9 Oo c t fi r t' eq k;clear 5(Af eq)dx t1 e1 eq;exact⟨Oo,c,t,fi,dx,t1,e1,λx H1 c1 f1 s1 rx=>s f1 rx eq λv H' c' f' s' rv=>k v H' c' f' (s1.trans s') rv⟩
def toB:D->M Bool
 |.bl b=>ret b
 |_=>fail
def Ai(f:M D):M Bool:=bnd f toB
theorem Kb{d:D}{z:Bool×T}(h:toB d t=some z):∃b,d=.bl b/\z=(b,t):=by
 cases d with
 |bl b=>cases h;exact⟨b,rfl,rfl⟩
 |_=>cases h
theorem RT.val{Q:Bool->Hp->Prop}(q:RT K (Ai f) σ H Q):RE K f σ H λx H1=>∃k,x=.bl k/\Q k H1:=by
 clear 5 q Oo c t fi r t' eq k;clear 5(Af eq)d t1 e1 eq;clear 5(Kb eq)b rfl z
 cases z
 refine⟨Oo,c,t,fi,_,t',e1,λv H1 c1 f1 s1 rv=>?_⟩
 cases rv
 exact⟨r,rfl,k H1 c1 f1 s1⟩
theorem RD(h:PE X e (RE X.K f))(he:∀whole,isTrue e X.env whole=(do let v <-whole;standAt e.pos;holding [v] (truthy v)):=by intro _;rfl):PT X e (RT X.K (Ai f)):=
 M3 (Z5 h he) λ_ _ _ q=>RT.val q
theorem Fc(ho:OpR X (compareOp op) R)(s:BB X.K R h)(ha:PE X a (RE X.K f))(hb:PE X b (RE X.K g))(hm:behindInMarks op b=false):PT X (.Compare a [op] [b] pos) (RT X.K (Ai (Ac f g h))):=
 M3 (Xq ho ha hb hm) λσ H Q q=>RE.two s (RT.val q)
def FE(f g w:M D)(h h':D->D->M D):M D:=bnd f λx=>bnd g λy=>bnd (Ai (h x y)) λk=>if k=true then bnd w λz=>h' y z else ret (.bl false)
theorem RE.chain{w:M D}{h':D->D->M D}{R':R2}(s:BB K R h)(s':BB K R' h'){σ:L2.St}{H:Hp}{Q:VK}(q:RE K (FE f g w h h') σ H Q):Tc R R' (RE K f) (RE K g) (RE K w) σ H Q:=by
 clear 5 q Oo c t fi r t' eq k;clear 5(Af eq)dx t1 e1 eq;clear 5(Af eq)dy t2 e2 eq;clear 5(Af eq)kb t3 e3 eq;clear 5(Af e3)d3 t3' e3' e3;clear 5(Kb e3)b3 rfl z
 cases z
 refine⟨Oo,c,t,fi,dx,t1,e1,λx H1 c1 f1 s1 rx=>⟨Oo,c1,t1,f1,dy,t2,e2,λy H2 c2 f2 s2 ry=>s f2 (rx.mono s2.ext) ry e3' λv H3 c3 f3 s3 rv=>?_⟩⟩
 cases rv
 refine⟨kb,rfl,?_⟩
 cases kb with
 |false=>
   rw[lK ue2] at eq⊢
   cases eq
   exact k _ H3 c3 f3 ((s1.trans s2).trans s3) (.bl false)
 |true=>
   rw[lJ rfl] at eq⊢;clear 5(Af eq)dz t4 e4 eq;exact⟨Oo,c3,t3,f3,dz,t4,e4,λw' H4 c4 f4 s4 rw'=>s' f4 (ry.mono (s3.trans s4).ext) rw' eq λv H' c' f' s' rv=>k v H' c' f' ((((s1.trans s2).trans s3).trans s4).trans s') rv⟩
theorem TV{d:Expr}{op':CmpOp}{R':R2}{w:M D}{h':D->D->M D}(ho:OpR X (compareOp op) R)(ho':OpR X (compareOp op') R')(s:BB X.K R h)(s':BB X.K R' h')(ha:PE X a (RE X.K f))(hb:PE X b (RE X.K g))(hd:PE X d (RE X.K w))
 (hm:lastMarks [op,op'] [b,d]=false:=by with_unfolding_all rfl):PE X (.Compare a [op,op'] [b,d] pos) (RE X.K (FE f g w h h')):=
 AH (UI ho ho' ha hb hd hm) λ_ _ _ q=>RE.chain s s' q
def Hq(f g:M Bool):M Bool:=bnd f λk=>if k=true then g else ret false
def fOr(f g:M Bool):M Bool:=bnd f λk=>if k=true then ret true else g
def CK(f:M Bool):M Bool:=bnd f λk=>ret (!k)
def Fa(f g:M D):M D:=bnd (Ai f) λk=>if k=true then g else ret (.bl false)
def YK(f g:M D):M D:=bnd (Ai f) λk=>if k=true then ret (.bl true) else g
def Hr(f:M D):M D:=bnd (Ai f) λk=>ret (.bl (!k))
def fIf(f:M Bool)(g h:M D):M D:=bnd f λk=>if k=true then g else h
variable{f g:M Bool}{u v w:M D}{rest:List Expr}
theorem bA(h:PW X e (RT X.K f)):PT X e (RT X.K f):=h.pt
theorem Wz(ha:PT X a (RT X.K f)):PW X (.BoolOp .And [a] pos) (RT X.K f):=Xs ha
theorem Y7(ha:PT X a (RT X.K f)):PW X (.BoolOp .Or [a] pos) (RT X.K f):=Z7 ha
theorem Y6(ha:PT X a (RT X.K f))(hb:PW X (.BoolOp .And (b::rest) pos) (RT X.K g)):PW X (.BoolOp .And (a::b::rest) pos) (RT X.K (Hq f g)):=
 Q6 (Z6 ha hb) λσ H Q z9=>by
  clear 5 z9 Oo c t fi r t' eq k;clear 5(Af eq)kb t1 e1 eq;refine⟨Oo,c,t,fi,kb,t1,e1,λH1 c1 f1 s1=>?_⟩
  cases kb with
  |false=>rw[lK ue2] at eq⊢;cases eq;exact k H1 c1 f1 s1
  |true=>rw[lJ rfl] at eq⊢;exact⟨Oo,c1,t1,f1,r,t',eq,λH2 c2 f2 s2=>k H2 c2 f2 (s1.trans s2)⟩
theorem bB(ha:PT X a (RT X.K f))(hb:PW X (.BoolOp .Or (b::rest) pos) (RT X.K g)):PW X (.BoolOp .Or (a::b::rest) pos) (RT X.K (fOr f g)):=
 Q6 (bW ha hb) λσ H Q z9=>by
  clear 5 z9 Oo c t fi r t' eq k;clear 5(Af eq)kb t1 e1 eq;refine⟨Oo,c,t,fi,kb,t1,e1,λH1 c1 f1 s1=>?_⟩
  cases kb with
  |true=>rw[lJ rfl] at eq⊢;cases eq;exact k H1 c1 f1 s1
  |false=>rw[lK ue2] at eq⊢;exact⟨Oo,c1,t1,f1,r,t',eq,λH2 c2 f2 s2=>k H2 c2 f2 (s1.trans s2)⟩
theorem Y5(ha:PT X a (RT X.K f)):PT X (.UnaryOp .Not a pos) (RT X.K (CK f)):=
 M3 (Z4 ha) λσ H Q z9=>by
  clear 5 z9 Oo c t fi r t' eq k;clear 5(Af eq)kb t1 e1 eq
  cases eq
  exact⟨Oo,c,t,fi,kb,_,e1,λH1 c1 f1 s1=>k H1 c1 f1 s1⟩
theorem Oe{f:M D}{kb:Bool}{t1:T}(h:Ai f t=some (kb,t1)):f t=some (.bl kb,t1):=by
 clear 5(Af h)d t2 e1 e2;clear 5(Kb e2)b rfl z
 cases z
 exact e1
theorem YT{op:PySem.BoolOp}(h:PE X a (RE X.K u)):PE X (.BoolOp op [a] pos) (RE X.K u):=ZX h
theorem YM(ha:PE X a (RE X.K u))(hb:PE X (.BoolOp .And (b::rest) pos) (RE X.K v)):PE X (.BoolOp .And (a::b::rest) pos) (RE X.K (Fa u v)):=
 AH (ZP ha hb) λσ H Q z9=>by
  clear 5 z9 Oo c t fi r t' eq k;clear 5(Af eq)kb t1 e1 eq;refine⟨Oo,c,t,fi,_,t1,Oe e1,λx H1 c1 f1 s1 rx=>?_⟩
  cases rx
  refine⟨kb,rfl,?_⟩
  cases kb with
  |false=>rw[lK ue2] at eq⊢;cases eq;exact k _ H1 c1 f1 s1 (.bl false)
  |true=>rw[lJ rfl] at eq⊢;exact⟨Oo,c1,t1,f1,r,t',eq,λy H2 c2 f2 s2 ry=>k y H2 c2 f2 (s1.trans s2) ry⟩
theorem YR(ha:PE X a (RE X.K u)):PE X (.UnaryOp .Not a pos) (RE X.K (Hr u)):=
 AH (ZW ha) λσ H Q z9=>by
  clear 5 z9 Oo c t fi r t' eq k;clear 5(Af eq)kb t1 e1 eq
  cases eq
  refine⟨Oo,c,t,fi,_,_,Oe e1,λx H1 c1 f1 s1 rx=>?_⟩
  cases rx
  exact⟨kb,rfl,k _ H1 c1 f1 s1 (.bl (!kb))⟩
theorem TY{d:Expr}(hc:PT X d (RT X.K f))(ha:PE X a (RE X.K u))(hb:PE X b (RE X.K v)):PE X (.IfExp d a b pos) (RE X.K (fIf f u v)):=
 AH (UK hc ha hb) λσ H Q z9=>by
  clear 5 z9 Oo c t fi r t' eq k;clear 5(Af eq)kb t1 e1 eq;refine⟨Oo,c,t,fi,kb,t1,e1,λH1 c1 f1 s1=>?_⟩
  cases kb with
  |false=>rw[lK ue2] at eq⊢;exact⟨Oo,c1,t1,f1,r,t',eq,λy H2 c2 f2 s2 ry=>k y H2 c2 f2 (s1.trans s2) ry⟩
  |true=>rw[lJ rfl] at eq⊢;exact⟨Oo,c1,t1,f1,r,t',eq,λy H2 c2 f2 s2 ry=>k y H2 c2 f2 (s1.trans s2) ry⟩
end
variable{n:Nat}{p:Pos}
section
variable{X:Cx}{e a b:Expr}{es:List Expr}{pos:Pos}
def Ad:M (List D):=ret []
def Ab(f:M D)(g:M (List D)):M (List D):=bnd f λd=>bnd g λds=>ret (d::ds)
theorem YL:PA X [] (RA X.K Ad):=Q4 Sw λσ H Q z9=>by
 clear 5 z9 Oo c t fi r t' eq k
 cases eq
 exact k [] H c fi .refl .nil
theorem Wc{g:M (List D)}(ha:PE X e (RE X.K f))(hr:PA X es (RA X.K g))(hs:starEach (e::es) X.env=(false,eval e X.env)::starEach es X.env:=by rfl):PA X (e::es) (RA X.K (Ab f g)):=
 Q4 (LK ha hr hs) λσ H Q z9=>by
  clear 5 z9 Oo c t fi r t' eq k;clear 5(Af eq)d t1 e1 eq;clear 5(Af eq)ds t2 e2 eq
  cases eq
  exact⟨Oo,c,t,fi,d,t1,e1,λx H1 c1 f1 s1 rx=>⟨Oo,c1,t1,f1,ds,_,e2,λxs H2 c2 f2 s2 rxs=>k _ H2 c2 f2 (s1.trans s2) (.cons (rx.mono s2.ext) rxs)⟩⟩
def lim{α:Type}(n:Nat)(a:α):M α:=λt=>if n<=LIM then some (a,t) else none
set_option tactic.hygienic true in
theorem Ft{α:Type}{a:α}{z:α×T}(h:lim n a t=some z):n<=LIM/\z=(a,t):=by
 unfold lim at h
 split at h
 .next h1=>cases h;exact⟨h1,rfl⟩
 .cases h
def AE(f:M (List D)):M D:=bnd f λds=>lim ds.length (.tup ds)
theorem Rn{x1:Nat}{f:M (List D)}(h:PA X es (RA X.K f)):PE X (.Tuple es x1 pos) (RE X.K (AE f)):=
 AH (ZY h) λσ H Q z9=>by
  clear 5 z9 Oo c t fi r t' eq k;clear 5(Af eq)ds t1 e1 eq;clear 5(Ft eq)hl z
  cases z
  refine⟨Oo,c,t,fi,ds,_,e1,λxs H1 c1 f1 s1 rxs=>⟨by rw[rxs.length];exact uk9 hl Dm,λp hp=>?_⟩⟩;exact k _ _ c1 (f1.laid hp) (s1.trans (f1.stp_laid hp)) (.tup Ak (f1.s.free hp) (rxs.mono (Ext.laid f1.s hp)))
def Bc(f:M (List D)):M (List D):=bnd f λds=>lim ds.length ds
theorem YW{f:M (List D)}(h:PA X es (RA X.K f)):PE X (.List es pos) (RF X.K (Bc f)):=
 AH (ZU h) λσ H Q z9=>by
  clear 5 z9 Oo c t fi r t' eq k;clear 5(Af eq)ds t1 e1 eq;clear 5(Ft eq)hl z
  cases z
  exact⟨Oo,c,t,fi,_,_,e1,λxs H1 c1 f1 s1 rxs=>⟨by rw[rxs.length];exact uk9 hl Dm,λp hp=>k p xs H1 c1 f1 s1 rxs hp⟩⟩
def AL(f:M (List D)):M D:=bnd f λds=>ret (.lst ds)
theorem Wj{f:M (List D)}(h:PE X e (RF X.K f)):PE X e (RE X.K (AL f)):=
 AH h λσ H Q z9=>by
  clear 5 z9 Oo c t fi r t' eq k;clear 5(Af eq)ds t1 e1 eq
  cases eq
  exact⟨Oo,c,t,fi,ds,_,e1,λp xs H1 c1 f1 s1 rxs hp=>k _ _ c1 (f1.laid hp) (s1.trans (f1.stp_laid hp)) (.lst Ak (f1.s.free hp) (rxs.mono (Ext.laid f1.s hp)))⟩
noncomputable def Qh(o:Ob):M D:=λt=>some (.obj t.S.length,{t with S:=t.S++[o]})
def B5(f:M (List D)):M D:=bnd f λds=>Qh (.lst ds)
theorem YS{f:M (List D)}(h:PE X e (RF X.K f)):PE X e (RE X.K (B5 f)):=
 AH h λσ H Q z9=>by
  clear 5 z9 Oo c t fi r t' eq k;clear 5(Af eq)ds t1 e1 eq
  cases eq
  refine⟨Oo,c,t,fi,ds,_,e1,λp xs H1 c1 f1 s1 rxs hp=>?_⟩;obtain⟨c2,f2,s2,e2⟩:=f1.newObj (o:=.lst ds) (u:=.lst xs) hp λc' H' ex hu=>⟨xs,hu,rxs.mono ex⟩;exact k _ _ c2 f2 (s1.trans s2) (.obj e2)
abbrev Fn:=List D->List Ob->Option (D×List Ob)
inductive spF(K:ib)(f:Fn)(vs:List V)(H:Hp)(Q:VK)(E:XK):Prop where
 |mk (c:Cf) (ds:List D) (S:List Ob) (si:SInv K c S H) (rs:Reps K c H vs ds) (r:D) (S':List Ob) (e:f ds S=some (r,S')) (k:∀v H' c',SInv K c' S' H'->Stp c.O c H c' H'->(∀b,c'.O b↔c.O b)->Rep K c' H' v r->Q v H'):spF K f vs H Q E
def Aj(g:Fn)(f:M (List D)):M D:=bnd f λds t=>match g ds t.S with
 |some (r,S')=>some (r,{t with S:=S'})
 |none=>none
theorem GC{g:Fn}{ds:List D}{r:D}{t':T}(h:(match g ds t.S with|some (r,S')=>some (r,{t with S:=S'})|none=>none:Option (D×T))=some (r,t')):∃S',g ds t.S=some (r,S')/\t' = {t with S:=S'}:=by
 cases e:g ds t.S with
 |none=>rw[e] at h;cases h
 |some p=>clear 5 p r' S';rw[e] at h;cases h;exact⟨S',rfl,rfl⟩
theorem Wd{k:Nat}{fa:ig}{fd:iu}{ps:List Str}{g:Fn}{f:M (List D)}{x:Str}(F:FnOk X.prog X.w X.K X.mg X.base CX0 k fa fd ps (spF X.K g))(hr:Room k X.A)(hg:Gl X x)(hm:X.mg x=some (.ref fa))(hk:PySem.W.keepIn X.K (.ref fa)=true)(hb:Binds X.K fd ps [])
 (ha:PA X (e::es) (RA X.K f)) (hdb:(x==("__debug__":Str))=false:=by decide) (he:starEach (e::es) X.env=(false,eval e X.env)::starEach es X.env:=by rfl) (hpl:(backTo pos (starEach es X.env)).any (·.1)=false:=by rfl) :
 PE X (.Call (.Name x p) (e::es) [] pos) (RE X.K (Aj g f)):=
 AH (O7 F hr hg hm hk hb .nil Jl ha hdb he hpl) λσ H Q z9=>by
  clear 5 z9 Oo c t fi r t' eq kk;clear 5(Af eq)ds t1 e1 eq;clear 5(GC eq)S' e2 rfl;refine⟨Oo,c,t,fi,ds,t1,e1,λvs H1 c1 f1 s1 rvs=>?_⟩;show spF X.K g (vs++[]) H1 Q E0;rw[uh9];refine⟨c1,ds,t1.S,f1.s,rvs,r,S',e2,λv H' c' si st ho rv=>?_⟩;clear 5(f1.after si st ho)f2 s2;exact kk v H' c' f2 (s1.trans s2) rv
def fB(f:M (List D))(h:List D->M D):M D:=bnd f h
theorem RE.callB{f:M (List D)}{h:List D->M D}{R:List V->Hp->VK->Prop}(s:GN K R h){σ:L2.St}{H:Hp}{Q:VK}(q:RE K (fB f h) σ H Q):tCB R (RA K f) σ H Q:=by
 clear 5 q Oo c t fi r t' eq k;clear 5(Af eq)ds t1 e1 eq;exact⟨Oo,c,t,fi,ds,t1,e1,λxs H1 c1 f1 s1 rxs=>s f1 rxs eq λv H' c' f' s' rv=>k v H' c' f' (s1.trans s') rv⟩
def fBF(f:M (List D))(h:List D->M (List D)):M (List D):=bnd f h
theorem RF.callB{f:M (List D)}{h:List D->M (List D)}{R:List V->Hp->VK->Prop}(s:MO K R h){σ:L2.St}{H:Hp}{Q:VK}(q:RF K (fBF f h) σ H Q):tCB R (RA K f) σ H Q:=by
 clear 5 q Oo c t fi r t' eq k;clear 5(Af eq)ds t1 e1 eq;exact⟨Oo,c,t,fi,ds,t1,e1,λxs H1 c1 f1 s1 rxs=>s f1 rxs eq λp vs H' c' f' s' rv hp=>k p vs H' c' f' (s1.trans s') rv hp⟩
theorem RF.two{h:D->D->M (List D)}(s:Py K R h){σ:L2.St}{H:Hp}{Q:VK}(q:RF K (bnd f λx=>bnd g λy=>h x y) σ H Q):tOp R (RE K f) (RE K g) σ H Q:=by
 clear 5 q Oo c t fi r t' eq k;clear 5(Af eq)dx t1 e1 eq;clear 5(Af eq)dy t2 e2 eq;exact⟨Oo,c,t,fi,dx,t1,e1,λx H1 c1 f1 s1 rx=>⟨Oo,c1,t1,f1,dy,t2,e2,λy H2 c2 f2 s2 ry=>s f2 (rx.mono s2.ext) ry eq λp vs H' c' f' s' rv hp=>k p vs H' c' f' ((s1.trans s2).trans s') rv hp⟩⟩
end
variable{μ:Cf->Hp->D->(V->Hp->Prop)->Prop}
section
variable{X:Cx}{e a b:Expr}{pos:Pos}{st:Stmt}{sts:List Stmt}
noncomputable def Ag(f g:M Out):M Out:=λt=>match f t with
 |some (.next,t1)=>g t1
 |z=>z
def Aq:M Out:=ret .next
theorem Wy:PSs X [] (RSg X.K μ Aq):=OB Xp λE σ H z9=>by
 clear 5 z9 Oo c t fi o t' eq k
 cases eq
 exact k σ H c fi .refl
theorem Ua{μ:Cf->Hp->D->(V->Hp->Prop)->Prop}{f g:M Out}(h1:PS X st (RSg X.K μ f))(h2:PSs X sts (RSg X.K μ g)):PSs X (st::sts) (RSg X.K μ (Ag f g)):=
 OB (Ka h1 h2) λE σ H z9=>by
  clear 5 z9 Oo c t fi o t' eq k;unfold Ag at eq
  cases e1:f t with
  |none=>rw[e1] at eq;cases eq
  |some p=>
    clear 5 p o1 t1;rw[e1] at eq;refine⟨Oo,c,t,fi,o1,t1,e1,λσ1 H1 c1 f1 s1=>?_⟩
    cases o1 with
    |next=>exact⟨Oo,c1,t1,f1,o,t',eq,λσ2 H2 c2 f2 s2=>k σ2 H2 c2 f2 (s1.trans s2)⟩
    |brk=>cases eq;exact k σ1 H1 c1 f1 s1
    |cont=>cases eq;exact k σ1 H1 c1 f1 s1
    |ret d=>cases eq;exact k σ1 H1 c1 f1 s1
theorem OW{μ:Cf->Hp->D->(V->Hp->Prop)->Prop}{f:M Out}(h1:PS X st (RSg X.K μ f)):PSs X [st] (RSg X.K μ f):=Hc h1
def Al(f:M D):M Out:=bnd f λd=>ret (.ret d)
theorem Rz(h:PE X e (RE X.K f)):PS X (.Return (some e) pos) (RS X.K (Al f)):=
 Br (IR h) λE σ H z9=>by
  clear 5 z9 Oo c t fi o t' eq k;clear 5(Af eq)d t1 e1 eq
  cases eq
  exact⟨Oo,c,t,fi,d,_,e1,λv H1 c1 f1 s1 rv=>k σ H1 c1 f1 s1 v rv⟩
theorem OR:PS X (.Pass pos) (RSg X.K μ Aq):=Br Xn λE σ H z9=>by
 clear 5 z9 Oo c t fi o t' eq k
 cases eq
 exact k σ H c fi .refl
theorem T8:PS X (.Break pos) (RSg X.K μ (ret .brk)):=Br UP λE σ H z9=>by
 clear 5 z9 Oo c t fi o t' eq k
 cases eq
 exact k σ H c fi .refl
def B9(f:M D):M Out:=bnd f λ_=>ret .next
theorem OQ(h:PE X e (RE X.K f))(hs:swapsWith e none pos.line X.env=pure false:=by rfl):PS X (.Expr e pos) (RSg X.K μ (B9 f)):=
 Br (LO h hs) λE σ H z9=>by
  clear 5 z9 Oo c t fi o t' eq k;clear 5(Af eq)d t1 e1 eq
  cases eq
  exact⟨Oo,c,t,fi,d,_,e1,λv H1 c1 f1 s1 rv=>k σ H1 c1 f1 s1⟩
def ifS(f:M Bool)(g h:M Out):M Out:=bnd f λk=>if k=true then g else h
theorem bz{f:M Bool}{g h:M Out}{sa sb:List Stmt}(hc:PT X e (RT X.K f))(ha:PSs X sa (RSg X.K μ g))(hb:PSs X sb (RSg X.K μ h)):PS X (.If e sa sb pos) (RSg X.K μ (ifS f g h)):=
 Br (bT hc ha hb) λE σ H z9=>by
  clear 5 z9 Oo c t fi o t' eq k;clear 5(Af eq)kb t1 e1 eq;refine⟨Oo,c,t,fi,kb,t1,e1,λH1 c1 f1 s1=>?_⟩
  cases kb with
  |true=>rw[lJ rfl] at eq⊢;exact⟨Oo,c1,t1,f1,o,t',eq,λσ2 H2 c2 f2 s2=>k σ2 H2 c2 f2 (s1.trans s2)⟩
  |false=>rw[lK ue2] at eq⊢;exact⟨Oo,c1,t1,f1,o,t',eq,λσ2 H2 c2 f2 s2=>k σ2 H2 c2 f2 (s1.trans s2)⟩
noncomputable def Au(i:Nat)(d:D):M Unit:=λt=>some ((),{t with env:=t.env.set i (some (.val d))})
def Ar(i:Nat)(f:M D):M Out:=bnd f λd=>bnd (Au i d) λ_=>ret .next
theorem RS.set{μ:Cf->Hp->D->(V->Hp->Prop)->Prop}{K:ib}{i:Nat}{f:M D}{E:Ends}{σ:L2.St}{H:Hp}(q:RSg K μ (Ar i f) E σ H):Od (RE K f) (KF i) E σ H:=by
 clear 5 q Oo c t fi o t' eq k;clear 5(Af eq)d t1 e1 eq
 cases eq
 exact⟨Oo,c,t,fi,d,t1,e1,λv H1 c1 f1 s1 rv=>k _ H1 c1 (f1.set rv) s1⟩
theorem RC{i:Nat}{x:Str}{pos':Pos}(hN:X.N.Nodup)(hi:X.N[i]?=some x)(hx:Loc X.env.scope x)(he:PE X e (RE X.K f))(hs:swapsWith e (some (.Name x pos')) pos.line X.env=pure false:=by rfl)(hf:X.fn x=true\/X.env.scope.names.lookup x=some .local:=by walk_at"h") :
 PS X (.Assign [.Name x pos'] e pos) (RSg X.K μ (Ar i f)):=Br (NY hN hi hx he hs hf) λ_ _ _ q=>RS.set q
def Gp(i:Nat)(f:M (List D)):M Out:=bnd f λds t=>some (.next,{t with env:=t.env.set i (some (.own ds))})
theorem RS.own{i:Nat}{f:M (List D)}{E:Ends}(q:RSg K μ (Gp i f) E σ H):Od (RF K f) (KF i) E σ H:=by
 clear 5 q Oo c t fi o t' eq k;clear 5(Af eq)ds t1 e1 eq
 cases eq
 refine⟨Oo,c,t,fi,ds,t1,e1,λp vs H1 c1 f1 s1 rv hp=>?_⟩;clear 5(f1.setOwn (i:=i) hp rv)c2 f2 s2;exact k _ _ c2 f2 (s1.trans s2)
theorem Y4{i:Nat}{x:Str}{f:M (List D)}{pos':Pos}(hN:X.N.Nodup)(hi:X.N[i]?=some x)(hx:Loc X.env.scope x)(he:PE X e (RF X.K f))(hs:swapsWith e (some (.Name x pos')) pos.line X.env=pure false:=by rfl)(hf:X.fn x=true\/X.env.scope.names.lookup x=some .local:=by walk_at"h") :
 PS X (.Assign [.Name x pos'] e pos) (RSg X.K μ (Gp i f)):=Br (NY hN hi hx he hs hf) λ_ _ _ q=>RS.own q
theorem DS{i:Nat}{x:Str}(hN:X.N.Nodup)(hi:X.N[i]?=some x)(hx:Loc X.env.scope x)(hf:X.fn x=true\/X.env.scope.names.lookup x=some .local:=by walk_at"h"):PG X (.Name x pos) (RG X.K (Au i)):=
 Kf (Xd hN hi hx hf) λv σ H Q z9=>by
  clear 5 z9 Oo c t d fi rv t' eq k
  cases eq
  exact k _ H c (fi.set rv) .refl
def Bw(f:M D)(g:D->M Unit):M Out:=bnd f λd=>bnd (g d) λ_=>ret .next
theorem Y2{g:D->M Unit}(he:PE X e (RE X.K f))(hg:PG X tg (RG X.K g))(hs:swapsWithSole [tg] e pos.line X.env=pure false:=by rfl)(hw:swappedStores [tg] e X.env=pure none:=by rfl)(hp:(assignEach [tg] X.env).map (·.2)=[assign tg X.env]:=by rfl) :
 PS X (.Assign [tg] e pos) (RSg X.K μ (Bw f g)):=
 Br (by first|exact SH he hg hs hw|exact SH he hg hs hw hp) λE σ H z9=>by
  clear 5 z9 Oo c t fi o t' eq k;clear 5(Af eq)d t1 e1 eq;clear 5(Af eq)u t2 e2 eq
  cases eq
  exact⟨Oo,c,t,fi,d,t1,e1,λv H1 c1 f1 s1 rv=>⟨Oo,c1,t1,d,f1,rv,_,e2,λσ2 H2 c2 f2 s2=>k σ2 H2 c2 f2 (s1.trans s2)⟩⟩
inductive RGs(K:ib)(f:List D->M Unit)(vs:List V)(σ:L2.St)(H:Hp)(Q:L2.St->Hp->Prop):Prop where
 |mk (Oo:ig->Prop) (c:Cf) (t:T) (ds:List D) (fi:FInv K Oo c t σ H) (r:Reps K c H vs ds) (t':T) (e:f ds t=some ((),t')) (k:∀σ' H' c',FInv K Oo c' t' σ' H'->Stp Oo c H c' H'->Q σ' H'):RGs K f vs σ H Q
theorem OA{ts:List Expr}{t t':TGs}(h:PGs X ts t)(i:∀v σ H Q,t' v σ H Q->t v σ H Q):PGs X ts t':=λic s σ H vs us Q I r q=>h ic s σ H vs us Q I r (i vs σ H Q q)
def BL:List D->M Unit
 |[]=>ret ()
 |_=>fail
def AA(f:D->M Unit)(g:List D->M Unit):List D->M Unit
 |d::ds=>bnd (f d) λ_=>g ds
 |[]=>fail
theorem Wk:PGs X [] (RGs X.K BL):=OA Xe λvs σ H Q z9=>by
 clear 5 z9 Oo c t ds fi rv t' eq k
 cases rv with
 |nil=>cases eq;exact⟨rfl,k σ H c fi .refl⟩
 |cons _ _=>cases eq
theorem RGs.cons{K:ib}{f:D->M Unit}{g:List D->M Unit}{vs:List V}{σ:L2.St}{H:Hp}{Q:L2.St->Hp->Prop}(q:RGs K (AA f g) vs σ H Q):VG (RG K f) (RGs K g) vs σ H Q:=by
 clear 5 q Oo c t ds fi rv t' eq k
 cases rv with
 |nil=>cases eq
 |cons r rs=>
   clear 5(Af eq)u t1 e1 eq;exact⟨_,_,rfl,Oo,c,t,_,fi,r,t1,e1,λσ1 H1 c1 f1 s1=>⟨Oo,c1,t1,_,f1,rs.mono s1.ext,t',eq,λσ2 H2 c2 f2 s2=>k σ2 H2 c2 f2 (s1.trans s2)⟩⟩
set_option tactic.hygienic true in
def Dp(st:D->M Unit)(b:M Out):List D->M Out
 |[]=>ret .next
 |d::r=>λt=>match st d t with
   |none=>none
   |some (_,t1)=>match b t1 with
     |some (.next,t2)=>Dp st b r t2
     |some (.cont,t2)=>Dp st b r t2
     |some (.brk,t2)=>some (.next,t2)
     |some (.ret x,t2)=>some (.ret x,t2)
     |none=>none
def Dh(f:M (List D))(st:D->M Unit)(b:M Out):M Out:=bnd f λds=>Dp st b ds
theorem RS.for{f:M (List D)}{g:D->M Unit}{b:M Out}{E:Ends}(q:RSg K μ (Dh f g b) E σ H):Vh (RI K f) (RG K g) (RSg K μ b) E σ H:=by
 clear 5 q Oo c t fi o t' eq k;clear 5(Af eq)ds t1 e1 eq;refine⟨Oo,c,t,fi,ds,t1,e1,λJ H1 c1 f1 s1 it=>?_⟩;refine⟨λi m σ' H'=>m=ds.length-i/\i<=ds.length/\∃c' t2,FInv K Oo c' t2 σ' H'/\Stp Oo c1 H1 c' H'/\Dp g b (ds.drop i) t2=some (o,t'),⟨_,rfl,ul5 _,c1,t1,f1,.refl,by rw[uj3];exact eq⟩,?_⟩;rintro i m σ' H' ⟨rfl,hi,c',t2,f2,s2,e2⟩
 by_cases hlt:i<ds.length
 .refine .inr ⟨it.go c' H' i s2.ext hlt,λσ3 H3=>∃c3 t3,FInv K Oo c3 t3 σ3 H3/\Stp Oo c1 H1 c3 H3/\Dp g b (ds.drop (i+1)) t3=some (o,t'),λσ3 H3 h=>⟨ds.length-(i+1),by lia,rfl,hlt,h⟩,λx H'' hy=>?_⟩;clear 5(it.yld c' H' i x H'' _ s2.ext (ub3 hlt) hy)rfl rx;rw[ub1 hlt] at e2;unfold Dp at e2
  cases e3:g ds[i] t2 with
  |none=>rw[e3] at e2;cases e2
  |some p=>
    clear 5 p u t3;rw[e3] at e2
    try dsimp only at e2
    refine⟨Oo,c',t2,_,f2,rx,t3,e3,λσ3 H3 c3 f3 s3=>?_⟩
    cases e4:b t3 with
    |none=>rw[e4] at e2;cases e2
    |some p=>
      clear 5 p o4 t4;rw[e4] at e2
      try dsimp only at e2
      refine⟨Oo,c3,t3,f3,o4,t4,e4,λσ5 H5 c5 f5 s5=>?_⟩;have s':=(s2.trans s3).trans s5
      cases o4 with
      |next=>exact⟨c5,t4,f5,s',e2⟩
      |cont=>exact⟨c5,t4,f5,s',e2⟩
      |brk=>cases e2;exact k σ5 H5 c5 f5 (s1.trans s')
      |ret r=>cases e2;exact k σ5 H5 c5 f5 (s1.trans s')
 .have hi':i=ds.length:=by lia
  subst hi';rw[ug7] at e2
  cases e2
  exact .inl ⟨it.stop c' H' s2.ext,k σ' H' c' f2 (s1.trans s2)⟩
theorem Rw{iter:Expr}{body:List Stmt}{f:M (List D)}{g:D->M Unit}{b:M Out}(hp:PassesOwn (model X.prog X.w) X.A X.env X.xe)(hc:X.calm=true)(hi:PI X tg iter (RI X.K f))(hg:PG X tg (RG X.K g))(hb:PSs X body (RSg X.K μ b))
 (hs:∀x,foldedSetIterable iter X.env x=pure x:=by intro _;rfl):PS X (.For tg iter body [] pos) (RSg X.K μ (Dh f g b)):=
 Br (SI hp hc hi hg hb hs) λ_ _ _ q=>RS.for q
theorem ItOk.lst{K:ib}{c:Cf}{H:Hp}{p:ig}{ds:List D}(r:∀c' H',Ext c H c' H'->∃vs,SqL K H' p vs/\Reps K c' H' vs ds):ItOk K (Itl K p) c H ds:=by
 refine⟨λc' H' i ex hi=>?_,λc' H' i x H'' d ex hd hy=>?_,λc' H' ex=>?_⟩
 .clear 5(r c' H' ex)vs h1 h2;obtain⟨v,e,_⟩:=h2.at (ub3 hi);exact⟨vs,v,h1,e⟩
 .clear 5(r c' H' ex)vs h1 h2;clear 5 hy rfl h;exact⟨rfl,h2.get (h vs h1) hd⟩
 .clear 5(r c' H' ex)vs h1 h2;exact⟨vs,h1,by rw[h2.length];exact ul4 _⟩
theorem ItOk.tup{K:ib}{c:Cf}{H:Hp}{p:ig}{ds:List D}(r:∀c' H',Ext c H c' H'->∃vs,SqT K H' p vs/\Reps K c' H' vs ds):ItOk K (Itt K p) c H ds:=by
 refine⟨λc' H' i ex hi=>?_,λc' H' i x H'' d ex hd hy=>?_,λc' H' ex=>?_⟩
 .clear 5(r c' H' ex)vs h1 h2;obtain⟨v,e,_⟩:=h2.at (ub3 hi);exact⟨vs,v,h1,e⟩
 .clear 5(r c' H' ex)vs h1 h2;clear 5 hy rfl h;exact⟨rfl,h2.get (h vs h1) hd⟩
 .clear 5(r c' H' ex)vs h1 h2;exact⟨vs,h1,by rw[h2.length];exact ul4 _⟩
end
theorem FInv.leave{Oo:ig->Prop}(f:FInv K Oo c t σ H):SInv K ⟨c.ι,Oo⟩ t.S H/\Ext c H ⟨c.ι,Oo⟩ H:=by
 have ext:Ext c H ⟨c.ι,Oo⟩ H:=⟨λ_ _ e _=>e,λb o _ z=>z.elim .inl λw=>.inr (f.sub b w),λ_ _ e=>e⟩;exact⟨⟨f.s.len,f.s.nd,λk a o e1 e2=>(f.s.obs k a o e1 e2).mono ext rfl,λb z=>f.s.trk b (f.sub b z),λb z=>f.s.dis b (f.sub b z)⟩,ext⟩
noncomputable def env0(m:Nat)(ds:List D):List (Option Sl):=ds.map (λd=>some (.val d))++List.replicate (m-ds.length) none
def fnOf(n m:Nat)(g:M Out):Fn:=λds S=>if ds.length=n then(match g ⟨env0 m ds,S⟩ with
 |some (.ret r,t)=>some (r,t.S)
 |some (.next,t)=>some (.non,t.S)
 |_=>none) else none
theorem Hv{ds:List D}{N:List Str}(s:SInv K c S H)(r:Reps K c H vs ds):FInv K c.O c ⟨env0 N.length ds,S⟩ (L2.Dl N vs) H:=by
 have hlen:vs.length=ds.length:=r.length;have none_:∀{i:Nat}{x:Sl},(env0 N.length ds)[i]?=some (some x)->∃d,ds[i]?=some d/\x=.val d:=λ{i x} q=>by
  unfold env0 at q
  by_cases hi:i<ds.length
  .rw[ub0 (by simpa using hi),uf2,ub3 hi] at q;simp at q;exact⟨ds[i],ub3 hi,q.symm⟩
  .rw[ua5 (by simpa using hi),ub5] at q
   split at q<;>simp at q
 refine⟨s,by simp[env0,L2.Dl,hlen],λ_ z=>z,λi d q=>?_,λi es q=>?_,λi j es _ a q _ _ _=>?_⟩
 .obtain⟨d',h1,h2⟩:=none_ q
  cases h2
  clear 5(r.at h1)v h3 h4;refine⟨v,?_,h4⟩;unfold L2.Dl;have hi:=(ua9.mp h3).1;rw[ub0 (by simpa using hi),uf2,h3];rfl
 .obtain⟨_,_,h2⟩:=none_ q;cases h2
 .obtain⟨_,_,h2⟩:=none_ q;cases h2
set_option tactic.hygienic true in
theorem bx{P:im}{w:ir}{mg:Str->Option ie}{base:Heap}{x qual:Str}{st:Stmt}{fa:ig}{fd:iu}{N ps:List Str}{k:Nat}{g:M Out}(F:Fun K x qual st fa fd)(S:FnScope N ps (An st))
 (hb:∀(cdv:ie) (A:Around) (outer:List Env) (s:ij) (H:Hp) (E:XK),Room k (A.deeper (PyProof.Rows.envOfC qual (An st) s.heap.objs.size fa cdv))->
   PSs (D5 CX0 P w K mg base N qual (An st) fa cdv A outer s H E).nox (Bq st) (RS K g)):FnOk P w K mg base CX0 (k+1) fa fd ps (spF K (fnOf ps.length N.length g)):=by
 have hlen:∀{ds:List D}{S:List Ob}{z:D×List Ob},fnOf ps.length N.length g ds S=some z->ds.length=ps.length:=λ{ds S z} h=>by
  unfold fnOf at h
  split at h
  .next h1=>exact h1
  .cases h
 refine F.ok S (λvs H Q E h=>?_) (λcdv A outer s H vs Q E hr h=>?_)
 .obtain⟨c,ds,S,si,rs,r,S',e,_⟩:=h;rw[rs.length];exact hlen e
 clear 5 h c ds S0 si rs r S' e kk;refine⟨RS K g,hb cdv A outer s H E hr,?_⟩;have hl:=hlen e;unfold fnOf at e;rw[lJ hl] at e
 cases eg:g ⟨env0 N.length ds,S0⟩ with
 |none=>rw[eg] at e;cases e
 |some p=>
   clear 5 p o t;rw[eg] at e;refine⟨c.O,c,_,Hv si rs,o,t,eg,λσ' H' c' f' s'=>?_⟩;clear 5 f'.leave si' ext';have st':Stp c.O c H ⟨c'.ι,c.O⟩ H':=⟨s'.ext.trans ext',s'.oo⟩
   cases o with
   |next=>cases e;exact kk .non H' _ si' st' (λ_=>lI) .non
   |ret d=>cases e;exact λv rv=>kk v H' _ si' st' (λ_=>lI) (rv.mono ext')
   |brk=>cases e
   |cont=>cases e
variable{fr:List Nat}
section
variable{X:Cx}{e a b:Expr}{pos:Pos}
def items:D->M (List D)
 |.lst ds=>ret ds
 |.tup ds=>ret ds
 |.scr ns=>ret (ns.map .int)
 |_=>fail
noncomputable def Bx(lo:Int)(n:Nat):List D:=(List.range n).map λi=>.int (lo+(i:Nat))
theorem ItOk.rng{lo:Int}:ItOk K (Itr lo n) c H (Bx lo n):=by
 refine⟨λc' H' i ex hi=>?_,λc' H' i x H'' d ex hd hy=>?_,λc' H' ex=>?_⟩
 .have:i<n:=by simpa[Bx] using hi
  exact this
 .clear 5 hy rfl rfl;refine⟨rfl,?_⟩;have hi:i<n:=by
   have:=(ua9.mp hd).1;simpa[Bx] using this
  have:d=.int (lo+(i:Nat)):=by
   rw[Bx,uf2,List.getElem?_range hi] at hd;simpa using hd.symm
  rw[this];exact .int _
 .show n<=(Bx lo n).length;simp[Bx]
noncomputable def DN(i:Int):Bool:=decide (-(2 ^ 62)<=i)&&decide (i<2 ^ 62)
def LQ:List D->M (List D)
 |[.int j]=>λt=>if DN j=true then some (Bx 0 j.toNat,t) else none
 |_=>fail
def LR:List D->M (List D)
 |[.int i,.int j]=>λt=>if (DN i&&DN j)=true then some (Bx i (j-i).toNat,t) else none
 |_=>fail
def DY(f:M (List D)):M (List D):=bnd f LQ
def Hs(f:M (List D)):M (List D):=bnd f LR
theorem GJ{i:Int}(h:DN i=true) : -(2 ^ 62)<=i/\i<2 ^ 62:=by
 unfold DN at h;rw[ug8] at h;exact⟨ug0 h.1,ug0 h.2⟩
set_option tactic.hygienic true
theorem Rr{f:M (List D)}(hg:Gl X "range")(hm:X.mg "range" = none)(ha:PA X [a] (RA X.K f))(hs:starEach [a] X.env=[(false,eval a X.env)]:=by rfl):PI X tg (.Call (.Name "range" p) [a] [] pos) (RI X.K (DY f)):=
 HY (SA hg hm ha hs) λσ H R z9=>by
  clear 5 z9 Oo c t fi ds t' eq k;clear 5(Af eq)xs t1 e1 eq;refine⟨Oo,c,t,fi,xs,t1,e1,λvs H1 c1 f1 s1 rv=>?_⟩;unfold LQ at eq
  split at eq
  .next j=>
   split at eq
   .next hs=>
    cases eq
    cases rv with
    |cons r rs=>
      cases rs
      cases r
      clear 5(GJ hs)h1 h2;exact⟨j,rfl,h1,h2,k _ H1 c1 f1 s1 ItOk.rng⟩
   .cases eq
  .cases eq
theorem Rt{f:M (List D)}(hg:Gl X "range")(hm:X.mg "range" = none)(ha:PA X [a,b] (RA X.K f))(hs:starEach [a,b] X.env=[(false,eval a X.env),(false,eval b X.env)]:=by rfl)(hs2:starEach [b] X.env=[(false,eval b X.env)]:=by rfl):PI X tg (.Call (.Name "range" p) [a,b] [] pos) (RI X.K (Hs f)):=
 HY (SC hg hm ha hs hs2) λσ H R z9=>by
  clear 5 z9 Oo c t fi ds t' eq k;clear 5(Af eq)xs t1 e1 eq;refine⟨Oo,c,t,fi,xs,t1,e1,λvs H1 c1 f1 s1 rv=>?_⟩;unfold LR at eq
  split at eq
  .next i j=>
   split at eq
   .next hs=>
    cases eq
    rw[ug8] at hs
    cases rv with
    |cons r rs=>
      cases r
      cases rs with
      |cons r rs=>
        cases rs
        cases r
        clear 5(GJ hs.1)h1 h2;clear 5(GJ hs.2)h3 h4;exact⟨i,j,rfl,⟨h1,h2,h3,h4⟩,k _ H1 c1 f1 s1 ItOk.rng⟩
   .cases eq
  .cases eq
def B8(st:D->M Unit)(tst:M Bool)(elt:M D):List D->M (List D)
 |[]=>ret []
 |d::r=>bnd (st d) λ_=>bnd tst λk=>if k=true then bnd elt λx=>bnd (B8 st tst elt r) λxs=>ret (x::xs) else B8 st tst elt r
noncomputable def cr:Option (Option Sl)->Option Sl
 |some (some (.val d))=>some (.val d)
 |_=>none
def cenv(n:Nat)(fr:List Nat)(env:List (Option Sl)):List (Option Sl):=List.replicate n none++fr.map λi=>cr env[i]?
noncomputable def Fq(n:Nat)(fr:List Nat)(σ:L2.St):L2.St:=List.replicate n none++fr.map λi=>(σ[i]?).join
def Ca(n:Nat)(fr:List Nat)(f:M (List D))(st:D->M Unit)(tst:M Bool)(elt:M D):M (List D):=bnd f λds t=>match B8 st tst elt ds ⟨cenv n fr t.env,t.S⟩ with
 |some (xs,t')=>if xs.length<=LIM then some (xs,{t with S:=t'.S}) else none
 |none=>none
set_option tactic.hygienic false
theorem JM{env:List (Option Sl)}{x:Sl}(h:(cenv n fr env)[j]?=some (some x)):∃i d,n<=j/\fr[j-n]?=some i/\env[i]?=some (some (.val d))/\x=.val d:=by
 unfold cenv at h
 by_cases hj:j<n
 .rw[ub0 (by simpa using hj),ub5] at h
  split at h<;>simp at h
 .rw[ua5 (by simpa using hj),uc7,uf2] at h
  cases e:fr[j-n]? with
  |none=>rw[e] at h;simp at h
  |some i=>
    rw[e] at h;simp only[ui6,uf8] at h
    cases e2:env[i]? with
    |none=>rw[e2] at h;cases h
    |some o=>
      cases o with
      |none=>rw[e2] at h;cases h
      |some sl=>
        cases sl with
        |own _=>rw[e2] at h;cases h
        |val d=>rw[e2] at h;cases h;exact⟨i,d,by lia,rfl,e2,rfl⟩
theorem Hu{Oo:ig->Prop}(f:FInv K Oo c t σ H):FInv K c.O c ⟨cenv n fr t.env,t.S⟩ (Fq n fr σ) H:=by
 refine⟨f.s,by simp[cenv,Fq],λ_ z=>z,λj d q=>?_,λj es q=>?_,λj _ es _ _ q _ _ _=>?_⟩
 .obtain⟨i,d',h0,h1,h2,h3⟩:=JM q
  cases h3
  clear 5(f.val i d h2)v h4 h5;refine⟨v,?_,h5⟩;unfold Fq;rw[ua5 (by simpa using h0),uc7,uf2,h1];simp[h4]
 .obtain⟨_,_,_,_,_,h⟩:=JM q;cases h
 .obtain⟨_,_,_,_,_,h⟩:=JM q;cases h
set_option tactic.hygienic true in
theorem RF.comp{f:M (List D)}{st:D->M Unit}{tst:M Bool}{elt:M D}{Q:VK}(q:RF K (Ca n fr f st tst elt) σ H Q):K0 (RI K f) (RG K st) (RT K tst) (RE K elt) (Fq n fr) σ H Q:=by
 clear 5 q Oo c t fi xs t' eq k;clear 5(Af eq)ds t1 e1 eq;refine⟨Oo,c,t,fi,ds,t1,e1,λJ H1 c1 f1 s1 it=>?_⟩
 cases e3:B8 st tst elt ds ⟨cenv n fr t1.env,t1.S⟩ with
 |none=>rw[e3] at eq;cases eq
 |some p=>
   clear 5 p ys t3;rw[e3] at eq;dsimp only at eq
   split at eq
   case isFalse=>cases eq
   next hl=>
   cases eq
   refine⟨λi m acc σ' H'=>m=ds.length-i/\i<=ds.length/\∃c' t2 zs rest,FInv K c1.O c' t2 σ' H'/\Stp c1.O c1 H1 c' H'/\Reps K c' H' acc zs/\B8 st tst elt (ds.drop i) t2=some (rest,t3)/\xs=zs++rest,
    ⟨_,rfl,ul5 _,c1,_,[],xs,Hu f1,.refl,.nil,by rw[uj3];exact e3,rfl⟩,?_⟩
   rintro i m acc σ' H' ⟨rfl,hi,c',t2,zs,rest,f2,s2,ra,e2,ez⟩;have hacc:acc.length<=sizeLine:=by
    have:zs.length<=xs.length:=by rw[ez,ue5];exact ug9 _ _
    rw[ra.length];exact uk9 this (uk9 hl Dm)
   refine⟨hacc,?_⟩
   by_cases hlt:i<ds.length
   .refine .inr ⟨it.go c' H' i s2.ext hlt,λx H'' hy=>?_⟩;clear 5(it.yld c' H' i x H'' _ s2.ext (ub3 hlt) hy)rfl rx;rw[ub1 hlt] at e2;unfold B8 at e2;clear 5(Af e2)u t4 e4 e2;clear 5(Af e2)kb t5 e5 e2;refine⟨c1.O,c',t2,_,f2,rx,t4,e4,λσ3 H3 c3 f3 s3=>⟨c1.O,c3,t4,f3,kb,t5,e5,λH4 c4 f4 s4=>?_⟩⟩
    cases kb with
    |false=>
      rw[lK ue2] at e2⊢;exact⟨ds.length-(i+1),by lia,rfl,hlt,c4,t5,zs,rest,f4,(s2.trans s3).trans s4,ra.mono (s3.trans s4).ext,e2,ez⟩
    |true=>
      rw[lJ rfl] at e2⊢;clear 5(Af e2)x6 t6 e6 e2;clear 5(Af e2)r7 t7 e7 e2
      cases e2
      refine⟨c1.O,c4,t5,f4,x6,t6,e6,λv H5 c5 f5 s5 rv=>?_⟩;exact⟨ds.length-(i+1),by lia,rfl,hlt,c5,t6,zs++[x6],r7,f5,((s2.trans s3).trans s4).trans s5,(ra.mono ((s3.trans s4).trans s5).ext).append (.cons rv .nil),e7,by rw[ez,uf5];rfl⟩
   .have hi':i=ds.length:=by lia
    subst hi';rw[ug7] at e2
    cases e2
    refine .inl ⟨it.stop c' H' s2.ext,λp hp _=>?_⟩;clear 5 f2.leave si ext;clear 5(f1.after si ⟨s2.ext.trans ext,s2.oo⟩ (λ_=>lI))f6 s6;rw[uh9] at ez;subst ez;exact k p acc H' _ f6 (s1.trans s6) (ra.mono ext) hp
end
end
open PySem.SeqAt
noncomputable def eq0:D->D->Option Bool
 |.int a,.int b=>some (a==b)
 |.str a,.str b=>some (a==b)
 |.bl a,.bl b=>some (a==b)
 |.non,.non=>some true
 |.non,.lst _=>some false
 |_,_=>none
noncomputable def D6(f:D->D->Option Bool):List D->List D->Option Bool
 |x::xs,y::ys=>match f x y,D6 f xs ys with
   |some a,some b=>some (a&&b)
   |_,_=>none
 |_,_=>some true
def eqN:Nat->D->D->Option Bool
 |0,x,y=>eq0 x y
 |n+1,.tup xs,.tup ys=>(D6 (eqN n) xs ys).map λb=>b&&xs.length==ys.length
 |n+1,.lst xs,.lst ys=>if xs.length=ys.length then D6 (eqN n) xs ys else some false
 |_+1,x,y=>eq0 x y
noncomputable def ej(f:D->D->Option Bool)(xs ys:List D)(j:Nat):Bool:=match xs[j]?,ys[j]? with
 |some d,some e=>(f d e).getD true
 |_,_=>true
theorem D7{f:D->D->Option Bool}:∀{xs ys:List D}{b:Bool},D6 f xs ys=some b->b=(List.range (min xs.length ys.length)).all (ej f xs ys)/\∀(j:Nat) d e,xs[j]?=some d->ys[j]?=some e->∃k,f d e=some k
 |[],ys,b,h=>by
   have h:some true=some b:=by simpa[D6] using h
   cases h
   refine⟨by simp,λj d e q _=>by simp at q⟩
 |x::xs,[],b,h=>by
   have h:some true=some b:=by simpa[D6] using h
   cases h
   refine⟨by simp,λj d e _ q=>by simp at q⟩
 |x::xs,y::ys,b,h=>by
   unfold D6 at h
   cases e1:f x y with
   |none=>rw[e1] at h;cases h
   |some a=>
     cases e2:D6 f xs ys with
     |none=>rw[e1,e2] at h;cases h
     |some c=>
       rw[e1,e2] at h
       cases h
       clear 5(D7 e2)h1 h2;refine⟨?_,λj d e q1 q2=>?_⟩
       .have hm:min (x::xs).length (y::ys).length=min xs.length ys.length+1:=by simp[Nat.succ_min_succ]
        rw[hm,List.range_succ_eq_map,uk1,List.all_map,h1];have:ej f (x::xs) (y::ys) 0=a:=by simp[ej,e1]
        rw[this];rfl
       .cases j with
        |zero=>simp at q1 q2;subst q1 q2;exact⟨a,e1⟩
        |succ j=>exact h2 j d e (by simpa using q1) (by simpa using q2)
section
variable{P:im}{w:ir}{H:Hp}{vs:List V}
theorem Fs{h:Heap}{a:ig}(o:HOk P w H h)(e:H a=some (.lst vs)):∃its:List ie,Vals vs its/\h.IsList a its.toArray:=by
 obtain⟨_,its,n,r,q⟩:=o a _ e;exact⟨its,r,_,q,rfl,n,rfl⟩
theorem Jg{h:Heap}{a:ig}(o:HOk P w H h)(e:H a=some (.tup vs)):∃its:List ie,Vals vs its/\h.IsTuple a its.toArray:=by
 obtain⟨_,its,r,q⟩:=o a _ e;exact⟨its,r,q⟩
theorem K9{its:List ie}{j:Nat}(r:Vals vs its)(h:j<its.toArray.size):∃v,vs[j]?=some v/\RelV v its.toArray[j]:=by
 have h':j<its.length:=by simpa using h
 have hl:j<vs.length:=by rw[r.length];exact h'
 clear 5(r.get (ub3 hl))u e1 e2;refine⟨vs[j],ub3 hl,?_⟩;rw[ub3 h'] at e1
 cases e1
 simpa using e2
variable{b:Bool}
theorem Rg{f:D->D->Option Bool}{xs ys:List D}(h:D6 f xs ys=some b)(ht:∀(j:Nat) d e k,xs[j]?=some d->ys[j]?=some e->f d e=some k->k=true):b=true:=by
 clear 5(D7 h)h1 h2;rw[h1,uh0];intro j hj;have hj':=uj0.mp hj;have l1:j<xs.length:=by lia
 have l2:j<ys.length:=by lia
 clear 5(h2 j _ _ (ub3 l1) (ub3 l2))k ek;have:=ht j _ _ k (ub3 l1) (ub3 l2) ek;unfold ej;rw[ub3 l1,ub3 l2];simp[ek,this]
theorem Ij{x y:D}(e:eq0 x y=some b):(∃i j,x=.int i/\y=.int j/\(i==j)=b)\/(∃i j,x=.str i/\y=.str j/\(i==j)=b)\/(∃i j,x=.bl i/\y=.bl j/\(i==j)=b)\/(x=.non/\y=.non/\true=b)\/(∃ys,x=.non/\y=.lst ys/\false=b):=by
 unfold eq0 at e
 split at e
 .cases e;exact .inl ⟨_,_,rfl,rfl,rfl⟩
 .cases e;exact .inr (.inl ⟨_,_,rfl,rfl,rfl⟩)
 .cases e;exact .inr (.inr (.inl ⟨_,_,rfl,rfl,rfl⟩))
 .cases e;exact .inr (.inr (.inr (.inl ⟨rfl,rfl,rfl⟩)))
 .cases e;exact .inr (.inr (.inr (.inr ⟨_,rfl,rfl,rfl⟩)))
 .cases e
theorem Ik{n:Nat}{x y:D}(e:eqN n x y=some b):eq0 x y=some b\/(∃m xs ys,n=m+1/\x=.lst xs/\y=.lst ys/\(if xs.length=ys.length then D6 (eqN m) xs ys else some false)=some b)\/∃m xs ys b',n=m+1/\x=.tup xs/\y=.tup ys/\D6 (eqN m) xs ys=some b'/\(b'&&xs.length==ys.length)=b:=by
 unfold eqN at e
 split at e
 .exact .inl e
 .clear 5(uc2.mp e)b' e1 e2;exact .inr (.inr ⟨_,_,_,b',rfl,rfl,rfl,e1,e2⟩)
 .exact .inr (.inl ⟨_,_,_,rfl,rfl,rfl,e⟩)
 .exact .inl e
variable{K:ib}{c:Cf}
theorem OM:∀(n:Nat){v:V}{d e:D}{b:Bool},Rep K c H v d->Rep K c H v e->eqN n d e=some b->b=true
 :=by
  intro n
  induction n using Nat.strongRecOn with
  |ind n ih=>
  intro v d e b rd re q;have items:∀{m:Nat}{vs:List V}{ds es:List D}{b':Bool},n=m+1->Reps K c H vs ds->Reps K c H vs es->D6 (eqN m) ds es=some b'->b'=true:=λ{m vs ds es b'} hm r1 r2 e'=>
   Rg e' λj d e k q1 q2 ek=>by
    clear 5(r1.at q1)v g1 g2;exact ih m ∅ g2 (r2.get g1 q2) ek
  rcases Ik q with q0|⟨m,ds,es,hm,rfl,rfl,q0⟩|⟨m,ds,es,b',hm,rfl,rfl,q1,q2⟩
  .rcases Ij q0 with⟨i,j,rfl,rfl,rfl⟩|⟨i,j,rfl,rfl,rfl⟩|⟨i,j,rfl,rfl,rfl⟩|⟨rfl,rfl,rfl⟩|⟨ys,rfl,rfl,rfl⟩
   .have h:=rd.rv.symm.trans re.rv;cases h;simp
   .have h:=rd.rv.symm.trans re.rv;cases h;simp
   .have h:=rd.rv.symm.trans re.rv;cases h;simp
   .rfl
   .obtain⟨a,vs,e,_⟩:=re.rv;cases (show V.non=_ from rd.rv.symm.trans e)
  .obtain⟨a,vs,rfl,h1,_,h3⟩:=rd.rv
   .obtain⟨_,ws,k,g1,_,g3⟩:=re.rv
    .  cases k
       rw[h1] at g1;cases g1
       rw[lJ (h3.length.symm.trans g3.length)] at q0;exact items hm h3 g3 q0
  .obtain⟨a,vs,rfl,h1,_,h3⟩:=rd.rv
   .obtain⟨_,ws,k,g1,_,g3⟩:=re.rv
    .  cases k
       rw[h1] at g1;cases g1
       rw[<-q2,items hm h3 g3 q1,h3.length.symm.trans g3.length];simp
theorem OJ{s:ij}(hok:HOk P w H s.heap):∀(n:Nat){A:Around}{x y:V}{u v:ie}{dx dy:D}{b:Bool},RelV x u->RelV y v->Rep K c H x dx->Rep K c H y dy->eqN n dx dy=some b->A.units+n<cLine->
 RcAt A s u v b/\(EqAt A s u v b)
 :=by
  intro n
  induction n using Nat.strongRecOn with
  |ind n ih=>
  intro A x y u v dx dy b ru rv rx ry e hu;have items:∀{m:Nat}{vs ws:List V}{is js:List ie}{ds es:List D}{b':Bool},n=m+1->Vals vs is->Vals ws js->Reps K c H vs ds->Reps K c H ws es->D6 (eqN m) ds es=some b'->
   ∀j (h1:j<is.toArray.size) (h2:j<js.toArray.size),EqAt A.in1 s is.toArray[j] js.toArray[j] (ej (eqN m) ds es j):=λ{m vs ws is js ds es b'} hm r1 r2 q1 q2 e' j h1 h2=>by
   clear 5(K9 r1 h1)v1 a1 a2;clear 5(K9 r2 h2)v2 b1 b2;clear 5(ua9.mp a1)l1 g1;clear 5(ua9.mp b1)l2 g2;have k1:ds[j]?=some (ds[j]'(by rw[<-q1.length];exact l1)):=ub3 _;have k2:es[j]?=some (es[j]'(by rw[<-q2.length];exact l2)):=ub3 _;clear 5((D7 e').2 j _ _ k1 k2)kk ek;have:ej (eqN m) ds es j=kk:=by unfold ej;rw[k1,k2];simp[ek]
   rw[this];have hu':A.in1.units+m<cLine:=by
    have:A.in1.units=A.units+1:=by first|rfl|exact Around.units_in1 _|simp[Around.in1,Around.units]
    lia
   exact(ih m ∅ a2 b2 (q1.get a1 k1) (q2.get b1 k2) ek hu').2
  have hu0:A.units<cLine:=by lia
  have conc:∀{p q:ig}{k:Bool},p≠q->RcAt A s (.ref p) (.ref q) k->RcAt A s (.ref p) (.ref q) k/\EqAt A s (.ref p) (.ref q) k:=λhn h=>⟨h,EqAt.of_refs hn h⟩;rcases Ik e with e0|⟨m,ds,es,hm,rfl,rfl,e0⟩|⟨m,ds,es,b',hm,rfl,rfl,e1,e2⟩
  .rcases Ij e0 with⟨i,j,rfl,rfl,rfl⟩|⟨i,j,rfl,rfl,rfl⟩|⟨i,j,rfl,rfl,rfl⟩|⟨rfl,rfl,rfl⟩|⟨ys,rfl,rfl,rfl⟩
   .cases (show x=_ from rx.rv);cases (show y=_ from ry.rv);clear 5 ru t' rfl;clear 5 rv t rfl;exact⟨RcAt.int_int _ _ _ _,EqAt.int_int _ _ _ _⟩
   .cases (show x=_ from rx.rv);cases (show y=_ from ry.rv);clear 5 ru t' rfl;clear 5 rv t rfl;exact⟨RcAt.str_str _ _ _ _,EqAt.str_str _ _ _ _⟩
   .cases (show x=_ from rx.rv);cases (show y=_ from ry.rv);cases ru;cases rv;exact⟨RcAt.bool_bool _ _,EqAt.bool_bool _ _⟩
   .cases (show x=_ from rx.rv);cases (show y=_ from ry.rv);cases ru;cases rv;exact⟨RcAt.none_none,EqAt.same _⟩
   .cases (show x=_ from rx.rv);obtain⟨_,_,rfl,h1,_⟩:=ry.rv;cases ru;cases rv;clear 5(Fs hok h1)its r l;exact⟨RcAt.none_list l hu0,EqAt.none_list l hu0⟩
  .obtain⟨p,vs,rfl,g1,g2,g3⟩:=rx.rv
   .obtain⟨q,ws,rfl,h1,h2,h3⟩:=ry.rv
    .
     cases ru
     cases rv
     clear 5(Fs hok g1)is r1 l1;clear 5(Fs hok h1)js r2 l2;have hs1:is.toArray.size=ds.length:=by rw[<-g3.length,r1.length];simp
     have hs2:js.toArray.size=es.length:=by rw[<-h3.length,r2.length];simp
     by_cases hl:ds.length=es.length
     .rw[lJ hl] at e0;have hsz:is.toArray.size=js.toArray.size:=by rw[hs1,hs2,hl]
      have rc:=RcAt.lists l1 l2 hsz hu0 (items hm r1 r2 g3 h3 e0);have eb:(List.range is.toArray.size).all (ej (eqN m) ds es)=b:=by rw[(D7 e0).1,hs1,<-hl,Nat.min_self]
      rw[eb] at rc
      by_cases hpq:p=q
      .refine⟨rc,?_⟩;subst hpq;rw[OM n rx ry e];exact EqAt.same _
      .exact conc hpq rc
     .rw[lK hl] at e0
      cases e0
      have hsz:(is.toArray.size != js.toArray.size)=true:=by rw[hs1,hs2];simpa using hl
      refine conc (λz=>hl ?_) (RcAt.lists_lengths l1 l2 hsz hu0);subst z;rw[g1] at h1;cases h1
      rw[<-g3.length,<-h3.length]
  .obtain⟨p,vs,rfl,g1,g2,g3⟩:=rx.rv
   .obtain⟨q,ws,rfl,h1,h2,h3⟩:=ry.rv
    .
     cases ru
     cases rv
     clear 5(Jg hok g1)is r1 l1;clear 5(Jg hok h1)js r2 l2;have hs1:is.toArray.size=ds.length:=by rw[<-g3.length,r1.length];simp
     have hs2:js.toArray.size=es.length:=by rw[<-h3.length,r2.length];simp
     have rc:=RcAt.tuples l1 l2 hu0 (items hm r1 r2 g3 h3 e1);have eb:((List.range (min is.toArray.size js.toArray.size)).all (ej (eqN m) ds es)&&is.toArray.size==js.toArray.size)=b:=by rw[hs1,hs2,<-(D7 e1).1];exact e2
     rw[eb] at rc
     by_cases hpq:p=q
     .refine⟨rc,?_⟩;subst hpq;rw[OM n rx ry e];exact EqAt.same _
     .exact conc hpq rc
theorem WT{s:ij}(hok:HOk P w H s.heap)(n:Nat){A:Around}{x y:V}{u v:ie}{dx dy:D}{b:Bool}(ru:RelV x u)(rv:RelV y v)(rx:Rep K c H x dx)(ry:Rep K c H y dy)(e:eqN n dx dy=some b)(hu:A.units+n<cLine) :
 RcNeAt A s u v (!b):=by
 have items:∀{m:Nat}{vs ws:List V}{is js:List ie}{ds es:List D}{b':Bool},n=m+1->Vals vs is->Vals ws js->Reps K c H vs ds->Reps K c H ws es->D6 (eqN m) ds es=some b'->
  ∀j (h1:j<is.toArray.size) (h2:j<js.toArray.size),EqAt A.in1 s is.toArray[j] js.toArray[j] (ej (eqN m) ds es j):=λ{m vs ws is js ds es b'} hm r1 r2 q1 q2 e' j h1 h2=>by
  clear 5(K9 r1 h1)v1 a1 a2;clear 5(K9 r2 h2)v2 b1 b2;clear 5(ua9.mp a1)l1 g1;clear 5(ua9.mp b1)l2 g2;have k1:ds[j]?=some (ds[j]'(by rw[<-q1.length];exact l1)):=ub3 _;have k2:es[j]?=some (es[j]'(by rw[<-q2.length];exact l2)):=ub3 _;clear 5((D7 e').2 j _ _ k1 k2)kk ek;have:ej (eqN m) ds es j=kk:=by unfold ej;rw[k1,k2];simp[ek]
  rw[this];have hu':A.in1.units+m<cLine:=by
   have:A.in1.units=A.units+1:=rfl;lia
  exact(OJ hok m a2 b2 (q1.get a1 k1) (q2.get b1 k2) ek hu').2
 have hu0:A.units<cLine:=by lia
 rcases Ik e with e0|⟨m,ds,es,hm,rfl,rfl,e0⟩|⟨m,ds,es,b',hm,rfl,rfl,e1,e2⟩
 .rcases Ij e0 with⟨i,j,rfl,rfl,rfl⟩|⟨i,j,rfl,rfl,rfl⟩|⟨i,j,rfl,rfl,rfl⟩|⟨rfl,rfl,rfl⟩|⟨ys,rfl,rfl,rfl⟩
  .cases (show x=_ from rx.rv);cases (show y=_ from ry.rv);clear 5 ru t' rfl;clear 5 rv t rfl;exact RcNeAt.int_int _ _ _ _
  .cases (show x=_ from rx.rv);cases (show y=_ from ry.rv);clear 5 ru t' rfl;clear 5 rv t rfl;exact RcNeAt.str_str _ _ _ _
  .cases (show x=_ from rx.rv);cases (show y=_ from ry.rv);cases ru;cases rv;exact RcNeAt.bool_bool _ _
  .cases (show x=_ from rx.rv);cases (show y=_ from ry.rv);cases ru;cases rv;exact RcNeAt.none_none
  .cases (show x=_ from rx.rv);obtain⟨_,_,rfl,h1,_⟩:=ry.rv;cases ru;cases rv;clear 5(Fs hok h1)its r l;exact RcNeAt.none_list l hu0
 .obtain⟨p,vs,rfl,g1,g2,g3⟩:=rx.rv
  .obtain⟨q,ws,rfl,h1,h2,h3⟩:=ry.rv
   .
    cases ru
    cases rv
    clear 5(Fs hok g1)is r1 l1;clear 5(Fs hok h1)js r2 l2;have hs1:is.toArray.size=ds.length:=by rw[<-g3.length,r1.length];simp
    have hs2:js.toArray.size=es.length:=by rw[<-h3.length,r2.length];simp
    by_cases hl:ds.length=es.length
    .rw[lJ hl] at e0;have hsz:is.toArray.size=js.toArray.size:=by rw[hs1,hs2,hl]
     have rc:=RcNeAt.lists l1 l2 hsz hu0 (items hm r1 r2 g3 h3 e0);rw[show(List.range is.toArray.size).all (ej (eqN m) ds es)=b by rw[(D7 e0).1,hs1,<-hl,Nat.min_self]] at rc;exact rc
    .rw[lK hl] at e0
     cases e0
     exact RcNeAt.lists_lengths l1 l2 (by rw[hs1,hs2];simpa using hl) hu0
 .obtain⟨p,vs,rfl,g1,g2,g3⟩:=rx.rv
  .obtain⟨q,ws,rfl,h1,h2,h3⟩:=ry.rv
   .
    cases ru
    cases rv
    clear 5(Jg hok g1)is r1 l1;clear 5(Jg hok h1)js r2 l2;have hs1:is.toArray.size=ds.length:=by rw[<-g3.length,r1.length];simp
    have hs2:js.toArray.size=es.length:=by rw[<-h3.length,r2.length];simp
    have rc:=RcNeAt.tuples l1 l2 hu0 (items hm r1 r2 g3 h3 e1);have eb:((List.range (min is.toArray.size js.toArray.size)).all (ej (eqN m) ds es)&&is.toArray.size==js.toArray.size)=b:=by rw[hs1,hs2,<-(D7 e1).1];exact e2
    rw[eb] at rc;exact rc
def EQD:Nat:=40
def neD(x y:D):M D:=λt=>(eqN EQD x y).map λb=>(.bl (!b),t)
def Qt(K:ib)(g:Bool->Bool):R2:=λx y H Q=>∃c dx dy b,Rep K c H x dx/\Rep K c H y dy/\eqN EQD dx dy=some b/\Q (.bl (g b)) H
theorem Ss{X:Cx}(hu:X.A.units+64<cLine):OpR X (compareOp .Eq) (Qt X.K id):=by
 intro ic s σ H x y v u Q I rx ry h;clear 5 h c dx dy b q1 q2 e q;have hu':X.A.units+EQD<cLine:=by unfold EQD;lia
 exact(OJ I.hok EQD rx ry q1 q2 e hu').1 X.prog X.w _ _ ⟨.bl b,H,I,rfl,q⟩
theorem NT{X:Cx}(hu:X.A.units+64<cLine):OpR X (compareOp .NotEq) (Qt X.K (!·)):=by
 intro ic s σ H x y v u Q I rx ry h;clear 5 h c dx dy b q1 q2 e q;have hu':X.A.units+EQD<cLine:=by unfold EQD;lia
 exact WT I.hok EQD rx ry q1 q2 e hu' X.prog X.w _ _ ⟨.bl (!b),H,I,rfl,q⟩
end
section
variable{g:Int->Int->D}{t:T}{z:D×T}{X:Cx}{c:Cf}{H:Hp}
section
variable{K:ib}
def i2(g:Int->Int->D):D->D->M D
 |.int i,.int j=>ret (g i j)
 |_,_=>fail
theorem Zc{x y:D}(h:i2 g x y t=some z):∃i j,x=.int i/\y=.int j/\z=(g i j,t):=by
 cases x with
 |int i=>cases y with
   |int j=>cases h;exact⟨i,j,rfl,rfl,rfl⟩
   |_=>cases h
 |_=>cases h
theorem ao{gV:Int->Int->V}(hr:∀i j c H,Rep K c H (gV i j) (g i j)):BB K (rI0 gV) (i2 g):=λ{Oo c t σ H x y dx dy r t' Q} f rx ry eq k=>by
 clear 5(Zc eq)i j rfl rfl z
 cases z
 cases rx
 cases ry
 exact⟨i,j,rfl,rfl,k _ H c f .refl (hr i j c H)⟩
def i2C(C:Int->Int->Bool)(g:Int->Int->D):D->D->M D
 |.int i,.int j=>λt=>if C i j=true then some (g i j,t) else none
 |_,_=>fail
theorem WF{C:Int->Int->Bool}{x y:D}(h:i2C C g x y t=some z):∃i j,x=.int i/\y=.int j/\C i j=true/\z=(g i j,t):=by
 cases x with
 |int i=>cases y with
   |int j=>
     unfold i2C at h;dsimp only at h
     by_cases hc:C i j=true
     .rw[lJ hc] at h;cases h;exact⟨i,j,rfl,rfl,hc,rfl⟩
     .rw[lK hc] at h;cases h
   |_=>cases h
 |_=>cases h
theorem Jr{P:Int->Int->Prop}{C:Int->Int->Bool}{gV:Int->Int->V}(hP:∀i j,C i j=true->P i j)(hr:∀i j c H,Rep K c H (gV i j) (g i j)):BB K (rI P gV) (i2C C g):=λ{Oo c t σ H x y dx dy r t' Q} f rx ry eq k=>by
 clear 5(WF eq)i j rfl rfl hc z
 cases z
 cases rx
 cases ry
 exact⟨i,j,rfl,rfl,hP i j hc,k _ H c f .refl (hr i j c H)⟩
def Di:=i2 λi j=>.int (i-j)
noncomputable def MQ(_ j:Int):Bool:=decide (0<j)&&decide (j<1073741824)
def A9:=i2C MQ λi j=>.int (i/j)
def Bf:=i2C (λ_ j=>decide (0<j)) λi j=>.int (i%j)
noncomputable def MV(i j:Int):Bool:=decide (0<=j)&&decide (j<=1000000)&&decide (i.natAbs<2 ^ 64)
def NX:=i2C MV λi j=>.int (i ^ j.toNat)
noncomputable def FV(i j:Int):Bool:=(decide (-(2 ^ 64)<i)&&decide (i<2 ^ 64))||(decide (-(2 ^ 64)<j)&&decide (j<2 ^ 64))
def N8:=i2C (λ_ j=>decide (0<=j)) λi j=>.int (i/2 ^ j.toNat)
theorem XT:BB K (rI0 λi j=>.int (i-j)) Di:=ao λi j _ _=>.int _
theorem U3:BB K (rI Yk λi j=>.int (i/j)) A9:=Jr (λi j h=>by
 unfold MQ at h;rw[ug8] at h;exact⟨ug0 h.1,ug0 h.2⟩) λi j _ _=>.int _
theorem XL:BB K (rI (λ_ j=>0<j) λi j=>.int (i%j)) Bf:=Jr (λi j h=>ug0 h) λi j _ _=>.int _
theorem XR:BB K (rI Yl λi j=>.int (i ^ j.toNat)) NX:=Jr (λi j h=>by
 unfold MV at h;rw[ug8,ug8] at h;exact⟨ug0 h.1.1,ug0 h.1.2,ug0 h.2⟩) λi j _ _=>.int _
theorem XS:BB K (rI (λ_ j=>0<=j) λi j=>.int (i/2 ^ j.toNat)) N8:=Jr (λi j h=>ug0 h) λi j _ _=>.int _
theorem Sg{i j:Int}(h:FV i j=true):CMul i j:=by
 unfold FV at h;rw[Bool.or_eq_true,ug8,ug8] at h;rcases h with h|h
 .exact .inl ⟨ug0 h.1,ug0 h.2⟩
 .exact .inr ⟨ug0 h.1,ug0 h.2⟩
def IG:D->M D
 |.int i=>ret (.int (-i))
 |_=>fail
theorem XO:Yr K (rU λi=>.int (-i)) IG:=λ{Oo c t σ H x dx r t' Q} f rx eq k=>by
 cases rx with
 |int i=>cases eq;exact⟨i,rfl,k _ H c f .refl (.int _)⟩
 |_=>cases eq
def Yu:D->D->M D
 |.int i,.int j=>ret (.int (i+j))
 |.str x,.str y=>lim (x.length+y.length) (.str (x++y))
 |.lst xs,.lst ys=>lim (xs.length+ys.length) (.lst (xs++ys))
 |_,_=>fail
def Xt:R2:=λx y H Q=>∃i j,x=.str i/\y=.str j/\i.length+j.length<=sizeLine/\Q (.str (i++j)) H
def Qs(K:ib):R2:=λx y H Q=>rI0 (λi j=>.int (i+j)) x y H Q\/(Xt x y H Q\/UR x y H Q)
theorem W0:OpR X (binaryOp .Add) (Qs X.K):=op_add.or (op_add_str.or Sq)
theorem Xz:BB K (Qs K) Yu:=λ{Oo c t σ H x y dx dy r t' Q} f rx ry eq k=>by
 cases rx with
 |int i=>
   cases ry with
   |int j=>cases eq;exact .inl ⟨i,j,rfl,rfl,k _ H c f .refl (.int _)⟩
   |_=>cases eq
 |str i=>
   cases ry with
   |str j=>
     clear 5(Ft eq)h z
     cases z
     exact .inr (.inl ⟨i,j,rfl,rfl,uk9 h Dm,k _ H c f .refl (.str _)⟩)
   |_=>cases eq
 |@lst a vs ds h1 h2 h3=>
   cases ry with
   |@lst b ws es g1 g2 g3=>
     clear 5(Ft eq)h z
     cases z
     refine .inr (.inr ⟨a,b,vs,ws,rfl,rfl,h1,g1,?_,λp hp=>?_⟩)
     .rw[h3.length,g3.length];exact uk9 h Dm
     .exact k _ _ c (f.laid hp) (f.stp_laid hp) (.lst Ak (f.s.free hp) ((h3.append g3).mono (Ext.laid f.s hp)))
   |_=>cases eq
 |_=>cases eq
def Ig:D->D->M (List D)
 |.lst xs,.lst ys=>lim (xs.length+ys.length) (xs++ys)
 |_,_=>fail
theorem U2:Py K UR Ig:=λ{Oo c t σ H x y dx dy r t' Q} f rx ry eq k=>by
 cases rx with
 |@lst a vs ds h1 h2 h3=>
   cases ry with
   |@lst b ws es g1 g2 g3=>
     clear 5(Ft eq)h z
     cases z
     refine⟨a,b,vs,ws,rfl,rfl,h1,g1,?_,λp hp=>k p _ H c f .refl (h3.append g3) hp⟩;rw[h3.length,g3.length];exact uk9 h Dm
   |_=>cases eq
 |_=>cases eq
def isC:D->D->M D
 |x,.non=>λt=>some (.bl (match x with | .non=>true|_=>false),t)
 |x,.bl b=>λt=>some (.bl (match x with | .bl c=>c==b|_=>false),t)
 |_,_=>fail
def Fd(x y:D):M D:=bnd (isC x y) λd=>match d with | .bl b=>ret (.bl (!b))|_=>fail
def rIs(g:Bool->Bool):R2:=λx y H Q=>(y=.non\/∃b,y=.bl b)/\Q (.bl (g (decide (x=y)))) H
theorem OF{x y:V}{v u:ie}(rx:RelV x v)(ry:RelV y u)(hy:y=.non\/∃b,y=.bl b):plainIs v u=true/\(v==u)=decide (x=y):=by
 rcases hy with rfl|⟨b,rfl⟩
 .cases ry
  cases x with
  |non=>cases rx;exact⟨rfl,by simp⟩
  |bl _=>cases rx;exact⟨rfl,by simp⟩
  |int _=>clear 5 rx t rfl;exact⟨rfl,by simp⟩
  |str _=>clear 5 rx t rfl;exact⟨rfl,by simp⟩
  |byt _=>clear 5 rx t rfl;exact⟨rfl,by simp⟩
  |flt _=>clear 5 rx t rfl;exact⟨rfl,by simp⟩
  |ref _=>cases rx;exact⟨rfl,by simp⟩
  |ty _=>cases rx;exact⟨rfl,by simp⟩
 .cases ry
  cases x with
  |non=>cases rx;exact⟨rfl,by simp⟩
  |bl c=>cases rx;exact⟨rfl,by simp;cases c<;>cases b<;>rfl⟩
  |int _=>clear 5 rx t rfl;exact⟨rfl,by simp⟩
  |str _=>clear 5 rx t rfl;exact⟨rfl,by simp⟩
  |byt _=>clear 5 rx t rfl;exact⟨rfl,by simp⟩
  |flt _=>clear 5 rx t rfl;exact⟨rfl,by simp⟩
  |ref _=>cases rx;exact⟨rfl,by simp⟩
  |ty _=>cases rx;exact⟨rfl,by simp⟩
theorem Su:OpR X (compareOp .Is) (rIs id):=by
 intro ic s σ H x y v u Q I rx ry h;clear 5 h hy q;clear 5(OF rx ry hy)h1 h2;exact wpAny_is_plain h1 ⟨.bl _,H,I,by rw[h2];rfl,q⟩
theorem Mr:OpR X (compareOp .IsNot) (rIs (!·)):=by
 intro ic s σ H x y v u Q I rx ry h;clear 5 h hy q;clear 5(OF rx ry hy)h1 h2;exact wpAny_isNot_plain h1 ⟨.bl _,H,I,by rw[h2];rfl,q⟩
set_option tactic.hygienic true in
theorem OY{x y:V}{dx dy:D}(rx:Rep K c H x dx)(ry:Rep K c H y dy)(eq:isC dx dy t=some z):(y=.non\/∃b,y=.bl b)/\z=(.bl (decide (x=y)),t):=by
 cases ry with
 |non=>
   refine⟨.inl rfl,?_⟩
   cases rx<;>(cases eq;first|rfl|simp)
 |bl b=>
   refine⟨.inr ⟨b,rfl⟩,?_⟩
   cases rx<;>(cases eq;first|rfl|simp)
   next a=>cases a<;>cases b<;>rfl
 |_=>cases eq
theorem SV:BB K (rIs id) isC:=λ{Oo c t σ H x y dx dy r t' Q} f rx ry eq k=>by
 clear 5(OY rx ry eq)h z
 cases z
 exact⟨h,k _ H c f .refl (.bl _)⟩
theorem Mt:BB K (rIs (!·)) Fd:=λ{Oo c t σ H x y dx dy r t' Q} f rx ry eq k=>by
 clear 5(Af eq)d t1 e1 eq;clear 5(OY rx ry e1)h z
 cases z
 cases eq
 exact⟨h,k _ H c f .refl (.bl _)⟩
def ixD:D->D->M D
 |.lst ds,.int i=>λt=>(atI ds i).map λd=>(d,t)
 |.tup ds,.int i=>λt=>(atI ds i).map λd=>(d,t)
 |.scr ns,.int i=>λt=>(atI ns i).map λn=>(.int n,t)
 |.str x,.int i=>λt=>if x.length<=LIM then(atI x.cps.toList i).map λn=>(.str ⟨#[n]⟩,t) else none
 |.obj k,.int i=>λt=>match t.S[k]? with
   |some (.lst ds)=>(atI ds i).map λd=>(d,t)
   |_=>none
 |_,_=>fail
theorem JH{vs:List V}{ds:List D}{i:Int}{d:D}(r:Reps K c H vs ds)(h:atI ds i=some d):∃v,atI vs i=some v/\Rep K c H v d:=by
 unfold atI at h⊢;clear 5(Option.bind_eq_some_iff.mp h)j h1 h2;clear 5(r.at h2)v h3 h4;exact⟨v,by rw[r.length,h1];exact h3,h4⟩
theorem V4{α β:Type}(g:α->β)(xs:List α)(i:Int):atI (xs.map g) i=(atI xs i).map g:=by
 unfold atI;rw[uh7]
 cases ixN xs.length i with
 |none=>rfl
 |some j=>simp
theorem Ze{dx dy r:D}{t':T}(eq:ixD dx dy t=some (r,t')):∃i,dy=.int i/\((∃ds,dx=.lst ds)\/(∃ds,dx=.tup ds)\/(∃ns,dx=.scr ns)\/(∃z,dx=.str z)\/∃k,dx=.obj k):=by
 unfold ixD at eq
 split at eq
 .exact⟨_,rfl,.inl ⟨_,rfl⟩⟩
 .exact⟨_,rfl,.inr (.inl ⟨_,rfl⟩)⟩
 .exact⟨_,rfl,.inr (.inr (.inl ⟨_,rfl⟩))⟩
 .exact⟨_,rfl,.inr (.inr (.inr (.inl ⟨_,rfl⟩)))⟩
 .exact⟨_,rfl,.inr (.inr (.inr (.inr ⟨_,rfl⟩)))⟩
 .cases eq
set_option tactic.hygienic true in
theorem ap:BB K (rIx K) ixD:=λ{Oo c t σ H x y dx dy r t' Q} f rx ry eq k=>by
 clear 5(Ze eq)i rfl hd
 cases ry
 rcases hd with⟨ds,rfl⟩|⟨ds,rfl⟩|⟨ns,rfl⟩|⟨z,rfl⟩|⟨kk,rfl⟩
 .obtain⟨a,vs,rfl,h1,h2,h3⟩:=rx.rv
  clear 5(uc2.mp eq)d e1 e2
  cases e2
  clear 5(JH h3 e1)v e3 e4;exact .inl ⟨a,vs,i,v,rfl,rfl,SqL.of h1,e3,k _ H c f .refl e4⟩
 .obtain⟨a,vs,rfl,h1,h2,h3⟩:=rx.rv
  clear 5(uc2.mp eq)d e1 e2
  cases e2
  clear 5(JH h3 e1)v e3 e4;exact .inr (.inl ⟨a,vs,i,v,rfl,rfl,SqT.of h1,e3,k _ H c f .refl e4⟩)
 .obtain⟨a,rfl,h1⟩:=rx.rv
  clear 5(uc2.mp eq)n e1 e2
  cases e2
  exact .inl ⟨a,_,i,.int n,rfl,rfl,h1.sq,by rw[V4,e1];rfl,k _ H c f .refl (.int n)⟩
 .cases rx
  unfold ixD at eq;dsimp only at eq
  split at eq
  .next hl=>
   clear 5(uc2.mp eq)n e1 e2
   cases e2
   exact .inr (.inr ⟨z,i,n,rfl,rfl,uk9 hl Dm,e1,k _ H c f .refl (.str _)⟩)
  .cases eq
 .obtain⟨a,rfl,h1⟩:=rx.rv
  unfold ixD at eq;dsimp only at eq
  cases es:t.S[kk]? with
  |none=>rw[es] at eq;cases eq
  |some o=>
    rw[es] at eq
    cases o with
    |dct _|ins _ _=>cases eq
    |lst ds=>
      clear 5(uc2.mp eq)d e1 e2
      cases e2
      clear 5(f.s.obs kk a _ h1 es)vs g1 g2;clear 5(JH g2 e1)v e3 e4;exact .inl ⟨a,vs,i,v,rfl,rfl,SqL.of g1,e3,k _ H c f .refl e4⟩
end
variable{f:M D}{id:String}{R:List V->Hp->VK->Prop}{p:Pos}
section
variable{X:Cx}{e a b:Expr}{es:List Expr}{pos:Pos}
inductive RO(K:ib)(f:M (Option Int))(σ:L2.St)(H:Hp)(Q:Option Int->Hp->Prop):Prop where
 |mk (Oo:ig->Prop) (c:Cf) (t:T) (fi:FInv K Oo c t σ H) (r:Option Int) (t':T) (e:f t=some (r,t')) (k:∀H' c',FInv K Oo c' t' σ H'->Stp Oo c H c' H'->Q r H'):RO K f σ H Q
theorem Q5{oe:Option Expr}{t t':TO}(h:PO X oe t)(i:∀σ H Q,t' σ H Q->t σ H Q):PO X oe t':=λic s σ H Q I q=>h ic s σ H Q I (i σ H Q q)
def fNo:M (Option Int):=ret none
def asI:D->M (Option Int)
 |.int i=>ret (some i)
 |_=>fail
def DX(f:M D):M (Option Int):=bnd f asI
theorem Wu:PO X none (RO X.K fNo):=Q5 Xk λσ H Q z9=>by
 clear 5 z9 Oo c t fi r t' eq k
 cases eq
 exact k H c fi .refl
theorem Wv(h:PE X e (RE X.K f)):PO X (some e) (RO X.K (DX f)):=Q5 (Xl h) λσ H Q z9=>by
 clear 5 z9 Oo c t fi r t' eq k;clear 5(Af eq)d t1 e1 eq;refine⟨Oo,c,t,fi,d,t1,e1,λv H1 c1 f1 s1 rv=>?_⟩
 cases rv with
 |int i=>cases eq;exact⟨i,rfl,k H1 c1 f1 s1⟩
 |_=>cases eq
def Pz(K:ib)(R:V->Option Int->Option Int->Hp->VK->Prop)(h:D->Option Int->Option Int->M D):Prop:=∀{Oo:ig->Prop}{c:Cf}{t:T}{σ:L2.St}{H:Hp}{x:V}{dx r:D}{lo hi:Option Int}{t':T}{Q:VK},FInv K Oo c t σ H->Rep K c H x dx->h dx lo hi t=some (r,t')->
 (∀v H' c',FInv K Oo c' t' σ H'->Stp Oo c H c' H'->Rep K c' H' v r->Q v H')->R x lo hi H Q
def fSl(f:M D)(l u:M (Option Int))(h:D->Option Int->Option Int->M D):M D:=bnd f λx=>bnd l λlo=>bnd u λhi=>h x lo hi
theorem Nx{R:V->Option Int->Option Int->Hp->VK->Prop}{h:D->Option Int->Option Int->M D}{l u:M (Option Int)}{lo hi:Option Expr}{p2:Pos}(hr:SlR X R)(s:Pz X.K R h)(he:PE X e (RE X.K f))(hl:PO X lo (RO X.K l))(hu:PO X hi (RO X.K u)):PE X (.Subscript e (.Slice lo hi none p2) pos) (RE X.K (fSl f l u h)):=
 AH (NV hr he hl hu) λσ H Q z9=>by
  clear 5 z9 Oo c t fi r t' eq k;clear 5(Af eq)d t1 e1 eq;clear 5(Af eq)ol t2 e2 eq;clear 5(Af eq)oh t3 e3 eq;exact⟨Oo,c,t,fi,d,t1,e1,λv H1 c1 f1 s1 rv=>⟨Oo,c1,t1,f1,ol,t2,e2,λH2 c2 f2 s2=>⟨Oo,c2,t2,f2,oh,t3,e3,λH3 c3 f3 s3=>
   s f3 (rv.mono (s2.trans s3).ext) eq λv H' c' f' s' rv'=>k v H' c' f' (((s1.trans s2).trans s3).trans s') rv'⟩⟩⟩
def BZ{α:Type}(xs:List α)(lo hi:Option Int):List α:=(xs.drop (HT.sIx xs.length 0 lo)).take (HT.sIx xs.length xs.length hi-HT.sIx xs.length 0 lo)
def slD:D->Option Int->Option Int->M D
 |.lst ds,lo,hi=>ret (.lst (BZ ds lo hi))
 |.scr ns,lo,hi=>ret (.lst ((BZ ns lo hi).map .int))
 |_,_,_=>fail
theorem HG{K:ib}{vs:List V}{ds:List D}(r:Reps K c H vs ds)(lo hi:Option Int):Reps K c H (JN vs lo hi) (BZ ds lo hi):=by
 unfold JN BZ;rw[r.length];exact(r.drop _).take _
theorem TM{α β:Type}(g:α->β)(xs:List α)(lo hi:Option Int):BZ (xs.map g) lo hi=(BZ xs lo hi).map g:=by
 unfold BZ;rw[uh7,List.map_take,List.map_drop]
theorem Mc(ns:List Int)(lo hi:Option Int):JN (ns.map V.int) lo hi=(BZ ns lo hi).map V.int:=TM V.int ns lo hi
def UT(K:ib):V->Option Int->Option Int->Hp->VK->Prop:=af K
theorem sl2:SlR X (UT X.K):=XX
theorem aq{K:ib}:Pz K (UT K) slD:=λ{Oo c t σ H x dx r lo hi t' Q} f rx eq k=>by
 cases rx with
 |@lst p vs ds h1 h2 h3=>
   cases eq
   exact⟨p,vs,rfl,SqL.of h1,λq hq=>k _ _ c (f.laid hq) (f.stp_laid hq) (.lst Ak (f.s.free hq) ((HG h3 lo hi).mono (Ext.laid f.s hq)))⟩
 |@scr p ns h1=>
   cases eq
   refine⟨p,_,rfl,h1.sq,λq hq=>k _ _ c (f.laid hq) (f.stp_laid hq) (.lst Ak (f.s.free hq) ?_)⟩;rw[Mc];exact Reps.ints _
 |_=>cases eq
theorem dR{h:List D->M D}{f:M (List D)}{x:Str}(hc:Dv X (.builtin id) R)(s:GN X.K R h)(hg:Gl X x)(hm:X.mg x=none)(hv:bootBuiltins x=some (.builtin id))(ha:PA X (e::es) (RA X.K f))(hn:x≠"__name__":=by decide)(hdb:(x==("__debug__":Str))=false:=by decide)
 (he:starEach (e::es) X.env=(false,eval e X.env)::starEach es X.env:=by rfl) (hpl:(backTo pos (starEach es X.env)).any (·.1)=false:=by rfl):PE X (.Call (.Name x p) (e::es) [] pos) (RE X.K (fB f h)):=
 AH (NU hc hg hm hv ha hn hdb he hpl) λ_ _ _ q=>RE.callB s q
theorem dS{h:List D->M D}{f:M (List D)}{x:Str}(hc:Dv X (.type id) R)(s:GN X.K R h)(hg:Gl X x)(hm:X.mg x=none)(hv:bootBuiltins x=some (.type id))(ha:PA X (e::es) (RA X.K f))(hn:x≠"__name__":=by decide)(hdb:(x==("__debug__":Str))=false:=by decide)
 (he:starEach (e::es) X.env=(false,eval e X.env)::starEach es X.env:=by rfl) (hpl:(backTo pos (starEach es X.env)).any (·.1)=false:=by rfl):PE X (.Call (.Name x p) (e::es) [] pos) (RE X.K (fB f h)):=
 AH (IL hc hg hm hv ha hn hdb he hpl) λ_ _ _ q=>RE.callB s q
theorem dU{h:List D->M (List D)}{f:M (List D)}{x:Str}(hc:Dv X (.type id) R)(s:MO X.K R h)(hg:Gl X x)(hm:X.mg x=none)(hv:bootBuiltins x=some (.type id))(ha:PA X (e::es) (RA X.K f))(hn:x≠"__name__":=by decide)(hdb:(x==("__debug__":Str))=false:=by decide)
 (he:starEach (e::es) X.env=(false,eval e X.env)::starEach es X.env:=by rfl) (hpl:(backTo pos (starEach es X.env)).any (·.1)=false:=by rfl):PE X (.Call (.Name x p) (e::es) [] pos) (RF X.K (fBF f h)):=
 AH (IL hc hg hm hv ha hn hdb he hpl) λ_ _ _ q=>RF.callB s q
theorem bu{op:Operator}{R:R2}{g:M D}{h:D->D->M (List D)}(ho:OpR X (binaryOp op) R)(s:Py X.K R h)(ha:PE X a (RE X.K f))(hb:PE X b (RE X.K g)):PE X (.BinOp a op b pos) (RF X.K (bnd f λx=>bnd g λy=>h x y)):=
 AH (Qk ho ha hb) λ_ _ _ q=>RF.two s q
end
section
variable{K:ib}
theorem FD{xs:List V}{d:D}(r:Reps K c H xs [d]):∃v,xs=[v]/\Rep K c H v d:=by
 cases r with
 |cons r rs=>cases rs;exact⟨_,rfl,r⟩
theorem VS{xs:List V}{d e:D}(r:Reps K c H xs [d,e]):∃v u,xs=[v,u]/\Rep K c H v d/\Rep K c H u e:=by
 cases r with
 |cons r rs=>
   clear 5(FD rs)u rfl q;exact⟨_,u,rfl,r,q⟩
def A4:List D->M D
 |[.lst ds]=>ret (.int ds.length)
 |[.tup ds]=>ret (.int ds.length)
 |[.scr ns]=>ret (.int ns.length)
 |[.str x]=>lim x.length (.int x.length)
 |[.obj k]=>λt=>match t.S[k]? with
   |some (.lst ds)=>some (.int ds.length,t)
   |_=>none
 |_=>fail
theorem XH:GN K (λxs H Q=>∃x n,xs=[x]/\Yo K x H n/\Q (.int n) H) A4:=λ{Oo c t σ H xs ds r t' Q} f rx eq k=>by
 match ds,rx,eq with
 |[],_,eq=>cases eq
 |d0::_::_,_,eq=>cases d0<;>cases eq
 |[d],rx,eq=>
   clear 5(FD rx)v rfl rv
   cases rv with
   |@lst a vs ds h1 h2 h3=>cases eq;exact⟨_,ds.length,rfl,.inl ⟨vs,SqL.of h1,h3.length.symm⟩,k _ H c f .refl (.int _)⟩
   |@tup a vs ds h1 h2 h3=>cases eq;exact⟨_,ds.length,rfl,.inr ⟨vs,SqT.of h1,h3.length.symm⟩,k _ H c f .refl (.int _)⟩
   |@scr a ns h1=>cases eq;exact⟨_,ns.length,rfl,.inl ⟨_,h1.sq,by simp⟩,k _ H c f .refl (.int _)⟩
   |str x=>
     clear 5(Ft eq)hl z
     cases z
     exact⟨_,x.length,rfl,⟨uk9 hl Dm,rfl⟩,k _ H c f .refl (.int _)⟩
   |@obj a kk h1=>
     unfold A4 at eq;dsimp only at eq
     cases es:t.S[kk]? with
     |none=>rw[es] at eq;cases eq
     |some o=>
       rw[es] at eq
       cases o with
       |dct _|ins _ _=>cases eq
       |lst ds=>
         cases eq
         clear 5(f.s.obs kk a _ h1 es)vs g1 g2;exact⟨_,ds.length,rfl,.inl ⟨vs,SqL.of g1,g2.length.symm⟩,k _ H c f .refl (.int _)⟩
   |_=>cases eq
noncomputable def tyD:D->Option String
 |.non=>some "NoneType"
 |.bl _=>some "bool"
 |.int _=>some "int"
 |.str _=>some "str"
 |.lst _=>some "list"
 |.tup _=>some "tuple"
 |.dic=>some "dict"
 |_=>none
noncomputable def Ge(n m:String):Option Bool:=match m with
 | "int"=>some (n == "int" || n == "bool")
 | "bool"=>some (n == "bool")
 | "str"=>some (n == "str")
 | "list"=>some (n == "list")
 | "tuple"=>some (n == "tuple")
 | "dict"=>some (n == "dict")
 |_=>none
def CY:List D->M D
 |[d,.ty m]=>λt=>match tyD d with
   |some n=>(Ge n m).map λb=>(.bl b,t)
   |none=>none
 |_=>fail
theorem O0{d:D}{n m:String}{b:Bool}(h1:tyD d=some n)(h2:Ge n m=some b):PySem.W.kitOne K (.type n) (.type m)=some b:=by
 have hm:m = "int"\/m = "bool"\/m = "str"\/m = "list"\/m = "tuple"\/m = "dict":=by
  unfold Ge at h2
  split at h2<;>simp_all
 have hn:n = "NoneType"\/n = "bool"\/n = "int"\/n = "str"\/n = "list"\/n = "tuple"\/n = "dict":=by
  cases d<;>simp[tyD] at h1<;>simp[<-h1]
 rcases hm with rfl|rfl|rfl|rfl|rfl|rfl<;>rcases hn with rfl|rfl|rfl|rfl|rfl|rfl|rfl<;>(cases h2;rfl)
def US(K:ib):List V->Hp->VK->Prop:=λxs H Q=>∃x n t b,xs=[x,.ty n]/\TyOf K H x t/\PySem.W.kitOne K t (.type n)=some b/\Q (.bl b) H
theorem Nm:Dv X (.builtin "isinstance") (US X.K):=by
 intro ic s σ H xs us Q I r h;clear 5 h x n t b rfl ty e q;clear 5(VY r)u w' rfl rx rt
 cases rt
 exact Mn I rx ty e λtk=>⟨.bl b,H,I.tok tk,rfl,q⟩
set_option tactic.hygienic true in
theorem Pg:GN K (US K) CY:=λ{Oo c t σ H xs ds r t' Q} f rx eq k=>by
 unfold CY at eq
 split at eq
 .next d m=>
  clear 5(VS rx)v u rfl rv ru
  cases ru
  cases et:tyD d with
  |none=>rw[et] at eq;cases eq
  |some n=>
    rw[et] at eq;clear 5(uc2.mp eq)b e1 e2
    cases e2
    refine⟨v,m,.type n,b,rfl,?_,O0 et e1,k _ H c f .refl (.bl b)⟩
    cases rv<;>first|(cases et;first|exact .non|exact .bl _|exact .int _|exact .str _|exact .lst ‹_› | exact .tup ‹_› | exact .dK ‹_›)|cases et
 .cases eq
def eZ:List D->M D
 |[.lst ds]=>ret (.tup ds)
 |[.tup ds]=>ret (.tup ds)
 |[.obj k]=>λt=>match t.S[k]? with
   |some (.lst ds)=>some (.tup ds,t)
   |_=>none
 |_=>fail
def Ds:List D->M (List D)
 |[.lst ds]=>ret ds
 |[.tup ds]=>ret ds
 |[.scr ns]=>ret (ns.map .int)
 |[.obj k]=>λt=>match t.S[k]? with
   |some (.lst ds)=>some (ds,t)
   |_=>none
 |_=>fail
theorem XI:MO K (λxs H Q=>∃p ys,xs=[.ref p]/\(SqL K H p ys\/SqT K H p ys)/\∀l,H l=none->Q (.ref l) (upd H l (.lst ys))) Ds:=λ{Oo c t σ H xs ds r t' Q} f rx eq k=>by
 match ds,rx,eq with
 |[],_,eq=>cases eq
 |d0::_::_,_,eq=>cases d0<;>cases eq
 |[d],rx,eq=>
   clear 5(FD rx)v rfl rv
   cases rv with
   |@lst a vs ds h1 h2 h3=>cases eq;exact⟨a,vs,rfl,.inl (SqL.of h1),λq hq=>k q vs H c f .refl h3 hq⟩
   |@tup a vs ds h1 h2 h3=>cases eq;exact⟨a,vs,rfl,.inr (SqT.of h1),λq hq=>k q vs H c f .refl h3 hq⟩
   |@scr a ns h1=>cases eq;exact⟨a,_,rfl,.inl h1.sq,λq hq=>k q _ H c f .refl (Reps.ints ns) hq⟩
   |@obj a kk h1=>
     unfold Ds at eq;dsimp only at eq
     cases es:t.S[kk]? with
     |none=>rw[es] at eq;cases eq
     |some o=>
       rw[es] at eq
       cases o with
       |dct _|ins _ _=>cases eq
       |lst ds=>
         cases eq
         clear 5(f.s.obs kk a _ h1 es)vs g1 g2;exact⟨a,vs,rfl,.inl (SqL.of g1),λq hq=>k q vs H c f .refl g2 hq⟩
   |_=>cases eq
def LB:List D->M D
 |[.int i]=>ret (.int i)
 |[.bl b]=>ret (.int (if b then 1 else 0))
 |_=>fail
theorem XG:GN K (λxs H Q=>(∃i,xs=[.int i]/\Q (.int i) H)\/∃k,xs=[.bl k]/\Q (.int (if k then 1 else 0)) H) LB:=λ{Oo c t σ H xs ds r t' Q} f rx eq k=>by
 match ds,rx,eq with
 |[],_,eq=>cases eq
 |d0::_::_,_,eq=>cases d0<;>cases eq
 |[d],rx,eq=>
   clear 5(FD rx)v rfl rv
   cases rv with
   |int i=>cases eq;exact .inl ⟨i,rfl,k _ H c f .refl (.int _)⟩
   |bl b=>cases eq;exact .inr ⟨b,rfl,k _ H c f .refl (.int _)⟩
   |_=>cases eq
def dJ:List D->M D
 |[.int i]=>ret (.int (if i<0 then -i else i))
 |_=>fail
def ee:List D->M D
 |[.int i,.int j]=>ret (.int (if j<i then j else i))
 |_=>fail
def d9:List D->M D
 |[.int i,.int j]=>ret (.int (if j > i then j else i))
 |_=>fail
def JY:List D->M D
 |[.str x]=>λt=>if x.length=1 then some (.int (x.cps.getD 0 0:Nat),t) else none
 |_=>fail
set_option tactic.hygienic true in
theorem XQ:GN K (λxs H Q=>∃x,xs=[.str x]/\x.length=1/\Q (.int (x.cps.getD 0 0:Nat)) H) JY:=λ{Oo c t σ H xs ds r t' Q} f rx eq k=>by
 match ds,rx,eq with
 |[],_,eq=>cases eq
 |d0::_::_,_,eq=>cases d0<;>cases eq
 |[d],rx,eq=>
   clear 5(FD rx)v rfl rv
   cases rv with
   |str x=>
     unfold JY at eq;dsimp only at eq
     split at eq
     .next h=>cases eq;exact⟨x,rfl,h,k _ H c f .refl (.int _)⟩
     .cases eq
   |_=>cases eq
end
end
open AutoSeq1 (wpAny_loadPart')
open AutoSeq1 (wpAny_loadPart')
theorem MtM.or{X:Cx}{id:String}{r r':V->List V->Hp->VK->Prop}(h:MtM X id r)(h':MtM X id r'):MtM X id (λx xs H Q=>r x xs H Q\/r' x xs H Q):=by
 intro ic s σ H x xs v us Q I rx rv q;rcases q with q|q
 .exact h ic s σ H x xs v us Q I rx rv q
 .exact h' ic s σ H x xs v us Q I rx rv q
section
variable{X:Cx}{a b c d:Expr}{ta tb tc td:TE}{pos:Pos}
end
section
variable{K:ib}
def AZ(x y:D):M D:=Yu x y
def VN(K:ib):R2:=Qs K
theorem O6{X:Cx}:OpR X (binaryOp .Add) (VN X.K):=W0
theorem N6:BB K (VN K) AZ:=Xz
def UA:D->D->M D
 |.int i,.int j=>λt=>if FV i j=true then some (.int (i*j),t) else none
 |_,_=>fail
def Qw(K:ib):R2:=rI CMul (λi j=>.int (i*j))
theorem op_mul3{X:Cx}:OpR X (binaryOp .Mult) (Qw X.K):=ZJ
set_option tactic.hygienic true in
theorem XN:BB K (Qw K) UA:=λ{Oo c t σ H x y dx dy r t' Q} f rx ry eq k=>by
 cases rx with
 |int i=>
   cases ry with
   |int j=>
     unfold UA at eq;dsimp only at eq
     split at eq
     .next h=>cases eq;exact⟨i,j,rfl,rfl,Sg h,k _ H c f .refl (.int _)⟩
     .cases eq
   |_=>cases eq
 |_=>cases eq
end
section
variable{K:ib}
section
variable{X:Cx}{e a b:Expr}{pos:Pos}
def Cu(xs:List D):List D->Option (List D)
 |[d]=>if xs.length<LIM then some (xs++[d]) else none
 |_=>none
def Il(xs:List D):List D->Option (List D)
 |[.lst ys]=>if xs.length+ys.length<=LIM then some (xs++ys) else none
 |_=>none
def ownM(i:Nat)(h:List D->List D->Option (List D))(g:M (List D)):M Out:=λt=>match t.env[i]? with
 | some (some (.own _))=>bnd g (λds t1=>match t1.env[i]? with
   |some (some (.own xs))=>(h xs ds).map λys=>(.next,{t1 with env:=t1.env.set i (some (.own ys))})
   |_=>none) t
 |_=>none
def PB(K:ib)(R:V->List V->Hp->VK->Prop)(h:List D->List D->Option (List D)):Prop:=∀{c:Cf}{S:List Ob}{H:Hp}{a:ig}{vs us:List V}{xs ds ys:List D}{Q:VK},SInv K c S H->H a=some (.lst vs)->Reps K c H vs xs->Reps K c H us ds->h xs ds=some ys->
 (∀ws,Reps K c H ws ys->Q .non (upd H a (.lst ws)))->R (.ref a) us H Q
set_option tactic.hygienic true in
theorem Pf:PB K O9 Cu:=λ{c S H a vs us xs ds ys Q} s h r rs e k=>by
 unfold Cu at e
 split at e
 .next d=>
  split at e
  .next hl=>
   cases e
   clear 5(FD rs)v rfl rv;exact⟨a,vs,v,rfl,rfl,h,by rw[r.length];exact ue0 hl Dm,k _ (r.append (.cons rv .nil))⟩
  .cases e
 .cases e
def Qu(K:ib):V->List V->Hp->VK->Prop:=Pa
theorem O2{X:Cx}:MtM X "list.extend" (Qu X.K):=Se
set_option tactic.hygienic true
theorem XB:PB K (Qu K) Il:=λ{c S H a vs us xs ds ys Q} s h r rs e k=>by
 unfold Il at e
 split at e
 .split at e
  .next hl=>
   cases e
   clear 5(FD rs)v rfl rv
   obtain⟨_,_,rfl,h1,h2,h3⟩:=rv.rv
   exact⟨a,_,vs,_,rfl,rfl,h,h1,by rw[r.length,h3.length];exact uk9 hl Dm,k _ (r.append h3)⟩
  .cases e
 .cases e
theorem RS.ownM{μ:Cf->Hp->D->(V->Hp->Prop)->Prop}{K:ib}{i:Nat}{h:List D->List D->Option (List D)}{g:M (List D)}{R:V->List V->Hp->VK->Prop}(s:PB K R h){E:Ends}{σ:L2.St}{H:Hp}(q:RSg K μ (L2.ownM i h g) E σ H):VU (tBM K "list" R (aF i) (RA K g)) E σ H:=by
 clear 5 q Oo c t fi o t' eq k;unfold L2.ownM at eq
 split at eq
 .next xs0 e0=>
  clear 5(Af eq)ds t1 e1 eq;clear 5(fi.own i xs0 e0)a vs0 h1 h2 h3 h4 h5;refine⟨.ref a,h1,.inl ⟨rfl,vs0,SqL.of h4⟩,Oo,c,t,fi,ds,t1,e1,λus H1 c1 f1 s1 rus=>?_⟩
  split at eq
  .next xs ex=>
   clear 5(uc2.mp eq)ys ey ez
   cases ez
   clear 5(f1.own i xs ex)a' vs g1 g2 g3 g4 g5;rw[h1] at g1;injection g1 with g1;injection g1 with g1;injection g1 with g1;subst g1
   refine s f1.s g4 g5 rus ey λws rws=>?_;clear 5(f1.wrOwn ex h1 rws)f2 s2;exact k σ _ c1 f2 (s1.trans s2)
  .cases eq
 .cases eq
set_option tactic.hygienic false
theorem Ru{μ:Cf->Hp->D->(V->Hp->Prop)->Prop}(i:Nat){x:Str}{es:List Expr}{g:M (List D)}{px apos cpos:Pos}(ha:PA X (e::es) (RA X.K g))(hN:X.N[i]?=some x:=by rfl)(hv:Vis X.env.scope x:=by walk_at"h")(hd:(x==("__debug__":Str))=false:=by decide)
 (hcd:(x==("__classdict__":Str))=false:=by decide)
 (hbase:attributeBase (.Name x px) "append" X.env (eval (.Name x px) X.env)=eval (.Name x px) X.env:=by rfl)
 (hfew:((backTo cpos (starEach (e::es) X.env)).all (λx=>!x.1)&&(backToKw cpos (keywordEach [] X.env)).all (λx=>x.1.isSome)&&decide ((e::es).length+([]:List Keyword).length+(if ([]:List Keyword).isEmpty then 0 else 1)<30))=true:=by rfl)
 (hline:(apos.endLine==cpos.line)=true:=by rfl) (hs:starEach (e::es) X.env=(false,eval e X.env)::starEach es X.env:=by rfl) (hplain:(backTo cpos (starEach es X.env)).any (·.1)=false:=by rfl) :
 PS X (.Expr (.Call (.Attribute (.Name x px) "append" apos) (e::es) [] cpos) pos) (RSg X.K μ (ownM i Cu g)):=
 Br (LO (KQ ub6 jg jh Mq (Dc hN hv hd hcd) ha hbase hfew hline hs hplain)) λ_ _ _ q=>RS.ownM Pf q
theorem Rv{μ:Cf->Hp->D->(V->Hp->Prop)->Prop}(i:Nat){x:Str}{es:List Expr}{g:M (List D)}{px apos cpos:Pos}(ha:PA X (e::es) (RA X.K g))(hN:X.N[i]?=some x:=by rfl)(hv:Vis X.env.scope x:=by walk_at"h")(hd:(x==("__debug__":Str))=false:=by decide)
 (hcd:(x==("__classdict__":Str))=false:=by decide)
 (hbase:attributeBase (.Name x px) "extend" X.env (eval (.Name x px) X.env)=eval (.Name x px) X.env:=by rfl)
 (hfew:((backTo cpos (starEach (e::es) X.env)).all (λx=>!x.1)&&(backToKw cpos (keywordEach [] X.env)).all (λx=>x.1.isSome)&&decide ((e::es).length+([]:List Keyword).length+(if ([]:List Keyword).isEmpty then 0 else 1)<30))=true:=by rfl)
 (hline:(apos.endLine==cpos.line)=true:=by rfl) (hs:starEach (e::es) X.env=(false,eval e X.env)::starEach es X.env:=by rfl) (hplain:(backTo cpos (starEach es X.env)).any (·.1)=false:=by rfl) :
 PS X (.Expr (.Call (.Attribute (.Name x px) "extend" apos) (e::es) [] cpos) pos) (RSg X.K μ (ownM i Il g)):=
 Br (LO (KQ ub6 ji jk O2 (Dc hN hv hd hcd) ha hbase hfew hline hs hplain)) λ_ _ _ q=>RS.ownM XB q
def objM(h:List D->List D->Option (List D))(f:M D)(g:M (List D)):M D:=bnd f λo=>match o with
 |.obj k=>λt=>match t.S[k]? with
   | some (.lst _)=>bnd g (λds t1=>match t1.S[k]? with
     |some (.lst xs)=>(h xs ds).map λys=>(.non,{t1 with S:=t1.S.set k (.lst ys)})
     |_=>none) t
   |_=>none
 |_=>fail
set_option tactic.hygienic true in
theorem RE.objM{K:ib}{h:List D->List D->Option (List D)}{f:M D}{g:M (List D)}{R:V->List V->Hp->VK->Prop}(s:PB K R h){σ:L2.St}{H:Hp}{Q:VK}(q:RE K (L2.objM h f g) σ H Q):tBM K "list" R (RE K f) (RA K g) σ H Q:=by
 clear 5 q Oo c t fi r t' eq k;clear 5(Af eq)o t0 e0 eq;refine⟨Oo,c,t,fi,o,t0,e0,λx H0 c0 f0 s0 rx=>?_⟩
 cases rx with
 |@obj a kk hk=>
   dsimp only at eq
   split at eq
   .next xs0 ex0=>
    clear 5(Af eq)ds t1 e1 eq;clear 5(f0.s.obs kk a _ hk ex0)vs0 g0 g0';refine⟨.inl ⟨rfl,vs0,SqL.of g0⟩,Oo,c0,t0,f0,ds,t1,e1,λus H1 c1 f1 s1 rus=>?_⟩
    split at eq
    .next xs ex=>
     clear 5(uc2.mp eq)ys ey ez
     cases ez
     have hk1:=s1.ext.io _ _ hk;clear 5(f1.s.obs kk a _ hk1 ex)vs g1 g2;refine s f1.s g1 g2 rus ey λws rws=>?_;obtain⟨f2,s2⟩:=f1.wrObj (o:=.lst ys) (u:=.lst ws) hk1 λc' H' ext hu=>⟨ws,hu,rws.mono ext⟩;exact k _ _ c1 f2 ((s0.trans s1).trans s2) .non
    .cases eq
   .cases eq
 |_=>cases eq
theorem Ri{o:Expr}{es:List Expr}{f:M D}{g:M (List D)}{apos cpos:Pos}(ho:PE X o (RE X.K f))(ha:PA X (e::es) (RA X.K g))
 (hbase:attributeBase o "append" X.env (eval o X.env)=eval o X.env:=by rfl)
 (hfew:((backTo cpos (starEach (e::es) X.env)).all (λx=>!x.1)&&(backToKw cpos (keywordEach [] X.env)).all (λx=>x.1.isSome)&&decide ((e::es).length+([]:List Keyword).length+(if ([]:List Keyword).isEmpty then 0 else 1)<30))=true:=by rfl)
 (hline:(apos.endLine==cpos.line)=true:=by rfl) (hs:starEach (e::es) X.env=(false,eval e X.env)::starEach es X.env:=by rfl) (hplain:(backTo cpos (starEach es X.env)).any (·.1)=false:=by rfl) :
 PE X (.Call (.Attribute o "append" apos) (e::es) [] cpos) (RE X.K (objM Cu f g)):=
 AH (KQ ub6 jg jh Mq ho ha hbase hfew hline hs hplain) λ_ _ _ q=>RE.objM Pf q
def GW(o i d:D):M Unit:=match o,i with
 |.obj k,.int j=>λt=>match t.S[k]? with
   |some (.lst xs)=>(ixN xs.length j).map λn=>((),{t with S:=t.S.set k (.lst (xs.set n d))})
   |_=>none
 |_,_=>fail
def stD(f g:M D)(d:D):M Unit:=bnd f λo=>bnd g λi=>GW o i d
set_option tactic.hygienic true in
theorem YX{o i:Expr}{f g:M D}(ho:PE X o (RE X.K f))(hi:PE X i (RE X.K g))
 (ha:∀v,assign (.Subscript o i pos) X.env v=(do
   let ov <-holding [v] (eval o X.env)
   let iv <-holding [v,ov] (eval i X.env)
   standAt pos
   holding [v,ov,iv] (setItem ov iv v)
   release [v,ov,iv] []):=by intro _;rfl):PG X (.Subscript o i pos) (RG X.K (stD f g)):=
 Kf (Sy ho hi U9 ha) λv σ H Q z9=>by
  clear 5 z9 Oo c t d fi rv t' eq k;clear 5(Af eq)d0 t1 e1 eq;clear 5(Af eq)di t2 e2 eq;refine⟨Oo,c,t,fi,_,t1,e1,λx H1 c1 f1 s1 rx=>⟨Oo,c1,t1,f1,di,t2,e2,λy H2 c2 f2 s2 ry=>?_⟩⟩;unfold GW at eq
  split at eq
  .cases ry with
   |int j=>
   obtain⟨a,rfl,hk⟩:=rx.rv
   split at eq
   .next xs ex=>
    clear 5(uc2.mp eq)n en ez
    cases ez
    have hk2:=s2.ext.io _ _ hk;clear 5(f2.s.obs _ a _ hk2 ex)vs g1 g2;refine⟨a,vs,_,n,rfl,rfl,g1,by rw[g2.length];exact en,?_⟩;have rv2:=rv.mono (s1.trans s2).ext;obtain⟨f3,s3⟩:=f2.wrObj (o:=.lst (xs.set n d)) (u:=.lst (vs.set n v)) hk2 λc' H' ext hu=>⟨_,hu,(Reps.set rv2 n g2).mono ext⟩;exact k σ _ c2 f3 ((s1.trans s2).trans s3)
   .cases eq
  .cases eq
end
section
variable{X:Cx}{e a b tg iter elt:Expr}{ifs:List Expr}{pos:Pos}{scope:Scope}{N':List Str}{n:Nat}{fr:List Nat}{f:M (List D)}{st:D->M Unit}{tst:M Bool}{el:M D}
def EU:M Bool:=ret true
theorem Wn:PIf X [] (RT X.K EU):=λic s σ H Q I z9=>by
 clear 5 z9 Oo c t fi r t' eq k;exact Xg ic s σ H Q I (by cases eq;exact k H c fi .refl)
theorem Wo{g:M Bool}(h:PT X e (RT X.K g)):PIf X [e] (RT X.K g):=Xh h
theorem G4(O:CmpOk X scope N' (Fq n fr))(hc:X.calm=true)(hi:PI X tg iter (RI X.K f))
 (hg:∀cl C s2 H2 fp,PG (BY X N' scope cl C s2 H2 fp) tg (RG X.K st)) (ht:∀cl C s2 H2 fp,PIf (BY X N' scope cl C s2 H2 fp) ifs (RT X.K tst)) (he:∀cl C s2 H2 fp,PE (BY X N' scope cl C s2 H2 fp) elt (RE X.K el))
 (hs:∀x,foldedSetIterable iter X.env x=pure x:=by intro _;rfl):PE X (.ListComp elt [⟨tg,iter,ifs,0⟩] scope pos) (RF X.K (Ca n fr f st tst el)):=
 AH (LL O hc hi hg ht he hs) λ_ _ _ q=>RF.comp q
theorem E8(tgs:List Str)(frn:List (Nat×Str))(hk:scope.kind=.function)(hcell:(scope.names.all λy=>y.2 != .cell)=true)(hloc:(scope.names.all λy=>y.2 != .local||scope.names.lookup y.1==some .local)=true)
 (hfree:(scope.names.all λy=>y.2 != .free||X.env.kindOf y.1==some .cell||X.env.kindOf y.1==some .free)=true)
 (hf:(frn.all λp=>X.N[p.1]?==some p.2&&scope.names.lookup p.2==some .free)=true):CmpOk X scope (tgs++frn.map (·.2)) (Fq tgs.length (frn.map (·.1))):=by
 rw[uh0] at hcell hloc hfree hf;refine⟨hk,λy hy=>by simpa using hcell y hy,λy hy hl=>?_,λy hy hl=>?_,λσ _=>by simp[Fq],λσ j x v h1 h2=>?_⟩
 .have:=hloc y hy;simpa[hl] using this
 .have:=hfree y hy;simpa[hl] using this
 .unfold Fq at h2
  by_cases hj:j<tgs.length
  .rw[ub0 (by simpa using hj),ub5] at h2
   split at h2<;>simp at h2
  .rw[ua5 (by simpa using hj),uc7,uf2,uf2] at h2;rw[ua5 (by simpa using hj),uf2] at h1
   cases e:frn[j-tgs.length]? with
   |none=>rw[e] at h1;cases h1
   |some p=>
     rw[e] at h1 h2;simp only[ui6,uf8] at h1 h2;have hp:=hf p (ud3 e);rw[ug8] at hp;refine⟨p.1,by rw[<-h1];simpa using hp.1,?_,by rw[<-h1];simpa using hp.2⟩
     cases e2:σ[p.1]? with
     |none=>rw[e2] at h2;cases h2
     |some o=>rw[e2] at h2;simpa using h2
end
mutual
noncomputable def Bu:D->Bool
 |.tup xs=>FR xs
 |.lst xs=>FR xs
 |.obj _=>false
 |.scr _=>false
 |.exc _ _=>false
 |_=>true
noncomputable def FR:List D->Bool
 |[]=>true
 |d::r=>Bu d&&FR r
end
def c0:Cf:=⟨[],λ_=>False⟩
theorem Lm(a:ig):¬c0.A a:=λh=>h.elim (λz=>nomatch z) λz=>z
mutual
theorem He{K:ib}{c:Cf}{H:Hp}{v:V}{d:D}(r:Rep K c H v d)(p:Bu d=true):Rep K c0 H v d:=by
 cases r with
 |non=>exact .non
 |bl b=>exact .bl b
 |int i=>exact .int i
 |str x=>exact .str x
 |ty n=>exact .ty n
 |tup h n r=>exact .tup h (Lm _) (Jm r (by simpa[Bu] using p))
 |lst h n r=>exact .lst h (Lm _) (Jm r (by simpa[Bu] using p))
 |scr h=>simp[Bu] at p
 |dic h n=>exact .dic h (Lm _)
 |obj h=>simp[Bu] at p
 |exc _ _ _ _ _=>simp[Bu] at p
theorem Jm{K:ib}{c:Cf}{H:Hp}{vs:List V}{ds:List D}(r:Reps K c H vs ds)(p:FR ds=true):Reps K c0 H vs ds:=by
 cases r with
 |nil=>exact .nil
 |cons h t=>
   simp only[FR,ug8] at p;exact .cons (He h p.1) (Jm t p.2)
end
noncomputable def Cj(S:List Ob):D->D
 |.obj k=>match S[k]? with
   |some (.lst ds)=>.lst ds
   |_=>.obj k
 |d=>d
noncomputable def P4:D->Bool
 |.obj _=>true
 |_=>false
def eqS(g:Bool->Bool)(x y:D):M D:=λt=>
 if (P4 x||P4 y)=true then(if (Bu (Cj t.S x)&&Bu (Cj t.S y))=true then(eqN EQD (Cj t.S x) (Cj t.S y)).map λb=>(.bl (g b),t) else none)
 else(eqN EQD x y).map λb=>(.bl (g b),t)
set_option tactic.hygienic true
theorem Ci{c:Cf}{S:List Ob}{H:Hp}{v:V}{d:D}(s:SInv K c S H)(r:Rep K c H v d)(p:Bu (Cj S d)=true):Rep K c0 H v (Cj S d):=by
 cases r with
 |@obj a k hk=>
   unfold Cj at p⊢;dsimp only at p⊢
   split
   .next ds e=>
    rw[e] at p;clear 5(s.obs k a _ hk e)vs h1 h2;exact .lst h1 (Lm _) (Jm h2 (by simpa[Bu] using p))
   .next h=>
    split at p
    .next ds e=>exact absurd e (h ds)
    .simp[Bu] at p
 |non=>exact .non
 |bl b=>exact .bl b
 |int b=>exact .int b
 |str b=>exact .str b
 |ty b=>exact .ty b
 |tup h n q=>exact He (.tup h n q) p
 |lst h n q=>exact He (.lst h n q) p
 |scr h=>exact He (c:=c) (.scr h) p
 |dic h n=>exact He (.dic h n) p
 |exc a b n f q=>exact He (.exc a b n f q) p
theorem Jq{g:Bool->Bool}:BB K (Qt K g) (eqS g):=λ{Oo c t σ H x y dx dy r t' Q} f rx ry eq k=>by
 unfold eqS at eq
 split at eq
 .split at eq
  .next hp=>
   rw[ug8] at hp;clear 5(uc2.mp eq)b e1 e2
   cases e2
   exact⟨c0,_,_,b,Ci f.s rx hp.1,Ci f.s ry hp.2,e1,k _ H c f .refl (.bl (g b))⟩
  .cases eq
 .obtain⟨b,e1,e2⟩:=uc2.mp eq
  cases e2
  exact⟨c,dx,dy,b,rx,ry,e1,k _ H c f .refl (.bl (g b))⟩
set_option tactic.hygienic false
theorem R7{H:Hp}{a:ig}{ns:List Int}{f:Fn}{S':List Ob}(hO:Px H)(hS:SqL K H a (ns.map V.int))(e:f [.scr ns] []=some (.bl true,S')):spF K f [.ref a] H (λv _=>v=.bl true) λ_ _ _=>False:=by
 refine⟨c0,[.scr ns],[],⟨rfl,List.Pairwise.nil,λk a o h=>by simp[c0] at h,λb z=>z.elim,λb z=>z.elim⟩,.cons (.scr ?_) .nil,.bl true,S',e,λv H' c' _ _ _ rv=>by cases rv;rfl⟩;rcases hS with (h|h)|h
 .rcases hO a with z|⟨o,xs,z⟩
  .rw[z] at h;cases h
  .rw[z] at h;cases h
 .exact .inl ⟨h,Lm _⟩
 .exact .inr h
end
section
variable{prog:im}{w:ir}{A:Around}{E:ie->ij->Prop}{s:ij}
theorem Kz{it l:ig}{items:Array ie}(hne:l≠it):∀(n i:Nat) (s:ij) (Q:List ie->ij->Prop),s.heap.IsListIter it l i->s.heap.IsList l items->i+n<=items.size->
 (∀h',h'.IsListIter it l (i+n)->Heap.SameBut it s.heap h'->Q ((items.toList.drop i).take n) {s with heap:=h'})->wpAny (model prog w) A (draw (.ref it) n) Q E s
 |0,i,s,Q,hit,_,_,hQ=>ul9 (by simpa using hQ s.heap hit (Heap.SameBut.refl ..))
 |n+1,i,s,Q,hit,ht,hle,hQ=>by
   have hlt:i<items.size:=by lia
   refine ul8 (wpAny_pyNext_list_item hit ht (x:=items[i]) (by simp[hlt]) λh1 hit1 hs1=>?_);refine ul8 (uk6 (Kz hne n (i+1) _ _ hit1 (ht.extBut hs1.extBut hne) ∅ λh2 hit2 hs2=>ul9 ?_));have hd:items.toList.drop i=items[i]::items.toList.drop (i+1):=by simp[ub1,hlt]
   have:=hQ h2 (by rw[show i+(n+1)=i+1+n by lia];exact hit2) (hs1.trans hs2);rw[hd,List.take_succ_cons] at this;exact this
theorem Og{l:ig}{items:Array ie}{targets:List (Bool×(ie->Sem Unit))}{Q:Unit->ij->Prop}(hh:A.handled=none)(ht:s.heap.IsList l items)(hn:targets.length=items.size)(hstar:targets.findIdx? (·.1)=none)
 (h:∀h',Heap.ExtBut s.heap.objs.size s.heap h'->wpAny (model prog w) A (assignInOrder (targets.map (·.2)) items.toList) Q E {s with heap:=h'}):wpAny (model prog w) A (unpack (.ref l) targets) Q E s:=by
 have hlt:l≠s.heap.objs.size:=by obtain⟨o,ho,_⟩:=ht;exact uk8 (uk7 ho)
 unfold unpack;rw[hn,hstar];refine ul8 (uk6 ?_);unfold unpackItems;refine ul8 ?_;unfold notIterableAtAll;refine ul8 (wpAny_specialOf ht.typeIs PySem.F.slot_list_iter.lookup ?_);refine ul9 ?_;simp only[ue6,lF];refine ul8 (uk6 (wpAny_pyIter_list ht ?_));have hp:Heap.IsList (s.heap.push {cls:=.type "list_iterator",data:=.fields #[.ref l,.int 0 0]}) l items:=by
  clear 5 ht o ho r;exact⟨o,ub9 _ ho,r⟩
 refine ul8 (uk6 (Kz hlt items.size 0 _ _ ⟨_,ud6 _ rfl,rfl,rfl⟩ hp ∅ λh1 hit1 hs1=>?_));have hall:List.take items.size (List.drop 0 items.toList)=items.toList:=by
  rw[uj3];exact uc3 (by simp)
 rw[hall];rw[lK (by simp)];have ht1:Heap.IsList h1 l items:=hp.extBut hs1.extBut hlt;refine ul8 (uk6 (wpAny_pyNext_list_end hh hit1 ht1 (by simp) λh2 he2=>?_));simp only[Option.isSome_none,ue6,lF];exact ul9 (h h2 λb o hb e=>he2 b o hb (hs1.extBut b o hb (ub9 _ e)))
end
section
variable{X:Cx}{pos:Pos}
def gUn(K:ib)(n:Nat)(t:TGs):TG:=λv σ H Q=>∃a xs,v=.ref a/\(SqT K H a xs\/SqL K H a xs)/\xs.length=n/\t xs σ H Q
theorem bO{es:List Expr}{k:Nat}{t:TGs}{n:Nat}(hc:X.calm=true)(h:PGs X es t)
 (hn:(assignEach es X.env).length=n:=by rfl) (hst:(assignEach es X.env).findIdx? (·.1)=none:=by rfl):PG X (.Tuple es k pos) (gUn X.K n t):=by
 intro ic s σ H v u Q I r hw;obtain⟨a,xs,e1,hq|hq,hl,hw⟩:=hw
 .exact ZZ hc h hn hst ic s σ H v u Q I r ⟨a,xs,e1,hq,hl,hw⟩
 .subst e1
  cases r
  clear 5(I.list hq)its rv ht hz;rw[assign_Tuple];refine ul8 (kx (Og (I.ok.hd hc) ht.isList (by simp[hn,<-hl,rv.length]) hst λh' hx=>?_));have I1:Inv X ic σ H {s with heap:=h'}:=I.kept (t':=s.toks) λb o e=>hx b o (uk8 (uk7 e)) e;exact h ic _ σ H xs _ Q I1 (by simpa using rv) hw
end
section
open HT
variable{prog:im}{w:ir}{A:Around}{E:ie->ij->Prop}{s:ij}
end
section
variable{X:Cx}
end
noncomputable def Its(z:Str):It:=⟨λi _=>i<z.cps.size,λi H x H'=>H'=H/\∃c,z.cps[i]?=some c/\x=.str ⟨#[c]⟩,λi _=>i=z.cps.size⟩
theorem Of{P:im}{w:ir}{K:ib}{tg:Expr}{T:String}{x:Str}{t:Tok}(it:ig)(hT:["enumerate", "zip", "dict_itemiterator", "dict_reverseitemiterator", "odict_iterator", "itertools.zip_longest", "itertools.pairwise"].contains T=false)
 (W:∀A:Around,A.handled=none->Walks P w A it [it] [it] x.cps.size (SignAt x) (λi h=>h.IsStrIter it T x t i))
 (self:∀(A:Around) (i:Nat) (s:ij) (Q:ie->ij->Prop) (E:ie->ij->Prop),s.heap.IsStrIter it T x t i->Q (.ref it) s->wpAny (model P w) A (pyIter (.ref it)) Q E s) :
 Turn P w K tg (Its x) [it] it (λi h=>h.IsStrIter it T x t i) where
 mem:=by simp
 obj:=λi h st b hb=>by
  have e:b=it:=by simpa using hb
  subst e;clear 5 st o e c d;exact⟨o,e,λv z=>by rw[d] at z;cases z⟩
 keep:=λi h h' st k=>by
  clear 5 st o e r;exact⟨o,k it (by simp) o e,r⟩
 item:=by
  intro X hP hw hK hc i ic s σ H E I hf st hg;subst hP hw hK;clear 5(hf it (by simp))f0 f1 f2 f3 f4 f5;refine(W X.A (I.ok.hd hc)).item i s _ _ hg st λv h' tk hv st' kk=>?_;clear 5 hv c u hcc rfl;have I1:Inv X ic σ H {s with heap:=h',toks:=tk}:=I.turned (λb o hb e=>kk b o (by simpa using hb) e) f0 f1 f3 f4 f5;clear 5(id st')o e ec ed;exact⟨_,rfl,MT (s:={s with heap:=h',toks:=tk}) e ec ed hT ⟨.str ⟨#[c]⟩,H,I1,⟨u,rfl⟩,⟨rfl,c,hcc,rfl⟩,st',λb hb=>(hf b hb).1⟩⟩
 done:=by
  intro X hP hw hK hc i ic s σ H E I hf st hg;subst hP hw hK;clear 5(hf it (by simp))f0 f1 f2 f3 f4 f5;have hg':i=x.cps.size:=hg;subst hg';exact(W X.A (I.ok.hd hc)).done s _ _ st λh' tk kk=>⟨rfl,I.turned (λb o hb e=>kk b o (by simpa using hb) e) f0 f1 f3 f4 f5⟩
 self:=λA i s Q E st h=>self A i s Q E st h
section
variable{X:Cx}{tg:Expr}{pos:Pos}
def d5(K:ib)(tl:TE):TI:=λσ H R=>tl σ H λx H1=>(∃a,x=.ref a/\(∃xs,SqL K H1 a xs)/\R (Itl K a) H1)\/(∃a,x=.ref a/\(∃xs,SqT K H1 a xs)/\R (Itt K a) H1)\/∃z,x=.str z/\R (Its z) H1
theorem Sz{l:Expr}{tl:TE}(hl:PE X l tl):PI X tg l (d5 X.K tl):=by
 intro ic s σ H R I h;refine thn (hl ic s σ H _ I h) λv s1 z9=>?_;clear 5 z9 x H1 I1 r1 q1;have fp:∀b∈[s1.heap.objs.size],FpOk X ic H1 b:=λb hb=>by
  have e:b=s1.heap.objs.size:=by simpa using hb
  subst e;exact I1.fpOk (ul4 _) (I1.hok.fresh (ul4 _))
 rcases q1 with⟨a,rfl,⟨xs,hq⟩,q⟩|⟨a,rfl,⟨xs,hq⟩,q⟩|⟨z,rfl,q⟩
 .cases r1
  clear 5(I1.list hq)its rv p hz;refine wpAny_pyIter_list p.isList ?_;exact⟨s1.heap.objs.size,[s1.heap.objs.size],_,_,H1,rfl,I1.kept (t':=s1.toks) λb o e=>ub9 _ e,Tk a _,⟨_,ud6 _ rfl,rfl,rfl⟩,fp,q⟩
 .cases r1
  clear 5(I1.tuple hq)its rv p hz;refine wpAny_pyIter_tuple (show s1.heap.IsTuple a its.toArray from p) ?_;exact⟨s1.heap.objs.size,[s1.heap.objs.size],_,_,H1,rfl,I1.kept (t':=s1.toks) λb o e=>ub9 _ e,QH a _,⟨_,ud6 _ rfl,rfl,rfl⟩,fp,q⟩
 .obtain⟨t,rfl⟩:=r1
  cases ha:z.cps.all (· < 128)
  .refine wpAny_pyIter_wide ha ?_;exact⟨s1.heap.objs.size,[s1.heap.objs.size],_,_,H1,rfl,I1.kept (t':=s1.toks) λb o e=>ub9 _ e,Of (T:="str_iterator") (x:=z) (t:=t) _ (by decide) (λA hA=>Walks.strWide hA _ z t) (λ_ _ _ _ _ st h=>wpAny_pyIter_striter_wide st h),⟨_,ud6 _ rfl,rfl,rfl⟩,fp,q⟩
  .refine wpAny_pyIter_ascii ha ?_;exact⟨s1.heap.objs.size,[s1.heap.objs.size],_,_,H1,rfl,I1.kept (t':=s1.toks) λb o e=>ub9 _ e,Of (T:="str_ascii_iterator") (x:=z) (t:=t) _ (by decide) (λA hA=>Walks.strAscii hA _ z t) (λ_ _ _ _ _ st h=>wpAny_pyIter_striter_ascii st h),⟨_,ud6 _ rfl,rfl,rfl⟩,fp,q⟩
def VQ:R2:=λx y H Q=>∃z k,x=.str z/\y=.int k/\MulOk z k/\Q (.str (Txt.mul z k)) H
theorem W5:OpR X (binaryOp .Mult) VQ:=by
 intro ic s σ H x y v u Q I rx ry h;clear 5 h z k rfl rfl hk q;clear 5 rx t rfl;clear 5 ry t' rfl;exact SB.mul hk λt2 tk=>⟨.str _,H,I.tok tk,⟨t2,rfl⟩,q⟩
def HF(g:Int->Int->Bool)(h:List Nat->List Nat->Bool):R2:=λx y H Q=>(∃i j,x=.int i/\y=.int j/\Q (.bl (g i j)) H)\/∃i j,x=.str i/\y=.str j/\Q (.bl (h i.cps.toList j.cps.toList)) H
theorem ZH:OpR X (compareOp .Lt) (HF (λi j=>decide (i<j)) λi j=>decide (i<j)):=op_lt.or λic s σ H x y v u Q I rx ry h=>by
 clear 5 h i j rfl rfl q;clear 5 rx t rfl;clear 5 ry t' rfl;exact P.lt_str ⟨.bl _,H,I,rfl,q⟩
theorem Sv:OpR X (compareOp .LtE) (HF (λi j=>decide (i<=j)) λi j=>!(decide (j<i))):=op_le.or λic s σ H x y v u Q I rx ry h=>by
 clear 5 h i j rfl rfl q;clear 5 rx t rfl;clear 5 ry t' rfl;exact P.le_str ⟨.bl _,H,I,rfl,q⟩
theorem ZF:OpR X (compareOp .Gt) (HF (λi j=>decide (j<i)) λi j=>decide (j<i)):=op_gt.or λic s σ H x y v u Q I rx ry h=>by
 clear 5 h i j rfl rfl q;clear 5 rx t rfl;clear 5 ry t' rfl;exact P.gt_str ⟨.bl _,H,I,rfl,q⟩
theorem ZE:OpR X (compareOp .GtE) (HF (λi j=>decide (j<=i)) λi j=>!(decide (i<j))):=op_ge.or λic s σ H x y v u Q I rx ry h=>by
 clear 5 h i j rfl rfl q;clear 5 rx t rfl;clear 5 ry t' rfl;exact P.ge_str ⟨.bl _,H,I,rfl,q⟩
end
def Ec:D->M (List D)
 |.lst ds=>ret ds
 |.scr ns=>ret (ns.map .int)
 |.tup ds=>ret ds
 |.str x=>ret (x.cps.toList.map λc=>.str ⟨#[c]⟩)
 |_=>fail
def EA(f:M D):M (List D):=bnd f Ec
def EC:D->D->M D
 |.str x,.int k=>λt=>if DN k=true/\x.length*k.toNat<=LIM/\k<=LIM/\x.length<=LIM then some (.str (Txt.mul x k),t) else none
 |x,y=>UA x y
def FS:D->Option Int->Option Int->M D:=slD
def Nq(g:Int->Int->Bool)(h:List Nat->List Nat->Bool):D->D->M D
 |.int i,.int j=>ret (.bl (g i j))
 |.str x,.str y=>ret (.bl (h x.cps.toList y.cps.toList))
 |_,_=>fail
def ltA:=Nq (λi j=>decide (i<j)) (λi j=>decide (i<j))
def leA:=Nq (λi j=>decide (i<=j)) (λi j=>!(decide (j<i)))
def gtA:=Nq (λi j=>decide (j<i)) (λi j=>decide (j<i))
def geA:=Nq (λi j=>decide (j<=i)) (λi j=>!(decide (i<j)))
def unS(n:Nat)(g:List D->M Unit):D->M Unit
 |.tup ds=>if ds.length=n then g ds else fail
 |.lst ds=>if ds.length=n then g ds else fail
 |_=>fail
def dQ:M D:=fC .dic
section
variable{tg:Expr}{K:ib}{n:Nat}{g:List D->M Unit}{es:List Expr}
section
variable{X:Cx}{e a b:Expr}{pos:Pos}{st:Stmt}
theorem ItOk.str{K:ib}{c:Cf}{H:Hp}{x:Str}:ItOk K (Its x) c H (x.cps.toList.map λc=>.str ⟨#[c]⟩):=by
 refine⟨λc' H' i ex hi=>?_,λc' H' i y H'' d ex hd hy=>?_,λc' H' ex=>?_⟩
 .show i<x.cps.size;simpa using hi
 .clear 5 hy rfl n hn rfl;refine⟨rfl,?_⟩;have:d=.str ⟨#[n]⟩:=by
   rw[uf2] at hd;have hn':x.cps.toList[i]?=some n:=by simpa using hn
   rw[hn'] at hd;simpa using hd.symm
  rw[this];exact .str _
 .show _=x.cps.size;simp
theorem YZ{f:M D}(h:PE X e (RE X.K f)):PI X tg e (RI X.K (EA f)):=
 HY (Sz h) λσ H R z9=>by
  clear 5 z9 Oo c t fi ds t' eq k;clear 5(Af eq)d t1 e1 eq;refine⟨Oo,c,t,fi,d,t1,e1,λv H1 c1 f1 s1 rv=>?_⟩
  cases rv with
  |@lst p vs ds' h1 h2 h3=>
    cases eq
    exact .inl ⟨p,rfl,⟨vs,SqL.of h1⟩,k _ H1 c1 f1 s1 (ItOk.lst λc' H' ex=>⟨vs,SqL.of (ex.keep _ _ h1 h2),h3.mono ex⟩)⟩
  |@scr p ns h1=>
    cases eq
    exact .inl ⟨p,rfl,⟨_,h1.sq⟩,k _ H1 c1 f1 s1 (ItOk.lst λc' H' ex=>⟨_,(h1.mono ex).sq,Reps.ints ns⟩)⟩
  |@tup p vs ds' h1 h2 h3=>
    cases eq
    exact .inr (.inl ⟨p,rfl,⟨vs,SqT.of h1⟩,k _ H1 c1 f1 s1 (ItOk.tup λc' H' ex=>⟨vs,SqT.of (ex.keep _ _ h1 h2),h3.mono ex⟩)⟩)
  |str x=>
    cases eq
    exact .inr (.inr ⟨x,rfl,k _ H1 c1 f1 s1 ItOk.str⟩)
  |_=>cases eq
theorem RG.un{v:V}{σ:L2.St}{H:Hp}{Q:L2.St->Hp->Prop}(q:RG K (unS n g) v σ H Q):gUn K n (RGs K g) v σ H Q:=by
 clear 5 q Oo c t d fi rv t' eq k
 cases rv with
 |@tup a vs ds h1 h2 h3=>
   unfold unS at eq
   by_cases hn:ds.length=n
   .dsimp only at eq;rw[lJ hn] at eq;exact⟨a,vs,rfl,.inl (SqT.of h1),by rw[h3.length];exact hn,Oo,c,t,ds,fi,h3,t',eq,k⟩
   .dsimp only at eq;rw[lK hn] at eq;cases eq
 |@lst a vs ds h1 h2 h3=>
   unfold unS at eq
   by_cases hn:ds.length=n
   .dsimp only at eq;rw[lJ hn] at eq;exact⟨a,vs,rfl,.inr (SqL.of h1),by rw[h3.length];exact hn,Oo,c,t,ds,fi,h3,t',eq,k⟩
   .dsimp only at eq;rw[lK hn] at eq;cases eq
 |_=>cases eq
theorem bv{k:Nat}(hc:X.calm=true)(h:PGs X es (RGs X.K g))(hn:(assignEach es X.env).length=n:=by rfl)(hst:(assignEach es X.env).findIdx? (·.1)=none:=by rfl):PG X (.Tuple es k pos) (RG X.K (unS n g)):=
 Kf (bO hc h hn hst) λ_ _ _ _ q=>RG.un q
theorem T5{f:D->M Unit}(h1:PG X e (RG X.K f))(h2:PGs X es (RGs X.K g))(hs:(assignEach (e::es) X.env).map (·.2)=assign e X.env::(assignEach es X.env).map (·.2):=by rfl):PGs X (e::es) (RGs X.K (AA f g)):=
 OA (UN h1 h2 hs) λ_ _ _ _ q=>RGs.cons q
end
section
variable{K:ib}
def VP(K:ib):R2:=λx y H Q=>Qw K x y H Q\/VQ x y H Q
theorem W4{X:Cx}:OpR X (binaryOp .Mult) (VP X.K):=op_mul3.or W5
theorem Ox{x:Str}{k:Int}(h:DN k=true/\x.length*k.toNat<=LIM/\k<=LIM/\x.length<=LIM):MulOk x k:=by
 clear 5(GJ h.1)g1 g2;have hL:LIM=100000:=rfl;refine⟨?_,λh1 _=>?_,λh1 _=>?_⟩
 .rw[Bool.or_eq_false_iff];exact⟨ui9 ∅,ui9 ∅⟩
 .have h2:k<=100000:=by have:=h.2.2.1;rw[hL] at this;exact this
  have h3:x.length<=100000:=by have:=h.2.2.2;rw[hL] at this;exact this
  have h4:(92233720368547:Int)<=(2 ^ 63-1)/k:=by
   rw[Int.le_ediv_iff_mul_le ∅];lia
  lia
 .have h5:=h.2.1;rw[hL] at h5;unfold Builtin.Str.tooLong
  first|exact ui9 (by unfold sizeLine;lia)|(unfold sizeLine;exact ui9 ∅)
set_option tactic.hygienic true in
theorem U5:BB K (VP K) EC:=λ{Oo c t σ H x y dx dy r t' Q} f rx ry eq k=>by
 unfold EC at eq
 split at eq
 .next z kk=>
  split at eq
  .next h=>
   cases eq
   cases rx
   cases ry
   exact .inr ⟨z,kk,rfl,rfl,Ox h,k _ H c f .refl (.str _)⟩
  .cases eq
 .exact .inl (XN f rx ry eq k)
def UU(K:ib):V->Option Int->Option Int->Hp->VK->Prop:=UT K
theorem sl3{X:Cx}:SlR X (UU X.K):=sl2
theorem Pi:Pz K (UU K) FS:=aq
theorem Jp{g:Int->Int->Bool}{h:List Nat->List Nat->Bool}:BB K (HF g h) (Nq g h):=λ{Oo c t σ H x y dx dy r t' Q} f rx ry eq k=>by
 cases rx with
 |int i=>cases ry with
   |int j=>cases eq;exact .inl ⟨i,j,rfl,rfl,k _ H c f .refl (.bl _)⟩
   |_=>cases eq
 |str i=>cases ry with
   |str j=>cases eq;exact .inr ⟨i,j,rfl,rfl,k _ H c f .refl (.bl _)⟩
   |_=>cases eq
 |_=>cases eq
theorem XJ:BB K (HF (λi j=>decide (i<j)) λi j=>decide (i<j)) ltA:=Jp
theorem Ph:BB K (HF (λi j=>decide (i<=j)) λi j=>!(decide (j<i))) leA:=Jp
theorem XD:BB K (HF (λi j=>decide (j<i)) λi j=>decide (j<i)) gtA:=Jp
theorem XC:BB K (HF (λi j=>decide (j<=i)) λi j=>!(decide (i<j))) geA:=Jp
end
variable{fa:ig}{fd:iu}
theorem Y1{P:im}{w:ir}{mg:Str->Option ie}{base:Heap}{x qual:Str}{st:Stmt}{N ps:List Str}{k m:Nat}{g:M Out}(e1:ps.length=n)(e2:N.length=m)(F:Fun K x qual st fa fd)(S:FnScope N ps (An st))
 (hb:∀(cdv:ie) (A:Around) (outer:List Env) (s:ij) (H:Hp) (E:XK),Room k (A.deeper (PyProof.Rows.envOfC qual (An st) s.heap.objs.size fa cdv))->
   PSs (D5 CX0 P w K mg base N qual (An st) fa cdv A outer s H E).nox (Bq st) (RS K g)):FnOk P w K mg base CX0 (k+1) fa fd ps (spF K (fnOf n m g)):=by
 subst e1 e2;exact bx F S hb
theorem al{P:im}{w:ir}{mg:Str->Option ie}{base:Heap}{ps:List Str}{k:Nat}{f g:Fn}(e:f=g)(h:FnOk P w K mg base CX0 k fa fd ps (spF K g)):FnOk P w K mg base CX0 k fa fd ps (spF K f):=by rw[e];exact h
theorem Yy:bootBuiltins "len" = some (.builtin "len"):=by decide +kernel
theorem FI:bootBuiltins "isinstance" = some (.builtin "isinstance"):=by decide +kernel
theorem Yz:bootBuiltins "ord" = some (.builtin "ord"):=by decide +kernel
theorem Q9:bootBuiltins "int" = some (.type "int"):=by decide +kernel
theorem YA:bootBuiltins "str" = some (.type "str"):=by decide +kernel
theorem V5:bootBuiltins "bool" = some (.type "bool"):=by decide +kernel
theorem OG:bootBuiltins "list" = some (.type "list"):=by decide +kernel
theorem TJ:bootBuiltins "tuple" = some (.type "tuple"):=by decide +kernel
noncomputable def Ba:Expr->Bool
 |.Starred _ _=>true
 |_=>false
theorem A6{e:Expr}{env:Env}(h:Ba e=false):starEach (e::es) env=(false,eval e env)::starEach es env:=by
 cases e<;>first|rfl|cases h
def Bg(es:List Expr):Bool:=es.all λe=>!Ba e
theorem AY:∀{es:List Expr}{env:Env}{p:Pos},Bg es=true->(backTo p (starEach es env)).any (·.1)=false/\(backTo p (starEach es env)).all (λx=>!x.1)=true
 |[],env,p,_=>⟨rfl,rfl⟩
 |e::es,env,p,h=>by
   have h':Ba e=false/\Bg es=true:=by
    rw[Bg,uk1,ug8] at h;exact⟨by simpa using h.1,h.2⟩
   clear 5(AY (es:=es) (env:=env) (p:=p) h'.2)h1 h2;rw[A6 h'.1];refine⟨?_,?_⟩
   .show(false||(backTo p (starEach es env)).any (·.1))=false;rw[h1];rfl
   .show(!false&&(backTo p (starEach es env)).all (λx=>!x.1))=true;rw[h2];rfl
variable{f:M (List D)}{p:Pos}{id:String}{R:List V->Hp->VK->Prop}
section
variable{X:Cx}{e a b:Expr}{es:List Expr}{pos:Pos}
theorem TR{f:M D}{g:M (List D)}(ha:PE X e (RE X.K f))(hr:PA X es (RA X.K g))(hs:Ba e=false:=by rfl):PA X (e::es) (RA X.K (Ab f g)):=Wc ha hr (A6 hs)
theorem TU{k:Nat}{ps:List Str}{g:Fn}{x:Str}(F:FnOk X.prog X.w X.K X.mg X.base CX0 k fa fd ps (spF X.K g))(hr:Room k X.A)(hg:Gl X x)(hm:X.mg x=some (.ref fa))(hk:PySem.W.keepIn X.K (.ref fa)=true)(hb:Binds X.K fd ps [])
 (ha:PA X (e::es) (RA X.K f)) (hdb:(x==("__debug__":Str))=false:=by decide) (h1:Ba e=false:=by rfl) (h2:Bg es=true:=by rfl) :
 PE X (.Call (.Name x p) (e::es) [] pos) (RE X.K (Aj g f)):=Wd F hr hg hm hk hb ha hdb (A6 h1) (AY h2).1
theorem MS{h:List D->M D}{x:Str}(hc:Dv X (.builtin id) R)(s:GN X.K R h)(hg:Gl X x)(hm:X.mg x=none)(hv:bootBuiltins x=some (.builtin id))(ha:PA X (e::es) (RA X.K f))(hn:x≠"__name__":=by decide)(hdb:(x==("__debug__":Str))=false:=by decide)
 (h1:Ba e=false:=by rfl) (h2:Bg es=true:=by rfl):PE X (.Call (.Name x p) (e::es) [] pos) (RE X.K (fB f h)):=dR hc s hg hm hv ha hn hdb (A6 h1) (AY h2).1
theorem bn{h:List D->M D}{x:Str}(hc:Dv X (.type id) R)(s:GN X.K R h)(hg:Gl X x)(hm:X.mg x=none)(hv:bootBuiltins x=some (.type id))(ha:PA X (e::es) (RA X.K f))(hn:x≠"__name__":=by decide)(hdb:(x==("__debug__":Str))=false:=by decide)
 (h1:Ba e=false:=by rfl) (h2:Bg es=true:=by rfl):PE X (.Call (.Name x p) (e::es) [] pos) (RE X.K (fB f h)):=dS hc s hg hm hv ha hn hdb (A6 h1) (AY h2).1
theorem br{h:List D->M (List D)}{x:Str}(hc:Dv X (.type id) R)(s:MO X.K R h)(hg:Gl X x)(hm:X.mg x=none)(hv:bootBuiltins x=some (.type id))(ha:PA X (e::es) (RA X.K f))(hn:x≠"__name__":=by decide)(hdb:(x==("__debug__":Str))=false:=by decide)
 (h1:Ba e=false:=by rfl) (h2:Bg es=true:=by rfl):PE X (.Call (.Name x p) (e::es) [] pos) (RF X.K (fBF f h)):=dU hc s hg hm hv ha hn hdb (A6 h1) (AY h2).1
theorem PV(hg:Gl X "range")(hm:X.mg "range" = none)(ha:PA X [a] (RA X.K f))(h1:Ba a=false:=by rfl):PI X tg (.Call (.Name "range" p) [a] [] pos) (RI X.K (DY f)):=Rr hg hm ha (A6 h1)
theorem PX(hg:Gl X "range")(hm:X.mg "range" = none)(ha:PA X [a,b] (RA X.K f))(h1:Ba a=false:=by rfl)(h2:Ba b=false:=by rfl):PI X tg (.Call (.Name "range" p) [a,b] [] pos) (RI X.K (Hs f)):=
 Rt hg hm ha (by rw[A6 h1,A6 h2];rfl) (A6 h2)
theorem Ro{cpos:Pos}(h1:Ba e=false)(h2:Bg es=true)(h3:es.length<20):((backTo cpos (starEach (e::es) X.env)).all (λx=>!x.1)&&(backToKw cpos (keywordEach [] X.env)).all (λx=>x.1.isSome)&&decide ((e::es).length+([]:List Keyword).length+(if ([]:List Keyword).isEmpty then 0 else 1)<30))=true:=by
 rw[(AY (es:=e::es) (env:=X.env) (p:=cpos) (by rw[Bg,uk1,h1];exact h2)).2];show(true&&true&&decide (es.length+1+0+0<30))=true;simp;lia
theorem PZ{μ:Cf->Hp->D->(V->Hp->Prop)->Prop}(i:Nat){x:Str}{g:M (List D)}{px apos cpos:Pos}(ha:PA X (e::es) (RA X.K g))(hN:X.N[i]?=some x:=by rfl)(hv:Vis X.env.scope x:=by walk_at"h")(hd:(x==("__debug__":Str))=false:=by decide)
 (hcd:(x==("__classdict__":Str))=false:=by decide) (hline:(apos.endLine==cpos.line)=true:=by rfl) (h1:Ba e=false:=by rfl) (h2:Bg es=true:=by rfl) (h3:es.length<20:=by decide) :
 PS X (.Expr (.Call (.Attribute (.Name x px) "append" apos) (e::es) [] cpos) pos) (RSg X.K μ (ownM i Cu g)):=Ru i ha hN hv hd hcd rfl (Ro h1 h2 h3) hline (A6 h1) (AY h2).1
theorem P0{μ:Cf->Hp->D->(V->Hp->Prop)->Prop}(i:Nat){x:Str}{g:M (List D)}{px apos cpos:Pos}(ha:PA X (e::es) (RA X.K g))(hN:X.N[i]?=some x:=by rfl)(hv:Vis X.env.scope x:=by walk_at"h")(hd:(x==("__debug__":Str))=false:=by decide)
 (hcd:(x==("__classdict__":Str))=false:=by decide) (hline:(apos.endLine==cpos.line)=true:=by rfl) (h1:Ba e=false:=by rfl) (h2:Bg es=true:=by rfl) (h3:es.length<20:=by decide) :
 PS X (.Expr (.Call (.Attribute (.Name x px) "extend" apos) (e::es) [] cpos) pos) (RSg X.K μ (ownM i Il g)):=Rv i ha hN hv hd hcd rfl (Ro h1 h2 h3) hline (A6 h1) (AY h2).1
end
end
end L2
namespace HT
open PySem PySem.Spec L2 PyProof.Rows
section
variable{prog:im}{w:ir}{A:Around}{E:ie->ij->Prop}{s:ij}
end
end HT
namespace L2
open PySem PySem.Spec PyProof.Rows
section
variable{X:Cx}{e ek:Expr}{p2 pos:Pos}{te:TE}{tk:TO}
end
section
variable{X:Cx}
theorem Ie:∀{ys:List Str}{us:List ie},Vals (ys.map V.str) us->CarriedAll us (ys.map PyData.str)
 |[],_,r=>by cases r;exact .nil
 |_::_,_,r=>by
   cases r with
   |cons r1 r2=>clear 5 r1 t rfl;exact .cons (.str _ _) (Ie r2)
def VO(K:ib):V->List V->Hp->VK->Prop:=λx xs H Q=>∃z a ys,x=.str z/\xs=[.ref a]/\SqL K H a (ys.map V.str)/\(∀y∈ys,y.length<=8)/\z.length<=8/\ys.length<=1048576/\Q (.str (Txt.join z ys)) H
theorem WR:MtR X "str.join" (VO X.K):=by
 intro ic s σ H x xs v us Q I rx rs h;clear 5 h z a ys rfl rfl ha h1 h2 h3 q;clear 5 rx t rfl;clear 5(HL rs)u rfl ru
 cases ru
 obtain⟨its,r,pl,_⟩:=I.list ha;refine join_madeW (l:=ys) (g:=id) 8 pl.isList (by rw[List.map_id];exact Ie r) h1 h3 ∅ λt' k=>?_;rw[List.map_id];exact⟨.str _,H,I.tok _,⟨_,rfl⟩,q⟩
end
section
variable{X:Cx}
end
section
variable{X:Cx}
end
section
variable{X:Cx}{K:ib}
noncomputable def Gv:List D->Option (List Str)
 |[]=>some []
 |.str x::r=>if x.length<=8 then(Gv r).map (x :: ·) else none
 |_=>none
def joinM(f:M D)(g:M (List D)):M D:=bnd f λo=>bnd g λas=>match o,as with
 |.str z,[.lst ds]=>λt=>match Gv ds with
   |some ys=>if z.length<=8/\ys.length<=1048576 then some (.str (Txt.join z ys),t) else none
   |none=>none
 |_,_=>fail
set_option tactic.hygienic true
theorem Oc{c:Cf}{H:Hp}:∀{ds:List D}{vs:List V}{ys:List Str},Reps K c H vs ds->Gv ds=some ys->vs=ys.map V.str/\∀y∈ys,y.length<=8
 |[],_,ys,r,e=>by
   cases r
   cases e
   exact⟨rfl,λ_ h=>nomatch h⟩
 |d::ds,_,ys,r,e=>by
   cases r with
   |cons r1 r2=>
     cases r1 with
     |str x=>
       unfold Gv at e
       split at e
       .next hx=>
        clear 5(uc2.mp e)zs e1 rfl;clear 5(Oc r2 e1)h1 h2;refine⟨by rw[h1];rfl,λy hy=>?_⟩;rcases uj7.mp hy with rfl|hy
        .exact hx
        .exact h2 y hy
       .cases e
     |_=>cases e
theorem RE.joinM{f:M D}{g:M (List D)}{σ:L2.St}{H:Hp}{Q:VK}(q:RE K (L2.joinM f g) σ H Q):tBM K "str" (VO K) (RE K f) (RA K g) σ H Q:=by
 clear 5 q Oo c t fi r t' eq k;clear 5(Af eq)d t1 e1 eq;clear 5(Af eq)as t2 e2 eq;refine⟨Oo,c,t,fi,d,t1,e1,λv H1 c1 f1 s1 rv=>?_⟩
 split at eq
 .next z ds=>
  cases rv
  refine⟨rfl,Oo,c1,t1,f1,_,t2,e2,λus H2 c2 f2 s2 rus=>?_⟩;clear 5(FD rus)w rfl rw'
  split at eq
  .next ys ey=>
   split at eq
   .next hz=>
    cases eq
    obtain⟨p,vs,rfl,h1,h2,h3⟩:=rw'.rv
    clear 5(Oc h3 ey)h4 h5;subst h4;exact⟨_,p,ys,rfl,rfl,SqL.of h1,h5,hz.1,hz.2,k _ _ c2 f2 (s1.trans s2) (.str _)⟩
   .cases eq
  .cases eq
 .cases eq
set_option tactic.hygienic false
theorem Wh{o e:Expr}{es:List Expr}{f:M D}{g:M (List D)}{apos cpos:Pos}(ho:PE X o (RE X.K f))(ha:PA X (e::es) (RA X.K g))
 (hbase:attributeBase o "join" X.env (eval o X.env)=eval o X.env:=by rfl)
 (hfew:((backTo cpos (starEach (e::es) X.env)).all (λx=>!x.1)&&(backToKw cpos (keywordEach [] X.env)).all (λx=>x.1.isSome)&&decide ((e::es).length+([]:List Keyword).length+(if ([]:List Keyword).isEmpty then 0 else 1)<30))=true:=by rfl)
 (hline:(apos.endLine==cpos.line)=true:=by rfl) (hs:starEach (e::es) X.env=(false,eval e X.env)::starEach es X.env:=by rfl) (hplain:(backTo cpos (starEach es X.env)).any (·.1)=false:=by rfl) :
 PE X (.Call (.Attribute o "join" apos) (e::es) [] cpos) (RE X.K (joinM f g)):=
 AH (KQ PySem.F.plainAttrs_str PySem.F.slot_str_join PySem.F.type_str_join WR ho ha hbase hfew hline hs hplain) λ_ _ _ q=>RE.joinM q
end
def SK:R2:=λx y H Q=>∃a kvs k v,x=.ref a/\y=.str k/\H a=some (.dK kvs)/\EG kvs (Sum.inr k:Key)=some v/\Q v H
def Z9:V->V->V->Hp->(Hp->Prop)->Prop:=λo i v H Q=>∃a kvs k,o=.ref a/\i=.str k/\H a=some (.dK kvs)/\kvs.length<sizeLine/\Q (upd H a (.dK (EE kvs (Sum.inr k:Key) v)))
section
variable{X:Cx}
theorem Zd:IxR X SK:=by
 intro value slice ic s σ H x y v u Q I rx ry h hs;clear 5 h a kvs k z rfl rfl e l q
 cases rx
 obtain⟨_,_,vs,rel,dd⟩:=MR I.hok e;have g:DGet H a (kV (Sum.inr k:Key)) (some z):=by rw[<-l];exact DGet.k e
 have hT:=dd.typeIs;unfold subscriptTail;refine ul8 ?_;rw[getitemInPython_of_ne hT.not_modules];refine ul8 (wpAny_specialOf hT PySem.F.slot_dict_getitem.lookup ?_);have get:wpAny (model X.prog X.w) X.A (getItem (.ref a) u) (EP X ic σ Q) X.xe s:=by
  clear 5(RelO.some_of (v:=z) (o:=valueAt vs (Sum.inr k:Key)) (by rw[<-l];exact rel.val _))w' hw rw';exact wpAny_getItem_of (KJ (k:=(Sum.inr k:Key)) ry) dd.mapOf hw ⟨z,H,I.tok _,rw',q⟩
 have fin:wpAny (model X.prog X.w) X.A (subscripted slice false (.ref a) u) (λr s₃=>wpAny (model X.prog X.w) X.A (letTemporaryGo value (.ref a) r >>= λ_=>pure r) (EP X ic σ Q) X.xe s₃) X.xe s:=by
  rw[hs];exact wpAny_operating (um0 get (λr s₃ h₃=>ul8 (wpAny_letTemporaryGo (ul9 h₃))) λ_ _ x=>x)
 first
  |exact ul9 (ul8 fin)
  |exact ul8 (ul9 (ul8 fin))
  |exact ul8 fin
theorem XU:Tt X Z9:=by
 intro ic s σ H o i v ov iv u Q I ro ri rv h;clear 5 h a kvs k rfl rfl e l q
 cases ro
 clear 5(MR I.hok e)z hd vs rel dd;have hz:vs.length<=sizeLine:=by rw[<-rel.length];exact z
 have hl:(EE kvs (Sum.inr k:Key) v).length<=sizeLine:=by have:=Jx kvs (Sum.inr k:Key) v;lia
 refine wpAny_setItem_pairs (hsz:=hz) (KJ (k:=(Sum.inr k:Key)) ri) dd λh' dd' hs=>⟨_,?_,q⟩;have he:∃q,h'.get? a=some q:=let ⟨q,_,_,hq,_⟩:=dd';⟨q,hq⟩;exact OI I (by rw[e];exact True.intro) hs he (Nu hl hd (rel.put _ rv) dd')
end
noncomputable def Bb(kvs:List (Key×D))(k:Key):Option D:=(kvs.find? λkv=>decide (kv.1=k)).map (·.2)
noncomputable def BP(kvs:List (Key×D))(k:Key)(d:D):List (Key×D):=
 if (kvs.any λkv=>decide (kv.1=k))=true then kvs.map (λkv=>if kv.1=k then(kv.1,d) else kv) else kvs++[(k,d)]
def Az:D->D->M D
 |.obj n,.str x=>λt=>match t.S[n]? with
   |some (.dct kvs)=>(Bb kvs (.inr x)).map λd=>(d,t)
   |_=>none
 |_,_=>fail
def F0:D->D->D->M Unit
 |.obj n,.str x,d=>λt=>match t.S[n]? with
   |some (.dct kvs)=>if kvs.length<LIM then some ((),{t with S:=t.S.set n (.dct (BP kvs (.inr x) d))}) else none
   |_=>none
 |_,_,_=>fail
def CG(f g:M D)(d:D):M Unit:=bnd f λo=>bnd g λi=>F0 o i d
def EH:List (Str×M D)->M (List (Key×D))
 |[]=>ret []
 |(k,f)::r=>bnd f λd=>bnd (EH r) λps=>ret ((.inr k,d)::ps)
def DT(ps:List (Key×D)):List (Key×D):=ps.foldl (λacc kv=>BP acc kv.1 kv.2) []
def FZ(n:Nat)(ps:List (Key×D)):M D:=λt=>match t.S[n]? with
 |some (.dct [])=>if ps.length<=15 then some (.obj n,{t with S:=t.S.set n (.dct (DT ps))}) else none
 |_=>none
def Dk(l:List (Str×M D)):M D:=λt=>bnd (EH l) (FZ t.S.length) {t with S:=t.S++[.dct []]}
section
variable{K:ib}{c:Cf}{H:Hp}
theorem KVR.get{us:List (Key×V)}{kvs:List (Key×D)}(r:KVR K c H us kvs)(k:Key){d:D}(e:Bb kvs k=some d):∃v,EG us k=some v/\Rep K c H v d:=by
 unfold KVR at r
 induction r with
 |nil=>simp[Bb] at e
 |@cons p q ps qs h t ih=>
   by_cases hk:p.1=k
   .have hq:q.1=k:=h.1.symm.trans hk;have:Bb (q::qs) k=some q.2:=by simp[Bb,ui4,hq]
    rw[this] at e;cases e
    exact⟨p.2,HK hk,h.2⟩
   .have hq:¬q.1=k:=λz=>hk (h.1.trans z);have:Bb (q::qs) k=Bb qs k:=by simp[Bb,ui4,hq]
    rw[this] at e;rw[HJ hk];exact ih e
theorem KVR.any{us:List (Key×V)}{kvs:List (Key×D)}(r:KVR K c H us kvs)(k:Key):(us.any λkv=>decide (kv.1=k))=(kvs.any λkv=>decide (kv.1=k)):=by
 unfold KVR at r
 induction r with
 |nil=>rfl
 |@cons p q ps qs h t ih=>rw[uk0,uk0,ih,h.1]
theorem KVR.put{us:List (Key×V)}{kvs:List (Key×D)}(r:KVR K c H us kvs)(k:Key){v:V}{d:D}(rv:Rep K c H v d):KVR K c H (EE us k v) (BP kvs k d):=by
 unfold EE BP;rw[r.any k]
 by_cases q:(kvs.any λkv=>decide (kv.1=k))=true
 .rw[lJ q,lJ q];clear q;unfold KVR at r⊢
  induction r with
  |nil=>exact .nil
  |@cons p q ps qs h t ih=>
    rw[uj8,uj8];refine .cons ?_ ih
    by_cases e:p.1=k
    .rw[lJ e,lJ (h.1.symm.trans e)];exact⟨h.1,rv⟩
    .rw[lK e,lK (λz=>e (h.1.trans z))];exact h
 .rw[lK q,lK q];exact Paired.snoc r ⟨rfl,rv⟩
theorem KVR.length{us:List (Key×V)}{kvs:List (Key×D)}(r:KVR K c H us kvs):us.length=kvs.length:=Paired.length r
theorem KVR.mono{c':Cf}{H':Hp}{us:List (Key×V)}{kvs:List (Key×D)}(e:Ext c H c' H')(r:KVR K c H us kvs):KVR K c' H' us kvs:=Paired.mapP r λ_ _ z=>⟨z.1,z.2.mono e⟩
theorem KVR.merge:∀{ps:List (Key×D)}{us:List (Key×V)}{acc:List (Key×D)}{ua:List (Key×V)},KVR K c H us ps->KVR K c H ua acc->KVR K c H (Gn ua us) (ps.foldl (λacc kv=>BP acc kv.1 kv.2) acc):=by
 intro ps us acc ua r;unfold KVR at r
 induction r generalizing acc ua with
 |nil=>intro q;exact q
 |@cons p q ps qs h t ih=>
   intro r0;refine ih ?_;show KVR K c H (EE ua p.1 p.2) (BP acc q.1 q.2);have:=KVR.put r0 p.1 h.2;rw[<-h.1];exact this
set_option tactic.hygienic true in
theorem SU:BB K SK Az:=λ{Oo c t σ H x y dx dy r t' Q} f rx ry eq k=>by
 unfold Az at eq
 split at eq
 .next n z=>
  cases ry
  obtain⟨a,rfl,hk⟩:=rx.rv
  split at eq
  .next kvs es=>
   clear 5(uc2.mp eq)d e1 e2
   cases e2
   clear 5(f.s.obs _ a _ hk es)us g1 g2;clear 5(g2.get _ e1)v e3 e4;exact⟨a,us,z,v,rfl,rfl,g1,e3,k _ H c f .refl e4⟩
  .cases eq
 .cases eq
end
section
variable{X:Cx}{pos:Pos}{e:Expr}
set_option tactic.hygienic true in
theorem Rp{o i:Expr}{f g:M D}(ho:PE X o (RE X.K f))(hi:PE X i (RE X.K g))
 (ha:∀v,assign (.Subscript o i pos) X.env v=(do
   let ov <-holding [v] (eval o X.env)
   let iv <-holding [v,ov] (eval i X.env)
   standAt pos
   holding [v,ov,iv] (setItem ov iv v)
   release [v,ov,iv] []):=by intro _;rfl):PG X (.Subscript o i pos) (RG X.K (CG f g)):=
 Kf (Sy ho hi XU ha) λv σ H Q z9=>by
  clear 5 z9 Oo c t d fi rv t' eq k;clear 5(Af eq)d0 t1 e1 eq;clear 5(Af eq)di t2 e2 eq;refine⟨Oo,c,t,fi,_,t1,e1,λx H1 c1 f1 s1 rx=>⟨Oo,c1,t1,f1,di,t2,e2,λy H2 c2 f2 s2 ry=>?_⟩⟩;unfold F0 at eq
  split at eq
  .next n z dd=>
   cases ry
   obtain⟨a,rfl,hk⟩:=rx.rv
   split at eq
   .next kvs es=>
    split at eq
    .next hl=>
     cases eq
     have hk2:=s2.ext.io _ _ hk;clear 5(f2.s.obs _ a _ hk2 es)us g1 g2;refine⟨a,us,z,rfl,rfl,g1,by rw[g2.length];exact Nat.lt_trans hl Yn,?_⟩;have rv2:=rv.mono (s1.trans s2).ext;obtain⟨f3,s3⟩:=f2.wrObj (o:=.dct (BP kvs (.inr z) d)) (u:=.dK (EE us (.inr z) v)) hk2 λc' H' ext hu=>⟨_,hu,(g2.put _ rv2).mono ext⟩;exact k σ _ c2 f3 ((s1.trans s2).trans s3)
    .cases eq
   .cases eq
  .cases eq
def RP(K:ib)(f:M (List (Key×D)))(σ:St)(H:Hp)(Q:List (V×V)->Hp->Prop):Prop:=
 ∃Oo c t,FInv K Oo c t σ H/\∃ps t',f t=some (ps,t')/\∀us H' c',FInv K Oo c' t' σ H'->Stp Oo c H c' H'->KVR K c' H' us ps->Q (us.map λkv=>(kV kv.1,kv.2)) H'
def PPf(X:Cx)(pos:Pos)(keys:List (Option Expr))(values:List Expr)(f:M (List (Key×D))):Prop:=
 ∃trs,PPs X pos keys values trs/\∀σ H Q,RP X.K f σ H Q->K7 trs σ H Q
theorem Ww:PPf X pos [] [] (EH []):=⟨[],Xm,λσ H Q z9=>by
 clear 5 z9 Oo c t fi ps t' eq k
 cases eq
 exact k [] H c fi .refl .nil⟩
theorem T7{k:Str}{j:Nat}{kp:Pos}{v:Expr}{ks:List (Option Expr)}{vs:List Expr}{f:M D}{r:List (Str×M D)}(hv:PE X v (RE X.K f))(hr:PPf X pos ks vs (EH r)) :
 PPf X pos (some (.Constant (.str k) j kp)::ks) (v::vs) (EH ((k,f)::r)):=by
 clear 5 hr trs h1 h2;refine⟨_,UO Sx hv h1,λσ H Q z9=>?_⟩;clear 5 z9 Oo c t fi ps t' eq kk;clear 5(Af eq)d t1 e1 eq;clear 5(Af eq)qs t2 e2 eq
 cases eq
 refine⟨Oo,c,t,fi,d,t1,e1,λy H1 c1 f1 s1 ry=>?_⟩;refine h2 σ H1 _ ⟨Oo,c1,t1,f1,qs,_,e2,λus H2 c2 f2 s2 ru=>?_⟩;exact kk ((.inr k,y)::us) H2 c2 f2 (s1.trans s2) (.cons ⟨rfl,ry.mono s2.ext⟩ ru)
set_option tactic.hygienic true in
theorem We{keys:List (Option Expr)}{values:List Expr}{l:List (Str×M D)}(h:PPf X pos keys values (EH l))(hall:keys.all (·.isSome)=true:=by rfl)(hl:keys.length=values.length:=by rfl)(h0:keys≠[]:=by exact List.cons_ne_nil _ _)
 (h15:keys.length<=15:=by exact ud0 rfl):PE X (.Dict keys values pos) (RE X.K (Dk l)):=by
 clear 5 h trs h1 h2;refine AH (Xa h1 hall hl h0 h15) λσ H Q z9=>?_;clear 5 z9 Oo c t fi r t' eq k;intro p hp;obtain⟨c1,f1,s1,e1⟩:=fi.newObj (o:=.dct []) (u:=.dK []) hp λc' H' ex hu=>⟨[],hu,.nil⟩;clear 5(Af eq)ps t2 e2 eq;refine h2 σ _ _ ⟨Oo,c1,_,f1,ps,t2,e2,λus H2 c2 f2 s2 ru=>?_⟩;unfold FZ at eq
 split at eq
 .next es=>
  split at eq
  .next hl15=>
   cases eq
   have hk2:=s2.ext.io _ _ e1;clear 5(f2.s.obs _ p _ hk2 es)u0 g1 g2
   cases g2
   refine⟨g1,us,rfl,by rw[ru.length];exact hl15,?_⟩;obtain⟨f3,s3⟩:=f2.wrObj (o:=.dct (DT ps)) (u:=.dK (Gn [] us)) hk2 λc' H' ext hu=>⟨_,hu,(KVR.merge ru .nil).mono ext⟩;exact k _ _ c2 f3 (s1.trans (s2.trans s3)) (.obj hk2)
  .cases eq
 .cases eq
end
section
variable{X:Cx}
end
section
variable{X:Cx}{pos:Pos}{e:Expr}{es:List Expr}
end
section
variable{prog:im}{w:ir}{A:Around}{I:ig}{fp wr:List ig}{G:Array GenState->Array GenState->Prop}{n:Nat}{P:Nat->ie->Prop}{St:Nat->ij->Prop}
end
section
variable{X:Cx}
end
section
variable{X:Cx}{pos:Pos}{e:Expr}
end
noncomputable def DR(f:M Bool)(b:M Out):Nat->M Out
 |0=>λ_=>none
 |n+1=>λt=>match f t with
   |none=>none
   |some (false,t1)=>some (.next,t1)
   |some (true,t1)=>match b t1 with
     |some (.next,t2)=>DR f b n t2
     |some (.cont,t2)=>DR f b n t2
     |some (.brk,t2)=>some (.next,t2)
     |some (.ret x,t2)=>some (.ret x,t2)
     |none=>none
def MP:Nat:=1000000
def IZ(f:M Bool)(b:M Out):M Out:=DR f b MP
theorem RS.while{μ:Cf->Hp->D->(V->Hp->Prop)->Prop}{K:ib}{f:M Bool}{b:M Out}{E:Ends}{σ:L2.St}{H:Hp}(q:RSg K μ (IZ f b) E σ H):Td (RT K f) (RSg K μ b) E σ H:=by
 clear 5 q Oo c t fi o t' eq k;refine⟨λm σ' H'=>∃c' t2,FInv K Oo c' t2 σ' H'/\Stp Oo c H c' H'/\DR f b m t2=some (o,t'),⟨MP,c,t,fi,.refl,eq⟩,?_⟩;rintro m σ' H' ⟨c',t2,f2,s2,e2⟩
 cases m with
 |zero=>cases e2
 |succ m=>
 rw[DR] at e2;dsimp only at e2
 cases ef:f t2 with
 |none=>rw[ef] at e2;cases e2
 |some p=>
 clear 5 p r t3;rw[ef] at e2;refine⟨Oo,c',t2,f2,r,t3,ef,λH3 c3 f3 s3=>?_⟩
 cases r with
 |false=>
   cases e2
   exact k σ' H3 c3 f3 (s2.trans s3)
 |true=>
   rw[lJ rfl];dsimp only at e2;refine⟨λσ4 H4=>∃c4 t4,FInv K Oo c4 t4 σ4 H4/\Stp Oo c H c4 H4/\DR f b m t4=some (o,t'),λσ4 H4 h=>⟨m,ug3 m,h⟩,?_⟩
   cases eb:b t3 with
   |none=>rw[eb] at e2;cases e2
   |some p=>
   clear 5 p ob t4;rw[eb] at e2;refine⟨Oo,c3,t3,f3,ob,t4,eb,λσ4 H4 c4 f4 s4=>?_⟩
   cases ob with
   |next=>exact⟨c4,t4,f4,(s2.trans s3).trans s4,e2⟩
   |cont=>exact⟨c4,t4,f4,(s2.trans s3).trans s4,e2⟩
   |brk=>
     cases e2
     exact k σ4 H4 c4 f4 ((s2.trans s3).trans s4)
   |ret x=>
     cases e2
     exact k σ4 H4 c4 f4 ((s2.trans s3).trans s4)
section
variable{X:Cx}{pos:Pos}
theorem NF{μ:Cf->Hp->D->(V->Hp->Prop)->Prop}{e:Expr}{body:List Stmt}{f:M Bool}{b:M Out}(hp:PassesOwn (model X.prog X.w) X.A X.env X.xe)(hc:PT X e (RT X.K f))(hb:PSs X body (RSg X.K μ b)):PS X (.While e body [] pos) (RSg X.K μ (IZ f b)):=
 Br (UQ hp hc hb) λ_ _ _ q=>RS.while q
end
section
variable{X:Cx}{tg:Expr}
end
section
variable{X:Cx}{pos:Pos}{e:Expr}{es:List Expr}
end
noncomputable def FA(H:Hp)(a:ig):Hp:=λb=>if b=a then none else H b
theorem UF{H:Hp}{a:ig}{o:HO}(h:H a=some o):upd (FA H a) a o=H:=by
 funext b
 by_cases e:b=a
 .subst e;rw[Ak];exact h.symm
 .rw[Ah e];unfold FA;rw[lK e]
section
variable{K:ib}{Oo:ig->Prop}{c:Cf}{t:T}{σ:L2.St}{H:Hp}
theorem FInv.out(f:FInv K Oo c t σ H){i:Nat}{ds:List D}(e:t.env[i]?=some (some (.own ds))){a:ig}(ha:σ[i]?=some (some (.ref a))) :
 FInv K Oo ⟨c.ι,λb=>c.O b/\b≠a⟩ {t with env:=t.env.set i none} σ (FA H a)/\Stp Oo c H ⟨c.ι,λb=>c.O b/\b≠a⟩ (FA H a):=by
 clear 5(f.own i ds e)a' vs g1 g2 g3 g4 g5;rw[ha] at g1;injection g1 with g1;injection g1 with g1;injection g1 with g1;subst g1
 have ni:a∉c.ι:=f.s.dis a g2;have ext:Ext c H ⟨c.ι,λb=>c.O b/\b≠a⟩ (FA H a):=by
  refine⟨λb o hb hn=>?_,λb o hb z=>?_,λk b h=>h⟩
  .unfold FA;rw[lK λz=>hn (by rw[z];exact .inr g2)];exact hb
  .rcases z with z|z
   .exact .inl z
   .exact .inr z.1
 have stp:Stp Oo c H ⟨c.ι,λb=>c.O b/\b≠a⟩ (FA H a):=⟨ext,λb hb=>by unfold FA;rw[lK λz=>g3 (by rw[<-z];exact hb)]⟩;have old:∀{j:Nat}{x:Sl},(t.env.set i none)[j]?=some (some x)->j≠i/\t.env[j]?=some (some x):=λ{j x} q=>by
  by_cases h:j=i
  .subst h;rw[uf7] at q
   split at q
   .split at q<;>simp at q
   .contradiction
  .exact⟨h,by rw[ud2 (Ne.symm h)] at q;exact q⟩
 refine⟨⟨⟨f.s.len,f.s.nd,λk b o e1 e2=>?_,λb hb=>?_,λb hb=>f.s.dis b hb.1⟩,by simpa using f.len,λb hb=>⟨f.sub b hb,λz=>g3 (by rw[<-z];exact hb)⟩,λj d q=>?_,λj es q=>?_,λj k es fs b q1 q2 q3 q4=>?_⟩,stp⟩
 .refine(f.s.obs k b o e1 e2).mono ext ?_;unfold FA;rw[lK λz=>ni (by rw[<-z];exact ud3 e1)]
 .clear 5(f.s.trk b hb.1)o ho;exact⟨o,by unfold FA;rw[lK hb.2];exact ho⟩
 .clear 5(f.val j d (old q).2)v h1 h2;exact⟨v,h1,h2.mono ext⟩
 .clear 5(old q)nj q';clear 5(f.own j es q')b us k1 k2 k3 k4 k5;have nb:b≠a:=λz=>nj (f.inj j i es ds a q' e (by rw[k1,z]) ha);exact⟨b,us,k1,⟨k2,nb⟩,k3,by unfold FA;rw[lK nb];exact k4,k5.mono ext⟩
 .exact f.inj j k es fs b (old q1).2 (old q2).2 q3 q4
end
noncomputable def Hg(i:Nat):M Out:=λt=>match t.env[i]? with
 |some (some (.own xs))=>some (.ret (.lst xs),{t with env:=t.env.set i none})
 |_=>none
def GV(f:M (List D)):M Out:=bnd f λds=>ret (.ret (.lst ds))
section
variable{g:Fn}{fa:ig}{fd:iu}
section
variable{X:Cx}{pos:Pos}{e:Expr}{es:List Expr}
theorem OS{f:M (List D)}(h:PE X e (RF X.K f)):PS X (.Return (some e) pos) (RSg X.K (μF X.K) (GV f)):=
 Br (IR h) λE σ H z9=>by
  clear 5 z9 Oo c t fi o t' eq k;clear 5(Af eq)ds t1 e1 eq
  cases eq
  exact⟨Oo,c,t,fi,ds,_,e1,λp us H1 c1 f1 s1 ru hp=>k σ H1 c1 f1 s1 p us hp ru⟩
set_option tactic.hygienic true
theorem RB(i:Nat){x:Str}{px:Pos}(hN:X.N[i]?=some x:=by rfl)(hv:Vis X.env.scope x:=by walk_at"h")(hd:(x==("__debug__":Str))=false:=by decide)
 (hcd:(x==("__classdict__":Str))=false:=by decide):PS X (.Return (some (.Name x px)) pos) (RSg X.K (μF X.K) (Hg i)):=
 Br (IR (Dc hN hv hd hcd)) λE σ H z9=>by
  clear 5 z9 Oo c t fi o t' eq k;unfold Hg at eq
  split at eq
  .next xs ex=>
   cases eq
   clear 5(fi.own i xs ex)a vs h1 h2 h3 h4 h5;refine⟨.ref a,h1,?_⟩;clear 5(fi.out ex h1)f2 s2;have:=k σ (FA H a) _ f2 s2 a vs (by unfold FA;rw[lJ rfl]) (h5.mono s2.ext);rw[UF h4] at this;exact this
  .cases eq
inductive spFF(K:ib)(f:Fn)(vs:List V)(H:Hp)(Q:VK)(E:XK):Prop where
 |mk (c:Cf) (ds:List D) (S:List Ob) (si:SInv K c S H) (rp:Reps K c H vs ds) (rs:List D) (S':List Ob) (e:f ds S=some (.lst rs,S')) (k:∀p us H' c',SInv K c' S' H'->Stp c.O c H c' H'->(∀b,c'.O b↔c.O b)->Reps K c' H' us rs->H' p=none->Q (.ref p) (upd H' p (.lst us))):spFF K f vs H Q E
def D8(g:Fn)(f:M (List D)):M (List D):=bnd f λds t=>match g ds t.S with
 |some (.lst rs,S')=>some (rs,{t with S:=S'})
 |_=>none
theorem PN{ds:List D}{t:T}{rs:List D}{t':T}(h:(match g ds t.S with|some (.lst rs,S')=>some (rs,{t with S:=S'})|_=>none:Option (List D×T))=some (rs,t')):∃S',g ds t.S=some (.lst rs,S')/\t' = {t with S:=S'}:=by
 split at h
 .next rs' S' e=>cases h;exact⟨S',e,rfl⟩
 .cases h
set_option tactic.hygienic false
theorem TZ{k:Nat}{ps:List Str}{f:M (List D)}{x:Str}{p:Pos}(F:FnOk X.prog X.w X.K X.mg X.base CX0 k fa fd ps (spFF X.K g))(hr:Room k X.A)(hg:Gl X x)(hm:X.mg x=some (.ref fa))(hk:PySem.W.keepIn X.K (.ref fa)=true)(hb:Binds X.K fd ps [])
 (ha:PA X (e::es) (RA X.K f)) (hdb:(x==("__debug__":Str))=false:=by decide) (h1:Ba e=false:=by rfl) (h2:Bg es=true:=by rfl) :
 PE X (.Call (.Name x p) (e::es) [] pos) (RF X.K (D8 g f)):=
 AH (O7 F hr hg hm hk hb .nil Jl ha hdb (A6 h1) (AY h2).1) λσ H Q z9=>by
  clear 5 z9 Oo c t fi rs t' eq kk;clear 5(Af eq)ds t1 e1 eq;clear 5(PN eq)S' e2 rfl;refine⟨Oo,c,t,fi,ds,t1,e1,λvs H1 c1 f1 s1 rvs=>?_⟩;show spFF X.K g (vs++[]) H1 Q E0;rw[uh9];refine⟨c1,ds,t1.S,f1.s,rvs,rs,S',e2,λp us H' c' si st ho ru hp=>?_⟩;clear 5(f1.after si st ho)f2 s2;exact kk p us H' c' f2 (s1.trans s2) ru hp
end
set_option tactic.hygienic true in
theorem Ws{P:im}{w:ir}{K:ib}{mg:Str->Option ie}{base:Heap}{x qual:Str}{st:Stmt}{N ps:List Str}{k n m:Nat}{g:M Out}(e1:ps.length=n)(e2:N.length=m)(F:Fun K x qual st fa fd)(S:FnScope N ps (An st))
 (hb:∀(cdv:ie) (A:Around) (outer:List Env) (s:ij) (H:Hp) (E:XK),Room k (A.deeper (PyProof.Rows.envOfC qual (An st) s.heap.objs.size fa cdv))->
   PSs (D5 CX0 P w K mg base N qual (An st) fa cdv A outer s H E).nox (Bq st) (RSg K (μF K) g)):FnOk P w K mg base CX0 (k+1) fa fd ps (spFF K (fnOf n m g)):=by
 subst e1 e2;have hlen:∀{ds:List D}{S:List Ob}{z:D×List Ob},fnOf ps.length N.length g ds S=some z->ds.length=ps.length:=λ{ds S z} h=>by
  unfold fnOf at h
  split at h
  .next h1=>exact h1
  .cases h
 refine F.ok S (λvs H Q E h=>?_) (λcdv A outer s H vs Q E hr h=>?_)
 .obtain⟨c,ds,S,si,rs,r,S',e,_⟩:=h;rw[rs.length];exact hlen e
 clear 5 h c ds S0 si rs r S' e kk;refine⟨RSg K (μF K) g,hb cdv A outer s H E hr,?_⟩;have hl:=hlen e;unfold fnOf at e;rw[lJ hl] at e
 cases eg:g ⟨env0 N.length ds,S0⟩ with
 |none=>rw[eg] at e;cases e
 |some p=>
   clear 5 p o t;rw[eg] at e;refine⟨c.O,c,_,Hv si rs,o,t,eg,λσ' H' c' f' s'=>?_⟩;clear 5 f'.leave si' ext';have st':Stp c.O c H ⟨c'.ι,c.O⟩ H':=⟨s'.ext.trans ext',s'.oo⟩
   cases o with
   |next=>cases e
   |ret d=>
     cases e
     exact λp us hp ru=>kk p us H' _ si' st' (λ_=>lI) (ru.mono ext') hp
   |brk=>cases e
   |cont=>cases e
theorem Xx{P:im}{w:ir}{K:ib}{mg:Str->Option ie}{base:Heap}{ps:List Str}{k:Nat}{f:Fn}(e:f=g)(h:FnOk P w K mg base CX0 k fa fd ps (spFF K g)):FnOk P w K mg base CX0 k fa fd ps (spFF K f):=by rw[e];exact h
end
section
variable{X:Cx}
theorem W7{o:Expr}{to:TE}{apos cpos:Pos}(ho:PE X o to)(hbase:attributeBase o "bit_length" X.env (eval o X.env)=eval o X.env:=by rfl)(hline:(apos.endLine==cpos.line)=true:=by rfl) :
 PE X (.Call (.Attribute o "bit_length" apos) [] [] cpos) (λσ H Q=>to σ H λv H1=>∃i,v=.int i/\Q (.int (Builtin.Int.intBits i:Nat)) H1):=by
 intro ic s σ H Q I h;refine Call_method0 hbase hline (thn (ho ic s σ H _ I h) λu s1 z9=>?_);clear 5 z9 v H1 I1 rv i ex q;subst ex;clear 5 rv t rfl;exact⟨"int", "int.bit_length",PySem.F.plainAttrs_int,ua4,PySem.F.type_int_bit_length,ly _ _ _,(λ_ e=>nomatch e),
  method0_gives ua4 PySem.F.entry_int_bit_length (ly _ _ _) (PySem.F.args_int_bit_length_1 _) (PySem.AutoIntG2.int_bit_length_int_0 i t) ⟨.int (Builtin.Int.intBits i:Nat),H1,I1.tok _,⟨_,rfl⟩,q⟩⟩
end
def Kl:D->M D
 |.int i=>ret (.int (Builtin.Int.intBits i:Nat))
 |_=>fail
section
variable{X:Cx}{pos:Pos}{e:Expr}{es:List Expr}
set_option tactic.hygienic true in
theorem Rk{o:Expr}{f:M D}{apos cpos:Pos}(ho:PE X o (RE X.K f))(hbase:attributeBase o "bit_length" X.env (eval o X.env)=eval o X.env:=by rfl)(hline:(apos.endLine==cpos.line)=true:=by rfl) :
 PE X (.Call (.Attribute o "bit_length" apos) [] [] cpos) (RE X.K (fUn f Kl)):=
 AH (W7 ho hbase hline) λσ H Q z9=>by
  clear 5 z9 Oo c t fi r t' eq k;clear 5(Af eq)d t1 e1 eq;refine⟨Oo,c,t,fi,d,t1,e1,λx H1 c1 f1 s1 rx=>?_⟩;unfold Kl at eq
  split at eq
  .next i=>
   cases eq
   cases rx
   exact⟨i,rfl,k _ H1 c1 f1 s1 (.int _)⟩
  .cases eq
end
section
variable{X:Cx}{b elt:Expr}{pos:Pos}
end
theorem Inv.turnedL{X:Cx}{ic:List (ig×Obj)}{σ:St}{H:Hp}{s:ij}{h':Heap}{t':Nat}(fp:List ig)(I:Inv X ic σ H s)(hf:∀b∈fp,FpOk X ic H b)(k:∀b o,b∉fp->s.heap.get? b=some o->h'.get? b=some o):Inv X ic σ H {s with heap:=h',toks:=t'}:=by
 have nit:∀b u,H b=some u->b∉fp:=λb u e z=>by rw[(hf b z).1] at e;cases e
 refine I.step (g':=s.gens) (d':=s.drawn) (ch:=fp) (λb hb=>?_) (λb o _ _ hc e _=>k b o hc e) (λb o _ _ hc e _=>⟨o.slots,k b o hc e⟩) (λ_ _ _ _ n=>n)
  (λb o hc e=>⟨o,k b o hc e⟩) (λ_ _ e=>e) (λ_ _ _ e=>e) (λb ps e=>⟨#[],by rw[e];simp⟩) (λm hm=>?_) (λb u e=>?_) I.bare
 .obtain⟨_,h1,_,h3,h4,h5⟩:=hf b hb;exact⟨h3,h1,h4,h5⟩
 .clear 5 hm o es ep ho r;exact⟨o,es,ep,k _ o (λz=>(hf _ z).2.1 rfl) ho,r⟩
 .refine(I.hok b u e).stay (λc v hc q=>k c v ?_ q) (λ_ q=>q) λ_ _ q=>q;rcases hc with z|z
  .rw[z];exact nit b u e
  .exact nit c _ z
def Ite(K:ib)(a:ig):It:=
 ⟨λi H=>∃xs x,SqL K H a xs/\xs[i]?=some x,λi H x H'=>∃p v,x=.ref p/\H p=none/\(∀xs,SqL K H a xs->xs[i]?=some v)/\H'=upd H p (.tup [.int i,v]),λi H=>∃xs,SqL K H a xs/\xs.length<=i⟩
theorem Tj{P:im}{w:ir}{K:ib}{elts:List Expr}{n:Nat}{pos:Pos}(a e it:ig)(hne:e≠it):Turn P w K (.Tuple elts n pos) (Ite K a) [e,it] e (λi h=>(∃old,IsEnum h e it i old)/\h.IsListIter it a i) where
 mem:=by simp
 obj:=λi h st b hb=>by
  obtain⟨⟨old,h1⟩,o,e1,c,d⟩:=st;simp only[uj7,uh1,lG] at hb;rcases hb with rfl|rfl
  .exact⟨_,h1,λv z=>by have z':Data.fields _=Data.cell v:=z;cases z'⟩
  .exact⟨o,e1,λv z=>by rw[d] at z;cases z⟩
 keep:=λi h h' st k=>⟨by obtain⟨⟨old,h1⟩,_⟩:=st;exact⟨old,k e (by simp) _ h1⟩,st.2.at λo e=>k it (by simp) o e⟩
 item:=by
  intro X hP hw hK hc i ic s σ H E I hf st hg;subst hP hw hK;clear 5 hg xs x hq hx;clear 5(I.list hq)its rv p hz;clear 5(rv.get hx)u hu ru;obtain⟨⟨old,st1⟩,st2⟩:=st;refine wpAny_pyNext_enum_item st1 st2 p.isList (x:=u) (by simpa using hu) hne λh' so st2' hT hsz kk=>?_;refine⟨_,rfl,?_⟩;refine wpAny_letOwnedTupleGo_enum so λh2 st1' sb=>?_;have fe:=hf e (by simp);have fi:=hf it (by simp);have le:e<s.heap.objs.size:=uk7 st1;have li:it<s.heap.objs.size:=by obtain⟨o,e1,_,_⟩:=st2;exact uk7 e1
  have hfr:H s.heap.objs.size=none:=I.hok.fresh (ul4 _);have h2T:h2.get? s.heap.objs.size=some {cls:=.type "tuple",data:=.seq #[.int (i:Nat) s.toks,u]}:=(sb.2 _ (ul0 le)).trans hT;have I1:Inv X ic σ (upd H s.heap.objs.size (.tup [.int (i:Nat),x])) {s with heap:=s.heap.push {cls:=.type "tuple",data:=.seq #[.int (i:Nat) s.toks,u]},toks:=s.toks}:=
   I.laid (t':=s.toks) (λb u e=>ub9 _ e) (ul4 _) ⟨by show 2<=sizeLine;decide,[.int (i:Nat) s.toks,u],.cons ⟨_,rfl⟩ (.cons ru .nil),⟨_,ud6 _ rfl,rfl,_,rfl⟩⟩
  have hup:∀b,b≠s.heap.objs.size->upd H s.heap.objs.size (.tup [.int (i:Nat),x]) b=H b:=λb hb=>Ah hb;have fp':∀b∈[e,it],FpOk X ic (upd H s.heap.objs.size (.tup [.int (i:Nat),x])) b:=λb hb=>by
   clear 5(hf b hb)g0 g1;refine⟨?_,g1⟩;rw[hup b ?_];exact g0;simp only[uj7,uh1,lG] at hb;rcases hb with rfl|rfl
   .exact uk8 le
   .exact uk8 li
  refine⟨.ref s.heap.objs.size,upd H s.heap.objs.size (.tup [.int (i:Nat),x]),?_,rfl,⟨_,x,rfl,hfr,λys hy=>by rw[I.list_inj hy hq];exact hx,rfl⟩,⟨⟨_,by simpa using st1'⟩,?_⟩,λb hb=>(fp' b hb).1⟩
  .have I2:=Inv.turnedL (h':=h2) (t':=s.toks + 1) [e,it] I1 fp' λb o hb eb=>(by
    simp only[uj7,uh1,lG,lL] at hb;rcases Heap.get?_push_cases eb with⟨rfl,rfl⟩|eb'
    .exact h2T
    .exact(sb.2 b hb.1).trans (kk b o hb.1 hb.2 eb'))
   exact I2
  .exact st2'.at λo e1=>(sb.2 it (Ne.symm hne)).trans e1
 done:=by
  intro X hP hw hK hc i ic s σ H E I hf st hg;subst hP hw hK;clear 5 hg xs hq hx;clear 5(I.list hq)its rv p hz;obtain⟨⟨old,st1⟩,st2⟩:=st;have hl:=rv.length;refine wpAny_pyNext_enum_end (I.ok.hd hc) st1 st2 p.isList (by simp;lia) λh' eb=>⟨rfl,?_⟩;exact Inv.turnedL [e,it] (t':=s.toks) I hf λb o hb e1=>eb b o (λz=>hb (by simp[z])) e1
 self:=λ_ _ _ _ _ st h=>by obtain⟨⟨old,h1⟩,_⟩:=st;exact wpAny_pyIter_enum h1 h
def bD(K:ib)(ta:TA):TI:=λσ H R=>ta σ H λvs H1=>∃a xs,vs=[.ref a]/\SqL K H1 a xs/\R (Ite K a) H1
theorem Xf{X:Cx}{e:Expr}{ta:TA}{elts:List Expr}{n:Nat}{tpos p pos:Pos}(hg:Gl X "enumerate")(hm:X.mg "enumerate" = none)(ha:PA X [e] ta)(hs:starEach [e] X.env=[(false,eval e X.env)]:=by rfl) :
 PI X (.Tuple elts n tpos) (.Call (.Name "enumerate" p) [e] [] pos) (bD X.K ta):=by
 intro ic s σ H R I h;refine Call_ (G8 I hg hm boot_enumerate (ua3 (thn (ha pos ic s σ H _ I h) λus s1 z9=>?_) hs rfl));clear 5 z9 vs H1 I1 r1 q1;clear 5 q1 a xs ev hq q;subst ev
 cases r1 with
 |cons r rr=>
   cases rr
   cases r
   clear 5(I1.list hq)its rv pl hz;refine call_enumerate_list pl.isList λh' e1 e2 e3 kk=>?_;refine wpAny_pyIter_enum e1 ?_;have hfp:∀b∈[s1.heap.objs.size+1,s1.heap.objs.size],FpOk X ic H1 b:=λb hb=>by
    have hb':s1.heap.objs.size<=b:=by
     simp only[uj7,uh1,lG] at hb;lia
    exact I1.fpOk hb' (I1.hok.fresh hb')
   exact⟨s1.heap.objs.size+1,[s1.heap.objs.size+1,s1.heap.objs.size],_,_,H1,rfl,I1.kept (t':=s1.toks) kk,Tj a (s1.heap.objs.size+1) s1.heap.objs.size (Nat.succ_ne_self _),⟨⟨_,e1⟩,e2⟩,hfp,q⟩
structure ItOk2(K:ib)(J:It)(c:Cf)(H:Hp)(ds:List D):Prop where
 go:∀c' H' (i:Nat),Ext c H c' H'->i<ds.length->J.go i H'
 yld:∀c' H' (i:Nat) x H'' d,Ext c H c' H'->ds[i]?=some d->J.yld i H' x H''->∃p vs es,x=.ref p/\H' p=none/\H''=upd H' p (.tup vs)/\d=.tup es/\Reps K c' H' vs es
 stop:∀c' H',Ext c H c' H'->J.stop ds.length H'
inductive RI2(K:ib)(f:M (List D))(σ:L2.St)(H:Hp)(R:It->Hp->Prop):Prop where
 |mk (Oo:ig->Prop) (c:Cf) (t:T) (fi:FInv K Oo c t σ H) (ds:List D) (t':T) (e:f t=some (ds,t')) (k:∀J H' c',FInv K Oo c' t' σ H'->Stp Oo c H c' H'->ItOk2 K J c' H' ds->R J H'):RI2 K f σ H R
noncomputable def EK:Nat->List D->List D
 |_,[]=>[]
 |i,d::r=>.tup [.int (i:Nat),d]::EK (i+1) r
theorem Ii:∀(ds:List D) (i:Nat),(EK i ds).length=ds.length
 |[],_=>rfl
 |d::r,i=>by rw[EK,ug2,ug2,Ii r]
theorem Mf:∀(ds:List D) (i j:Nat),(EK i ds)[j]?=(ds[j]?).map λd=>.tup [.int ((i+j:Nat):Int),d]
 |[],_,_=>by simp[EK]
 |d::r,i,0=>rfl
 |d::r,i,j+1=>by
   rw[EK,jn,jn,Mf r (i+1) j]
   congr 1
   funext d
   rw[show i+1+j=i+(j+1) by lia]
def VA:List D->M (List D)
 |[.lst ds]=>ret (EK 0 ds)
 |_=>fail
def PQ(f:M (List D)):M (List D):=bnd f VA
theorem ItOk2.enum{K:ib}{c:Cf}{H:Hp}{p:ig}{ds:List D}(r:∀c' H',Ext c H c' H'->∃vs,SqL K H' p vs/\Reps K c' H' vs ds):ItOk2 K (Ite K p) c H (EK 0 ds):=by
 refine⟨λc' H' i ex hi=>?_,λc' H' i x H'' d ex hd hy=>?_,λc' H' ex=>?_⟩
 .clear 5(r c' H' ex)vs h1 h2;rw[Ii] at hi;obtain⟨v,e,_⟩:=h2.at (ub3 hi);exact⟨vs,v,h1,e⟩
 .clear 5(r c' H' ex)vs h1 h2;clear 5 hy q v rfl hq hs rfl;have hv:=hs vs h1;rw[Mf] at hd;clear 5(uc2.mp hd)d' e1 rfl;clear 5(h2.at e1)v' e2 rv;rw[hv] at e2
  cases e2
  rw[lf];exact⟨q,_,_,rfl,hq,rfl,rfl,.cons (.int _) (.cons rv .nil)⟩
 .clear 5(r c' H' ex)vs h1 h2;exact⟨vs,h1,by rw[Ii,h2.length];exact ul4 _⟩
section
variable{X:Cx}{pos:Pos}{e:Expr}
set_option tactic.hygienic true in
theorem Wm{f:M (List D)}{elts:List Expr}{n:Nat}{tpos p:Pos}(hg:Gl X "enumerate")(hm:X.mg "enumerate" = none)(ha:PA X [e] (RA X.K f))(h1:Ba e=false:=by rfl):PI X (.Tuple elts n tpos) (.Call (.Name "enumerate" p) [e] [] pos) (RI2 X.K (PQ f)):=
 HY (Xf hg hm ha (A6 h1)) λσ H R z9=>by
  clear 5 z9 Oo c t fi ds t' eq k;clear 5(Af eq)xs t1 e1 eq;refine⟨Oo,c,t,fi,xs,t1,e1,λvs H1 c1 f1 s1 rv=>?_⟩;unfold VA at eq
  split at eq
  .next es=>
   cases eq
   cases rv with
   |cons r rs=>
     cases rs
     obtain⟨a,ws,rfl,g1,g2,g3⟩:=r.rv
     exact⟨a,ws,rfl,SqL.of g1,k _ H1 c1 f1 s1 (ItOk2.enum λc' H' ex=>⟨ws,SqL.of (ex.keep _ _ g1 g2),g3.mono ex⟩)⟩
  .cases eq
end
section
variable{X:Cx}
end
section
variable{X:Cx}{pos:Pos}{e:Expr}{es:List Expr}
end
section
variable{X:Cx}{e ek:Expr}{p2 pos:Pos}{te:TE}{tk:TO}
end
section
variable{X:Cx}
end
section
variable{X:Cx}
end
section
variable{X:Cx}{pos:Pos}
end
section
variable{X:Cx}
end
section
variable{X:Cx}
end
section
variable{X:Cx}
end
section
variable{X:Cx}
end
section
variable{X:Cx}{pos:Pos}{e:Expr}{es:List Expr}
end
section
variable{X:Cx}
end
def Jf:List (Int×M D)->M (List (Key×D))
 |[]=>ret []
 |(k,f)::r=>bnd f λd=>bnd (Jf r) λps=>ret ((.inl k,d)::ps)
def FF(l:List (Int×M D)):M D:=λt=>bnd (Jf l) (FZ t.S.length) {t with S:=t.S++[.dct []]}
section
variable{K:ib}{c:Cf}{H:Hp}
theorem KVR.has{us:List (Key×V)}{kvs:List (Key×D)}(r:KVR K c H us kvs)(k:Key):(EG us k).isSome=(Bb kvs k).isSome:=by
 unfold KVR at r
 induction r with
 |nil=>rfl
 |@cons p q ps qs h t ih=>
   by_cases hk:p.1=k
   .have hq:q.1=k:=h.1.symm.trans hk;rw[HK hk];simp[Bb,ui4,hq]
   .have hq:¬q.1=k:=λz=>hk (h.1.trans z);have:Bb (q::qs) k=Bb qs k:=by simp[Bb,ui4,hq]
    rw[this,HJ hk];exact ih
end
section
variable{X:Cx}{pos:Pos}{e b:Expr}
theorem Rm:PE X (.Dict [] [] pos) (RE X.K (FF [])):=
 AH UJ λσ H Q z9=>by
  clear 5 z9 Oo c t fi r t' eq k;intro p hp;obtain⟨c1,f1,s1,e1⟩:=fi.newObj (o:=.dct []) (u:=.dK []) hp λc' H' ex hu=>⟨[],hu,.nil⟩;have e2:FF [] t=some (.obj t.S.length,{t with S:=t.S++[.dct []]}):=by
   simp[FF,Jf,bnd,L2.ret,FZ,DT]
  rw[e2] at eq
  cases eq
  exact k _ _ c1 f1 s1 (.obj e1)
end
noncomputable def tb(led:Bool)(pl:List Nat):SetTable:={mask:=7,place:=pl.toArray,dummies:=#[],finger:=0,led:=led,moves:=0,plain:=true}
noncomputable def pls:Nat->List (List Nat)
 |0=>[[]]
 |k+1=>(pls k).flatMap λl=>(List.range 8).filterMap λj=>if l.all (· < j) then some (l++[j]) else none
section
variable{P:im}{w:ir}{A:Around}{E:ie->ij->Prop}{s:ij}
end
section
variable{P:im}{w:ir}{A:Around}{I:ig}{fp wr:List ig}{G:Array GenState->Array GenState->Prop}{n:Nat}{Pr:Nat->ie->Prop}{St:Nat->ij->Prop}
end
section
variable{P:im}{w:ir}{A:Around}{E:ie->ij->Prop}{s:ij}
end
section
variable{prog:im}{w:ir}{A:Around}
end
section
variable{X:Cx}
end
section
variable{X:Cx}{pos:Pos}{e:Expr}
end
section
variable{P:im}{w:ir}{A:Around}{E:ie->ij->Prop}{s:ij}
structure ZT(h:Heap)(z TI TO i1 i2 t1 t2:ig)(n:Nat):Prop where
 zz:IsZip h z TI TO .none
 ti:IsPair h TI (.ref i1) (.ref i2)
 ot:∃a b,IsPair h TO a b
 p1:h.IsTupleIter i1 t1 n
 p2:h.IsTupleIter i2 t2 n
end
section
variable{P:im}{w:ir}{A:Around}{E:ie->ij->Prop}{s:ij}
end
section
variable{K:ib}
set_option tactic.hygienic true in
theorem RF.comp2{n:Nat}{fr:List Nat}{f:M (List D)}{st:D->M Unit}{tst:M Bool}{elt:M D}{σ:L2.St}{H:Hp}{Q:VK}(q:RF K (Ca n fr f st tst elt) σ H Q):K0 (RI2 K f) (RG K st) (RT K tst) (RE K elt) (Fq n fr) σ H Q:=by
 clear 5 q Oo c t fi xs t' eq k;clear 5(Af eq)ds t1 e1 eq;refine⟨Oo,c,t,fi,ds,t1,e1,λJ H1 c1 f1 s1 it=>?_⟩
 cases e3:B8 st tst elt ds ⟨cenv n fr t1.env,t1.S⟩ with
 |none=>rw[e3] at eq;cases eq
 |some p=>
   clear 5 p ys t3;rw[e3] at eq;dsimp only at eq
   split at eq
   case isFalse=>cases eq
   next hl=>
   cases eq
   refine⟨λi m acc σ' H'=>m=ds.length-i/\i<=ds.length/\∃c' t2 zs rest,FInv K c1.O c' t2 σ' H'/\Stp c1.O c1 H1 c' H'/\Reps K c' H' acc zs/\B8 st tst elt (ds.drop i) t2=some (rest,t3)/\xs=zs++rest,
    ⟨_,rfl,ul5 _,c1,_,[],xs,Hu f1,.refl,.nil,by rw[uj3];exact e3,rfl⟩,?_⟩
   rintro i m acc σ' H' ⟨rfl,hi,c',t2,zs,rest,f2,s2,ra,e2,ez⟩;have hacc:acc.length<=sizeLine:=by
    have:zs.length<=xs.length:=by rw[ez,ue5];exact ug9 _ _
    rw[ra.length];exact uk9 this (uk9 hl Dm)
   refine⟨hacc,?_⟩
   by_cases hlt:i<ds.length
   .refine .inr ⟨it.go c' H' i s2.ext hlt,λx H'' hy=>?_⟩;clear 5(it.yld c' H' i x H'' _ s2.ext (ub3 hlt) hy)p vs es rfl hp rfl ed rx;rw[ub1 hlt,ed] at e2;unfold B8 at e2;clear 5(Af e2)u t4 e4 e2;clear 5(Af e2)kb t5 e5 e2;have sL:=f2.stp_laid (o:=.tup vs) hp;have s2':=s2.trans sL;have ra':=ra.mono sL.ext;refine⟨c1.O,c',t2,_,f2.laid hp,.tup Ak (f2.s.free hp) (rx.mono (Ext.laid f2.s hp)),t4,e4,λσ3 H3 c3 f3 s3=>⟨c1.O,c3,t4,f3,kb,t5,e5,λH4 c4 f4 s4=>?_⟩⟩
    cases kb with
    |false=>
      rw[lK ue2] at e2⊢;exact⟨ds.length-(i+1),by lia,rfl,hlt,c4,t5,zs,rest,f4,(s2'.trans s3).trans s4,ra'.mono (s3.trans s4).ext,e2,ez⟩
    |true=>
      rw[lJ rfl] at e2⊢;clear 5(Af e2)x6 t6 e6 e2;clear 5(Af e2)r7 t7 e7 e2
      cases e2
      refine⟨c1.O,c4,t5,f4,x6,t6,e6,λv H5 c5 f5 s5 rv=>?_⟩;exact⟨ds.length-(i+1),by lia,rfl,hlt,c5,t6,zs++[x6],r7,f5,((s2'.trans s3).trans s4).trans s5,(ra'.mono ((s3.trans s4).trans s5).ext).append (.cons rv .nil),e7,by rw[ez,uf5];rfl⟩
   .have hi':i=ds.length:=by lia
    subst hi';rw[ug7] at e2
    cases e2
    refine .inl ⟨it.stop c' H' s2.ext,λp hp _=>?_⟩;clear 5 f2.leave si ext;clear 5(f1.after si ⟨s2.ext.trans ext,s2.oo⟩ (λ_=>lI))f6 s6;rw[uh9] at ez;subst ez;exact k p acc H' _ f6 (s1.trans s6) (ra.mono ext) hp
section
variable{X:Cx}{e a b tg iter elt:Expr}{ifs:List Expr}{pos:Pos}{scope:Scope}{N':List Str}{n:Nat}{fr:List Nat}{f:M (List D)}{st:D->M Unit}{tst:M Bool}{el:M D}
theorem T3(O:CmpOk X scope N' (Fq n fr))(hc:X.calm=true)(hi:PI X tg iter (RI2 X.K f))
 (hg:∀cl C s2 H2 fp,PG (BY X N' scope cl C s2 H2 fp) tg (RG X.K st)) (ht:∀cl C s2 H2 fp,PIf (BY X N' scope cl C s2 H2 fp) ifs (RT X.K tst)) (he:∀cl C s2 H2 fp,PE (BY X N' scope cl C s2 H2 fp) elt (RE X.K el))
 (hs:∀x,foldedSetIterable iter X.env x=pure x:=by intro _;rfl):PE X (.ListComp elt [⟨tg,iter,ifs,0⟩] scope pos) (RF X.K (Ca n fr f st tst el)):=
 AH (LL O hc hi hg ht he hs) λ_ _ _ q=>RF.comp2 q
end
def CV(S:List Ob):D->D
 |.tup ds=>.tup (ds.map (Cj S))
 |d=>Cj S d
theorem Ms{K:ib}{c:Cf}{S:List Ob}{H:Hp}(s:SInv K c S H):∀{vs:List V}{ds:List D},Reps K c H vs ds->FR (ds.map (Cj S))=true->Reps K c0 H vs (ds.map (Cj S))
 |_,_,.nil,_=>.nil
 |_,_,.cons h t,p=>by
   simp only[uj8,FR,ug8] at p;exact .cons (Ci s h p.1) (Ms s t p.2)
theorem N3{c:Cf}{S:List Ob}{H:Hp}{v:V}{d:D}(s:SInv K c S H)(r:Rep K c H v d)(p:Bu (CV S d)=true):Rep K c0 H v (CV S d):=by
 cases r with
 |tup h n q=>exact .tup h (Lm _) (Ms s q (by simpa[CV,Bu] using p))
 |@obj a k hk=>exact Ci s (.obj hk) p
 |non=>exact Ci s .non p
 |bl b=>exact Ci s (.bl b) p
 |int b=>exact Ci s (.int b) p
 |str b=>exact Ci s (.str b) p
 |ty b=>exact Ci s (.ty b) p
 |lst h n q=>exact Ci s (.lst h n q) p
 |scr h=>exact Ci s (.scr h) p
 |dic h n=>exact Ci s (.dic h n) p
 |exc a b n f q=>exact Ci s (.exc a b n f q) p
def eqT(g:Bool->Bool)(x y:D):M D:=λt=>if (Bu (CV t.S x)&&Bu (CV t.S y))=true then(eqN EQD (CV t.S x) (CV t.S y)).map λb=>(.bl (g b),t) else none
set_option tactic.hygienic true
theorem XA{g:Bool->Bool}:BB K (Qt K g) (eqT g):=λ{Oo c t σ H x y dx dy r t' Q} f rx ry eq k=>by
 unfold eqT at eq
 split at eq
 .next hp=>
  rw[ug8] at hp;clear 5(uc2.mp eq)b e1 e2
  cases e2
  exact⟨c0,_,_,b,N3 f.s rx hp.1,N3 f.s ry hp.2,e1,k _ H c f .refl (.bl (g b))⟩
 .cases eq
def JU:List D->M D
 |[.obj k,.ty m]=>λt=>match t.S[k]? with
   |some (.lst _)=>(Ge "list" m).map λb=>(.bl b,t)
   |_=>none
 |ds=>CY ds
theorem U4:GN K (US K) JU:=λ{Oo c t σ H xs ds r t' Q} f rx eq k=>by
 unfold JU at eq
 split at eq
 .next n m=>
  clear 5(VS rx)v u rfl rv ru
  cases ru
  obtain⟨a,rfl,hk⟩:=rv.rv
  split at eq
  .next ds es=>
   clear 5(uc2.mp eq)b e1 e2
   cases e2
   clear 5(f.s.obs _ a _ hk es)us g1 g2;exact⟨.ref a,m,.type "list",b,rfl,.lst g1,O0 (d:=.lst []) rfl e1,k _ H c f .refl (.bl b)⟩
  .cases eq
 .exact Pg f rx eq k
section
variable{X:Cx}{elt:Expr}{pos:Pos}{e:Expr}{es:List Expr}
end
end
section
variable{X:Cx}{ic:List (ig×Obj)}{σ:St}{H:Hp}{s:ij}{a:ig}{kvs:List (Key×V)}{o:Obj}
end
section
variable{X:Cx}
end
section
variable{X:Cx}
end
open SeqAt
section
variable{X:Cx}{pos:Pos}
end
structure ZL(h:Heap)(z TI TO i1 i2 t1 t2:ig)(n:Nat):Prop where
 zz:IsZip h z TI TO .none
 ti:IsPair h TI (.ref i1) (.ref i2)
 ot:∃a b,IsPair h TO a b
 p1:h.IsListIter i1 t1 n
 p2:h.IsListIter i2 t2 n
section
variable{X:Cx}{a b:Expr}{pos:Pos}
end
open PySem.W
section
variable{prog:im}{w:ir}{A:Around}{h:Heap}{g:Array GenState}{d:Drawn}{t:Nat}{os:OsState}{R:Result->ij->Prop}
variable{nm q:Str}{C N fI:ig}{bs bm bmB:List ie}{hdct:Bool}{sn:List Str}{sub:List ie}{ab:Bool}{col:Option Bool}{dd:Option ig}{k0 k1 k2 k3 k5:Option ie}{B newId initId:String}{mN:Str->Option ie}
abbrev excObj(C tp:ig):Obj:={cls:=.ref C,data:=.fields #[.ref tp,.none,.none,.none,.bool false,.none]}
abbrev Ew(h:Heap)(C:ig)(us:List ie):Heap:=(h.push {cls:=.type "tuple",data:=.seq us.toArray}).push (excObj C h.objs.size)
theorem JW(F:ExcBaseFacts B newId initId bmB)(T:OwnTail h bmB bm){us:List ie}(hC:h.get? C=some (excClassObj nm q C N bs bm hdct sn sub ab col dd k0 k1 k2 k3 k5 newId))(hn:h.Ns N mN)(hni:mN "__init__" = some (.ref fI))
 (hb:Looks (model prog w) h (bindSpecial (.ref fI) (.ref (h.objs.size+1))) (.ref fI,[.ref (h.objs.size+1)])) (hus:us.length<=sizeLine)
 (hq:codeAny (model prog w) (A.under (.builtin "type.__call__" ⟨.ref C::us,[]⟩)) (.call (.ref fI) ⟨.ref (h.objs.size+1)::us,[]⟩) (InitBack (h.objs.size+1) R) ⟨Ew h C us,g,d,t,os⟩) :
 codeAny (model prog w) A (.call (.ref C) ⟨us,[]⟩) R ⟨h,g,d,t,os⟩:=by
 have c1:=tc_lookup;have c2:=tc_bind (.ref C);have ty:(⟨h,g,d,t,os⟩:ij).TypeIs (.ref C) "type":=⟨_,hC,rfl⟩;refine codeAny_of_tree ?_;show wpAny _ _ (callAny (.ref C) _) _ _ _
 repeat (any_goals (first
  |assumption
  |with_reducible refine kg hC ?_
  |wp_step))
 refine⟨rfl,codeAny_call_builtin_at (kc _ (by decide +kernel)) entry_typeCall (jc hC ?_)⟩
 repeat (first
  |with_reducible refine kg hC ?_
  |with_reducible refine wpAny_madeBy_exc hC ?_
  |wp_step)
 refine jd (kc _ F.quiet) (wpAny_check_new_subT F T hC (codeAny_exc_new_subT F T hC ?_ hus))
 change wpAny _ _ _ _ _ (Shared.mk (Ew h C us) g d t os)
 have kp:∀b o,h.get? b=some o->(Ew h C us).get? b=some o:=λb o e=>ub9 _ (ub9 _ e);have he:(Ew h C us).get? (h.objs.size+1)=some {cls:=.ref C,data:=.fields #[.ref h.objs.size,.none,.none,.none,.bool false,.none]}:=by heap_get
 have n1:(Ew h C us).Ns N mN:=hn.keeps kp;have cC:(Value.ref C::bm).contains (.ref C)=true:=by simp
 unfold isInstance
 repeat (first
  |with_reducible refine kg he ?_
  |(with_reducible refine jx (kp _ _ hC) ?_;rw[cC])
  |wp_step)
 show wpAny _ _ (typeLookup (.ref C) _) _ _ _;refine wpAny_typeLookup_tail (kp _ _ hC) n1 (T.keeps kp) F.mroIs F.init.lookup ?_;rw[hni];refine uk6 (ul8 ((hb.keeps kp).at ?_));refine ul8 (lw (ld hq λr s' z=>?_))
 cases r with
 |error e=>exact z
 |ok f=>
   cases f with
   |ret v=>
     clear 5 z rfl z;exact ul9 (ul9 z)
   |_=>exact z.elim
end
open PySem.Builtin PySem.Builtin.ObjectAttr
theorem SN(self:ie):refuseLoop self "__setattr__" [.type "ValueError",.type "Exception",.type "BaseException",.type "object"]=pure ():=by
 kernel_rfl
abbrev GD(C P:ig):List ie:=[.ref C,.ref P,.type "ValueError",.type "Exception",.type "BaseException",.type "object"]
theorem KS(self:ie)(C P:ig):refuseLoop self "__setattr__" (GD C P)=pure ():=by
 rw[GD,refuseLoop_ref,refuseLoop_ref];exact SN self
section
variable{prog:im}{w:ir}{A:Around}{s:ij}{K:ib}{x C P tp:ig}{R:Result->ij->Prop}{name:Str}{v:ie}{tk:Tok}{cd:ClassData}
theorem W6(X:K.In s.heap)(hx:s.heap.get? x=some (excObj C tp))(hc:clsIn K C=some cd)(hmr:cd.mro=GD C P)(ha:findIn K (.ref C) name=some none)
 (h:wpAny (model prog w) A.in1 (storeInOwnDict (.ref x) (.ref C) (.str name tk) name v false) (λfin s'=>match fin with | .done f=>R (.ok f) s' | .again c'=>c'.quiet=true/\codeAny (model prog w) A c' R s') (λe s'=>R (.error e) s') s) :
 codeAny (model prog w) A (.call (.builtin "object.__setattr__") ⟨[.ref x,.str name tk,v],[]⟩) R s:=by
 have SF:=PySem.F.store_object;have I:InstAt s.heap x (excObj C tp) C none:=⟨hx,rfl,rfl,trivial⟩;have ob:Looks (model prog w) s.heap (isInstance (.ref x) (.type "object")) true:=I.type.andThen (looks_mroIn X (by unfold mroIn;rw[hc,uh2,hmr];rfl));refine ju SF.slot.plain SF.entry (@check_slot (model prog w) _ _ s "object.__setattr__" "object" "__setattr__" (.ref x) [.str name tk,v] [] _ SF.kind SF.split ob (SF.args (.ref x) (.str name tk) v) ?_);have mr:Looks (model prog w) s.heap (mroOf (.ref C)) (GD C P):=by rw[<-hmr];exact(lu X hc).andThen .now
 rw[osa_eq,refuse_eq];refine ul8 (ul8 (I.type.here (ul8 (mr.here ?_))));rw[KS];refine ul9 (ul8 (I.type.here (ul8 ((lg X ha).here ?_))));exact ul8 (ul9 h)
theorem XV{E:ie->ij->Prop}{Q:Unit->ij->Prop}(X:K.In s.heap)(hx:s.heap.get? x=some (excObj C tp))(hs:findIn K (.ref C) "__setattr__" = some (some (.builtin "object.__setattr__")))(hc:clsIn K C=some cd)(hmr:cd.mro=GD C P)(hd:cd.hasDict=true)(ha:findIn K (.ref C) name=some none)
 (h:∀h',(∀b o,b≠x->s.heap.get? b=some o->h'.get? b=some o)->h'.get? x=some {excObj C tp with dict:=some s.heap.objs.size}->h'.Ns1 s.heap.objs.size (λy=>if y=name then some v else none)->Q () {s with heap:=h',toks:=s.toks+2}) :
 wpAny (model prog w) A (setAttr (.ref x) name v) Q E s:=by
 have I:InstAt s.heap x (excObj C tp) C none:=⟨hx,rfl,rfl,trivial⟩;refine set_plain X I hs (W6 (s:={s with toks:=s.toks+1}) X hx hc hmr ha ?_);refine ul8 (ul9 (ul8 (ul8 (kr (s:={s with toks:=s.toks+1}) hx (ul8 (Looks.here (s:={s with toks:=s.toks+1}) (lu X hc) ?_))))));rw[hd,lK (by decide)];show wpAny _ _ (alloc _ >>= λdx=>update x _ >>= λ_=>pure (some dx)) _ _ _;have hx1:(s.heap.push emptyDict).get? x=some (excObj C tp):=ub9 _ hx;have hne:s.heap.objs.size≠x:=ul0 (uk7 hx);refine ul8 (wpAny_alloc (s:={s with toks:=s.toks+1}) (ul8 (wpAny_update hx1 (ul9 ?_))));have hx2:((s.heap.push emptyDict).update x λo=>{o with dict:=some s.heap.objs.size}).get? x=some {excObj C tp with dict:=some s.heap.objs.size}:=uc8 _ hx1 rfl;have hk:∀b o,b≠x->s.heap.get? b=some o->((s.heap.push emptyDict).update x λo=>{o with dict:=some s.heap.objs.size}).get? b=some o:=λb o hb e=>(uc1 _ _ (Ne.symm hb)).trans (ub9 _ e);have hdx:((s.heap.push emptyDict).update x λo=>{o with dict:=some s.heap.objs.size}).get? s.heap.objs.size=some emptyDict:=(uc1 _ _ (Ne.symm hne)).trans (ud6 _ rfl);have n1:((s.heap.push emptyDict).update x λo=>{o with dict:=some s.heap.objs.size}).Ns1 s.heap.objs.size λ_=>none:=⟨_,#[],_,hdx,rfl,(λe he=>by simp at he),(by simp[UniqKeys]),λ_=>rfl⟩;refine ul8 (ul9 (ul8 ?_));refine wpAny_nsSet1 n1 λh' n2 sb=>?_;clear 5(n2.count (kf name v (ns:=[]) (λy u=>absurd rfl u)))oD esD epD hoD hdD hcD;refine ul8 (kj hoD (by rw[hdD];exact kl (uk9 hcD (by show 1<=_;decide))) ?_);exact ul9 (h h' (λb o hb e=>by
  by_cases hb2:b=s.heap.objs.size
  .subst hb2;exact absurd (uk7 e) (uj6 _)
  .exact(sb.2 b hb2).trans (hk b o hb e)) ((sb.2 x (Ne.symm hne)).trans hx2) n2)
end
section
variable{qx:Bool}
def XRec(qx:Bool)(h:Heap)(x C:ig)(dx:Option ig)(tb:ie):Prop:=∃(o:Obj) (vs:Array ie),h.get? x=some o/\o.cls=.ref C/\o.dict=dx/\o.data=.fields vs/\vs[1]?=some tb/\(qx=true->vs[2]?=some .none/\4<vs.size)
theorem YG{qx:Bool}{vs:Array ie}{v:ie}(h:qx=true->vs[2]?=some .none/\4<vs.size):qx=true->(vs.setIfInBounds 1 v)[2]?=some .none/\4<(vs.setIfInBounds 1 v).size:=λz=>by
 rw[ua1 (by decide),ub4];exact h z
theorem XRec.to{qx:Bool}{h:Heap}{x C:ig}{dx:Option ig}{tb:ie}(r:XRec true h x C dx tb):XRec qx h x C dx tb:=by
 clear 5 r o vs h1 h2 h3 h4 h5 h6;exact⟨o,vs,h1,h2,h3,h4,h5,λ_=>h6 rfl⟩
def XTb(h:Heap)(T:ig):Prop:=∃(o:Obj) (ts:Array ie),h.get? T=some o/\o.data=.fields ts/\ts[3]?=some .none
structure XKeep(fs ch:List ig)(h h':Heap):Prop where
 keep:∀b o,b∉ch->b∉fs->h.get? b=some o->h'.get? b=some o
 slot:∀b o,b∉ch->h.get? b=some o->∃sl,h'.get? b=some {o with slots:=sl}
section
variable{M:Model}{A:Around}{E:ie->ij->Prop}{s:ij}{env:Env}{outer:List Env}{base:Heap}{L x C:ig}{dx:Option ig}{tb:ie}{Q:Unit->ij->Prop}
theorem Gm{o:Obj}{vs:Array ie}(hd:o.data=.fields vs)(f:Array ie->Array ie):(o.mapFields f).data=.fields (f vs)/\(o.mapFields f).cls=o.cls/\(o.mapFields f).dict=o.dict:=by
 clear 5 o c d dt sl
 cases hd
 exact⟨rfl,rfl,rfl⟩
end
end
section
variable{qx:Bool}
abbrev VE:List ie:=[.type "ValueError",.type "Exception",.type "BaseException",.type "object"]
structure XCl(K:ib)(C:ig)(bm:List ie):Prop where
 ex:∃cd dd k0 k1 k2 k3 k5,K.lookup C=some {cls:=.type "type",dict:=dd,data:=.cls cd,slots:=#[k0,k1,k2,k3,some (.builtin "ValueError.__new__"),k5]}/\cd.mro=.ref C::bm/\cd.hasDel=false/\cd.hasDict=true/\nsOkIn K cd.ns=true
 tl:tailIn K VE bm=true
noncomputable def MY(K:ib)(C:ig)(bm:List ie):Bool:=tailIn K VE bm&&match K.lookup C with
 | some ⟨.type "type",_,.cls cd,sl⟩=>(match sl.toList with
   |[_,_,_,_,some (.builtin n),_]=>n == "ValueError.__new__" && cd.mro==.ref C::bm && !cd.hasDel&&cd.hasDict&&nsOkIn K cd.ns
   |_=>false)
 |_=>false
variable{K:ib}{C:ig}{bm:List ie}
set_option tactic.hygienic true in
theorem XCl.of_in(q:MY K C bm=true):XCl K C bm:=by
 unfold MY at q;rw[ug8] at q;refine⟨?_,q.1⟩;have q:=q.2
 split at q
 .rename_i dd cd sl ho
  split at q
  .rename_i k0 k1 k2 k3 n k5 hs;simp only[ug8,lv,Bool.not_eq_true'] at q;obtain⟨⟨⟨⟨rfl,h1⟩,h2⟩,h3⟩,h4⟩:=q;have hsl:sl=#[k0,k1,k2,k3,some (.builtin "ValueError.__new__"),k5]:=by
    cases sl
    exact lD Array.mk hs
   exact⟨cd,dd,k0,k1,k2,k3,k5,by rw[ho,hsl],h1,h2,h3,h4⟩
  .cases q
 .cases q
theorem XCl.obj{K:ib}{C:ig}{bm:List ie}{h:Heap}(c:XCl K C bm)(X:K.In h):∃nm q N bs sn sub ab col dd k0 k1 k2 k3 k5,h.get? C=some (excClassObj nm q C N bs bm true sn sub ab col dd k0 k1 k2 k3 k5 "ValueError.__new__")/\h.Ns N (h.nsMap N):=by
 obtain⟨⟨nm,bs,mro,ns,qn,hd,sn,sub,ab,col,del⟩,dd,k0,k1,k2,k3,k5,h1,h2,h3,h4,h5⟩:=c.ex;dsimp only at h2 h3 h4 h5;subst h2 h3 h4;exact⟨nm,qn,ns,bs,sn,sub,ab,col,dd,k0,k1,k2,k3,k5,X _ _ h1,.of_isNs (isNs_of_in X h5)⟩
variable{h:Heap}
theorem XCl.tail(c:XCl K C bm)(X:K.In h):OwnTail h VE bm:=tail_of_in X c.tl
theorem XCl.has(c:XCl K C bm)(X:K.In h):(Value.ref C::bm).contains (.type "BaseException")=true:=by
 rw[List.contains_cons,(c.tail X).hasType (b:=true) (by decide +kernel),Bool.or_true]
section
variable{M:Model}{A:Around}{E:ie->ij->Prop}{env:Env}{K:ib}{C:ig}{bm:List ie}{s:ij}
theorem UV{t:Sem ie}{Q:Flow->ij->Prop}(c:XCl K C bm)(hh:A.handled=none)
 (h:wpAny M A t (λv s1=>∃x dx,v=.ref x/\K.In s1.heap/\XRec qx s1.heap x C dx .none/\E v s1) E s):wpAny M A (raiseStmt env (some t) none) Q E s:=by
 unfold raiseStmt;refine ul8 (um0 h (λv s1 q=>?_) λ_ _ z=>z);obtain⟨x,dx,rfl,X,⟨o,vs,hx,hc,hd,hdt,h1,_⟩,hE⟩:=q;obtain⟨nm,q,N,bs,sn,sub,ab,col,dd,k0,k1,k2,k3,k5,hC,_⟩:=c.obj X;have hb:=c.has X;clear 5 s1 hp g d tk os
 repeat (first
  |(with_reducible refine kg hx ?_;rw[hc])
  |with_reducible refine kg hC ?_
  |(with_reducible refine jx hC ?_;rw[hb])
  |with_reducible refine ul7 hx hdt h1 ?_
  |wp_step)
 exact wpAny_raiseNew_none hh hE
end
def CX1(qx:Bool)(P:im)(w:ir):CXT:=λouter H s E e s'=>∃(x C:ig) (dx:Option ig) (T:ig) (H':Hp),e=.ref x/\s'.os=s.os/\AllBare s'.gens/\Un (frs outer) [] H H' s.heap s'.heap/\HOk P w H' s'.heap/\
 H' x=some (.ext (L2.XIs qx x C dx))/\s.heap.objs.size<=x/\s.heap.objs.size<=T/\T≠x/\H' T=none/\XRec qx s'.heap x C dx (.ref T)/\XTb s'.heap T/\E (.ref x) dx H'
variable{dx:Option ig}
theorem XRec.is{x:ig}{tb:ie}(r:XRec qx h x C dx tb):L2.XIs qx x C dx h:=by
 obtain⟨o,vs,h1,h2,h3,h4,_,h5⟩:=r;exact⟨o,vs,h1,h2,h3,h4,h5⟩
theorem XIs.stay{x:ig}{h1 h2:Heap}(r:L2.XIs qx x C dx h1)(k:∀o,h1.get? x=some o->h2.get? x=some o):L2.XIs qx x C dx h2:=by
 clear 5 r o vs e q;exact⟨o,vs,k o e,q⟩
theorem Io{P:im}{w:ir}{H:Hp}{x:ig}(r:L2.XIs qx x C dx h):ObjOk P w H h x (.ext (L2.XIs qx x C dx)):=
 ⟨r,let ⟨o,_,e,_⟩:=r;⟨o,e⟩,λ_ _ q k=>XIs.stay q k⟩
section
variable{X:Cx}{ic:List (ig×Obj)}{σ:St}{H H':Hp}{s s':ij}{h':Heap}{x C T:ig}{dx:Option ig}{ch:List ig}
theorem Vl(k:XKeep (frs X.stack) ch s.heap h')(hT:∀b∈ch,b=x\/b=T):Un (frs X.stack) (x::T::[]) H H s.heap h':=by
 have nch:∀b:ig,b∉(x::T::[])->b∉ch:=λb hb z=>hb (by rcases hT b z with rfl|rfl<;>simp);refine⟨λb o e n hb hx=>k.keep b o (nch b hx) hb e,λb o e n hb hx=>k.slot b o (nch b hx) e,λb o e n _=>n,λb o e hx=>?_,λ_ _ e=>e,λ_ _ _ e=>e,λb ps e=>⟨#[],by rw[e];simp⟩⟩;clear 5(k.slot b o (nch b hx) e)sl q;exact⟨_,q⟩
theorem Inv.left(I:Inv X ic σ H s)(hx:H x=some (.ext (L2.XIs qx x C dx)))(hT:H T=none)(nx:X.s₀.heap.objs.size<=x)(nT:X.s₀.heap.objs.size<=T)(k:XKeep (frs X.stack) ch s.heap h')(hc:∀b∈ch,b=x\/b=T)(r:L2.XIs qx x C dx h')
 (oT:∀y c,X.env.cells.lookup y=some c->c≠T) (lT:T≠X.env.locals) (pT:∀p∈X.pn++ic,p.1≠T):Inv X ic σ H {s with heap:=h'}:=by
 have nfr:∀b u,H b=some u->b∉frs X.stack:=λb u e z=>by rw[I.stkFree b z] at e;cases e
 refine I.call (g':=s.gens) (t':=s.toks) (d':=s.drawn) (ch:=[x,T]) (Vl k hc) (λb u e=>?_) I.bare λb hb=>?_
 .by_cases hb:b=x
  .subst hb;rw[hx] at e;cases e;exact Io r
  .refine(I.hok b u e).stay (λc v hcc q=>k.keep c v ?_ ?_ q) (λ_ q=>q) λ_ _ q=>q
   .intro z;rcases hcc with rfl|hcc
    .rcases hc c z with q|q
     .exact hb q
     .rw[q,hT] at e;cases e
    .rcases hc c z with q|q
     .rw[q,hx] at hcc;cases hcc
     .rw[q,hT] at hcc;cases hcc
   .rcases hcc with rfl|hcc
    .exact nfr _ _ e
    .exact nfr _ _ hcc
 .have q:b=x\/b=T:=by simpa using hb
  rcases q with rfl|rfl
  .exact⟨.inr nx,(λz=>by rw[z,I.free] at hx;cases hx),(λy c e z=>by subst z;rw[I.freeC y c e] at hx;cases hx),λp hp z=>by rw[<-z,(I.pin p hp).2.1] at hx;cases hx⟩
  .exact⟨.inr nT,lT,oT,pT⟩
theorem Inv.raised(I:Inv X ic σ H s){E:XK}{e:ie}(q:CX1 qx X.prog X.w X.stack H s E e s'):∃(x C:ig) (dx:Option ig) (T:ig) (H':Hp),e=.ref x/\Inv X ic σ H' s'/\H' x=some (.ext (L2.XIs qx x C dx))/\s.heap.objs.size<=x/\s.heap.objs.size<=T/\T≠x/\H' T=none/\XRec qx s'.heap x C dx (.ref T)/\XTb s'.heap T/\E (.ref x) dx H':=by
 clear 5 q x C dx T H' he os bare un hok hx nx nT ne hT r tb q;clear 5 s' hh g d t os';obtain rfl:os'=s.os:=os;exact⟨x,C,dx,T,H',he,I.call (h':=hh) (g':=g) (d':=d) (t':=t) (ch:=[]) un hok bare (λb z=>absurd z (by simp)),hx,nx,nT,ne,hT,r,tb,q⟩
theorem Inv.newT(I:Inv X ic σ H s)(h:s.heap.objs.size<=T):T≠X.env.locals/\(∀y c,X.env.cells.lookup y=some c->c≠T)/\∀p∈X.pn++ic,p.1≠T:=by
 have far:∀b o,s.heap.get? b=some o->b≠T:=λb o e z=>absurd (ue0 (uk7 e) h) (by rw[z];exact uj6 _);refine⟨λz=>absurd I.lt (by rw[<-z];exact Nat.not_lt.mpr h),λy c e=>?_,λp hp=>far _ _ (I.pin p hp).1⟩;obtain⟨v,o,ho,_⟩:=I.cell y c e;exact far c o ho
end
section
variable{P:im}{w:ir}{K:ib}{mg:Str->Option ie}{base:Heap}{N:List Str}{qual:Str}{scope:Scope}{f:ig}{cd:ie}{A:Around}{outer:List Env}{s₀:ij}{H₀:Hp}{E:XK}
end
end
noncomputable def exO(x C tp:ig):HO:=.ext λh=>h.get? x=some (excObj C tp)
noncomputable def FK(x C tp dx:ig):HO:=.ext λh=>h.get? x=some {excObj C tp with dict:=some dx}
theorem Nv{P:im}{w:ir}{H:Hp}{h:Heap}{x C tp:ig}(e:h.get? x=some (excObj C tp)):ObjOk P w H h x (exO x C tp):=⟨e,⟨_,e⟩,λ_ _ p k=>k _ p⟩
theorem Wa{P:im}{w:ir}{H:Hp}{h:Heap}{x C tp dx:ig}(e:h.get? x=some {excObj C tp with dict:=some dx}):ObjOk P w H h x (FK x C tp dx):=⟨e,⟨_,e⟩,λ_ _ p k=>k _ p⟩
structure XAt(K:ib)(C P:ig)(f:Str):Prop where
 cl:XCl K C (.ref P::VE)
 set:findIn K (.ref C) "__setattr__" = some (some (.builtin "object.__setattr__"))
 no:findIn K (.ref C) f=some none
theorem XCl.cls{K:ib}{C:ig}{bm:List ie}(c:XCl K C bm):∃cd,clsIn K C=some cd/\cd.mro=.ref C::bm/\cd.hasDict=true:=by
 obtain⟨cd,dd,k0,k1,k2,k3,k5,h1,h2,_,h4,_⟩:=c.ex;exact⟨cd,by unfold clsIn;rw[h1],h2,h4⟩
def sXF(K:ib)(P:ig)(ta tv:TE)(f:Str):TS:=λD σ H=>tv σ H λy H1=>ta σ H1 λx H2=>∃a C tp,x=.ref a/\H2 a=some (exO a C tp)/\XAt K C P f/\
 ∀dx,H2 dx=none->dx≠a->D.nx σ (upd (upd H2 dx (.xd [(f,y)])) a (FK a C tp dx))
theorem Qp{X:Cx}{P:ig}{o value:Expr}{ta tv:TE}{f:Str}{pos' pos:Pos}(ha:PE X o ta)(hv:PE X value tv)(hs:swapsWith value (some (.Attribute o f pos')) pos.line X.env=pure false):PS X (.Assign [.Attribute o f pos'] value pos) (sXF X.K P ta tv f):=by
 intro ic s σ H D I h;refine iy (thn (hv ic s σ H _ I h) λu s1 ⟨y,H1,I1,ry,q⟩=>thn (ha ic s1 σ H1 _ I1 q) λov s2 z9=>?_) hs;clear 5 z9 x H2 I2 rx a C tp ex ea c q2;subst ex;obtain rfl:ov=Value.ref a:=rx;clear 5 c.cl.cls cd c1 c2 c3;have hx:s2.heap.get? a=some (excObj C tp):=(I2.hok a _ ea).1;refine XV I2.kIn hx c.set c1 c2 c3 c.no λh' k e n=>?_;have fr:=I2.hok.fresh (ul4 s2.heap.objs.size);have ne:s2.heap.objs.size≠a:=(λz=>by rw[z,ea] at fr;cases fr)
 have nn:∀b u,H2 b=some u->b≠s2.heap.objs.size:=λb u z=>AQ z fr;have na:∀b u,s2.heap.get? b=some u->H2 b=none->b≠a:=λb u _ z w'=>by rw[w',ea] at z;cases z
 refine⟨σ,_,I2.un (h':=h') (t':=s2.toks+2) ⟨λb u e1 e2 _ _=>k b u (na b u e1 e2) e1,λb u e1 e2 _ _=>⟨u.slots,k b u (na b u e1 e2) e1⟩,λb u e1 e2 _=>?_,λb u e1 _=>?_,λb xs e1=>?_,λb o' u e1=>?_,λb ps e1=>⟨#[],?_⟩⟩ λb u e1=>?_,q2 s2.heap.objs.size fr ne⟩
 .rw[Ah (na b u e1 e2),Ah (uk8 (uk7 e1))];exact e2
 .by_cases hb:b=a
  .subst hb;exact⟨_,e⟩
  .exact⟨_,k b u hb e1⟩
 .rw[Ah (λz=>by rw[z,ea] at e1;cases e1),Ah (nn _ _ e1)];exact e1
 .rw[Ah (λz=>by rw[z,ea] at e1;cases e1),Ah (nn _ _ e1)];exact e1
 .rw[Ah (λz=>by rw[z,ea] at e1;cases e1),Ah (nn _ _ e1),e1];simp
 .by_cases hb:b=a
  .subst hb;rw[Ak] at e1;cases e1;exact Wa e
  .rw[Ah hb] at e1
   by_cases hb2:b=s2.heap.objs.size
   .subst hb2;rw[Ak] at e1;cases e1
    refine⟨_,n,λg=>?_⟩
    by_cases hg:g=f
    .subst hg;simp only[List.lookup,uh4,lH];exact ry
    .have hgb:(g==f)=false:=jv.mpr hg;simp only[List.lookup,hgb,lK hg];trivial
   .rw[Ah hb2] at e1;refine(I2.hok b u e1).stay (λz v hz q=>k z v ?_ q) (λz q=>?_) λz xs q=>?_
    .rcases hz with rfl|hz
     .exact hb
     .intro w';rw[w',ea] at hz;cases hz
    .rw[Ah (λz=>by rw[z,ea] at q;cases q),Ah (nn _ _ q)];exact q
    .rw[Ah (λz=>by rw[z,ea] at q;cases q),Ah (nn _ _ q)];exact q
section
variable{qx:Bool}
set_option tactic.hygienic true in
theorem HE{K:ib}{h:Heap}{N:ig}{m:Str->Option ie}{n:Str}{v:ie}(X:K.In h)(G:h.Ns N m)(e:nsIn K N n=some (some v)):m n=some v:=by
 obtain⟨o,es,ep,ho,hd,_,hf⟩:=G;unfold nsIn at e
 split at e
 .next c d es' n' sl q=>
  have z:=X _ _ q;rw[ho] at z
  cases z
  cases hd
  split at e
  .next en he=>
   rw[<-hf];unfold nsFind findBy;rw[<-ue3,he];simpa using e
  .split at e<;>cases e
 .cases e
structure XMk(K:ib)(C P f:ig):Prop where
 cl:XCl K C (.ref P::VE)
 init:∃cd,clsIn K C=some cd/\nsIn K cd.ns "__init__" = some (some (.ref f))
 fn:isFn K (.ref f)=true
 kp:keepIn K (.ref C)=true
def spI(K:ib)(P:ig)(a:Str):Sp:=λvs H Q _=>∃x C tp v,vs=[.ref x,v]/\H x=some (exO x C tp)/\XAt K C P a/\∀dx,H dx=none->dx≠x->Q .non (upd (upd H dx (.xd [(a,v)])) x (FK x C tp dx))
section
variable{X:Cx}{k:Nat}{f C P:ig}{fd:iu}{ic:List (ig×Obj)}{σ:St}{H:Hp}{s:ij}{Q:ie->ij->Prop}{us:List ie}{vs:List V}{a:Str}{ps:List Str}{v:V}{u:ie}
set_option tactic.hygienic true in
theorem SQ(M:XMk X.K C P f)(ha:XAt X.K C P a)(F:FnOk X.prog X.w X.K X.mg X.base CX0 k f fd ps (spI X.K P a))(hr:Room (k+1) X.A)(hb:Binds X.K fd ps [])(I:Inv X ic σ H s)(r:RelV v u)
 (h:∀s' x dx,Inv X ic σ (upd (upd H dx (.xd [(a,v)])) x (.ext (L2.XIs qx x C (some dx)))) s'->H x=none->H dx=none->dx≠x->s.heap.objs.size<=x->XRec true s'.heap x C (some dx) .none->Q (.ref x) s'):wpAny (model X.prog X.w) X.A (call (.ref C) [u]) Q X.xe s:=by
 clear 5(M.cl.obj I.kIn)nm q N bs sn sub ab col dd k0 k1 k2 k3 k5 hC hN;have hni:s.heap.nsMap N "__init__" = some (.ref f):=by
  clear 5 M.init cd c1 c2;refine HE I.kIn hN ?_;unfold clsIn at c1
  split at c1
  .next l=>
   cases c1
   have z:=I.kIn _ _ l;rw[hC] at z
   cases z
   exact c2
  .cases c1
 have I1:Inv X ic σ (upd H (s.heap.objs.size+1) (exO (s.heap.objs.size+1) C s.heap.objs.size)) {s with heap:=Ew s.heap C [u]}:=by
  refine I.laid (t':=s.toks) (λb o e=>ub9 _ (ub9 _ e)) (ul6 _) (Nv ?_);show((s.heap.push _).push _).get? _=_
  heap_get
 have hx0:=I.hok.fresh (ul6 s.heap.objs.size);have r2:Vals [V.ref (s.heap.objs.size+1),v] [Value.ref (s.heap.objs.size+1),u]:=.cons rfl (.cons r .nil);have hsp:spI X.K P a [V.ref (s.heap.objs.size+1),v] (upd H (s.heap.objs.size+1) (exO (s.heap.objs.size+1) C s.heap.objs.size))
  (λw' H'=>w'=.non/\∃dx,H dx=none/\dx≠s.heap.objs.size+1/\H'=upd (upd H dx (.xd [(a,v)])) (s.heap.objs.size+1) (FK (s.heap.objs.size+1) C s.heap.objs.size dx)) E0:=by
  refine⟨_,C,s.heap.objs.size,v,rfl,Ak,ha,λdx h1 h2=>⟨rfl,dx,by rw[Ah h2] at h1;exact h1,h2,?_⟩⟩
  funext b
  by_cases e1:b=s.heap.objs.size+1
  .subst e1;rw[Ak,Ak]
  .by_cases e2:b=dx
   .subst e2;rw[Ah e1,Ah e1,Ak,Ak]
   .rw[Ah e1,Ah e1,Ah e2,Ah e2,Ah e1]
 have hl:([Value.ref (s.heap.objs.size+1),u]++[]).length=ps.length:=by
  have e:=F.len _ _ _ _ hsp;simpa using e
 clear 5 s hh g d t os;refine lw (JW ua6 (M.cl.tail I.kIn) hC hN hni ((bind_fn I.kIn _ (lv.mp M.fn))) (by show 1<=sizeLine;decide) ?_);refine ld (F.run _ X.stack _ _ ⟨[Value.ref (hh.objs.size+1),u],[]⟩ [Value.ref (hh.objs.size+1),u] _ _ E0 (hr.make C [u] []) (I1.env0.make C [u] []) (by have:=hb _ [Value.ref (hh.objs.size+1),u] I1.kIn hl;simpa using this) r2 hsp) λr s' hq'=>?_
 cases r with
 |error e=>exact hq'.elim
 |ok fl=>
   cases fl with
   |ret w'=>
     clear 5(I1.after hq')v' H' I3 rv rfl dx d1 d2 rfl;refine⟨rv,?_⟩;have hx:=(I3.hok (hh.objs.size+1) _ Ak).1;have hx:s'.heap.get? (hh.objs.size+1)=some {excObj C hh.objs.size with dict:=some dx}:=hx;have xr:XRec true s'.heap (hh.objs.size+1) C (some dx) .none:=⟨_,_,hx,rfl,rfl,rfl,rfl,λ_=>⟨rfl,by show 4<6;decide⟩⟩;have I4:=I3.write (x:=hh.objs.size+1) (e:=hh.objs.size+1) (o:=.ext (L2.XIs qx (hh.objs.size+1) C (some dx))) (h':=s'.heap) (t':=s'.toks) (by rw[Ak];trivial) (.inl rfl) (λ_ _ _ z=>z) ⟨_,hx⟩ (Io xr.to.is);rw[LX] at I4;exact h s' (hh.objs.size+1) dx I4 hx0 d1 d2 (ul6 _) xr
   |next=>exact False.elim hq'
   |brk=>exact False.elim hq'
   |cont=>exact False.elim hq'
end
end
section
variable{qx:Bool}
section
variable{M:Model}{A:Around}{E:ie->ij->Prop}{K:ib}{s:ij}{x C C':ig}{bm bm':List ie}{dx:Option ig}{tb:ie}
theorem JX{Q:Bool->ij->Prop}(c:XCl K C bm)(c':XCl K C' bm')(X:K.In s.heap)(hx:XRec qx s.heap x C dx tb)(h:Q ((Value.ref C::bm).contains (.ref C')) s):wpAny M A (excMatches (.ref x) (.ref C')) Q E s:=by
 obtain⟨nm,q,N,bs,sn,sub,ab,col,dd,k0,k1,k2,k3,k5,hC,_⟩:=c.obj X;obtain⟨nm',q',N',bs',sn',sub',ab',col',dd',k0',k1',k2',k3',k5',hC',_⟩:=c'.obj X;have hb:=c'.has X;clear 5 hx o vs ho hc hd hdt h1;clear 5 s hp g d tk os;have ty:(⟨hp,g,d,tk,os⟩:ij).TypeIs (.ref C') "type":=⟨_,hC',rfl⟩;have nt:=tc_notTuple
 cases hbb:(Value.ref C::bm).contains (.ref C')<;>(
  rw[hbb] at h;unfold excMatches
  repeat (first
   |(with_reducible refine kg ho ?_;rw[hc])
   |with_reducible refine kg hC' ?_
   |(with_reducible refine jx hC' ?_;rw[hb])
   |(with_reducible refine jx hC ?_;rw[hbb])
   |wp_step)
  exact h)
end
end
section
variable{qx:Bool}
def Tx(h:Heap)(T:ig)(fl:ie):Prop:=∃(o:Obj) (ts:Array ie),h.get? T=some o/\o.data=.fields ts/\ts[3]?=some fl
section
variable{M:Model}{A:Around}{E:ie->ij->Prop}{s:ij}{env:Env}{outer:List Env}{base:Heap}{L x C:ig}{dx:Option ig}{tb:ie}{Q:Unit->ij->Prop}
theorem Me{hadNext:Bool}{hd:ie}(hfr:A.frames=some (env::outer))(hl:s.heap.FunFrames base (env::outer))(hf:env.frame=some L)(hx:XRec qx s.heap x C dx tb)
 (h:∀h' T,s.heap.objs.size<=T->T≠x->XRec qx h' x C dx (.ref T)->Tx h' T (rawInt L)->XKeep (frs (env::outer)) [x] s.heap h'->Q () {s with heap:=h'}) :
 wpAny M A (do let fo <-frameOf env;let at' <-entryPlaceOf L hadNext;let en <-EntryCells.newEntry hd fo .none (rawInt L) .none at';setField (.ref x) 1 en) Q E s:=by
 clear 5 hx ox vs gx cx dxe dtx tbx xc;have v1:1<vs.size:=(ua7.mp tbx).1;have nfr:x∉frs (env::outer):=λz=>by
  obtain⟨_,o2,g2,n2⟩:=hl.mem z;rw[gx] at g2;cases g2
  exact n2 vs dtx
 refine ul8 (wpAny_frameOf_fun hfr hl hf λh1 so=>?_);refine ul8 (wpAny_entryPlaceOf λat' ip=>?_);unfold EntryCells.newEntry newFields;refine ul8 (wpAny_newObj_type ?_ (ip.sizeOk5 _ _ _ _ _));generalize hne:(Obj.mk (Value.type "traceback") none (Data.fields ([hd,Value.ref L,Value.none,rawInt L,Value.none]++if at'.isEmpty=true then List.replicate 6 Value.none else at').toArray) #[])=nob;have dn:nob.data=.fields ([hd,Value.ref L,Value.none,rawInt L,Value.none]++if at'.isEmpty=true then List.replicate 6 Value.none else at').toArray:=by rw[<-hne]
 have gx1:h1.get? x=some ox:=(so.2.1 x nfr).trans gx;have gx2:(h1.push nob).get? x=some ox:=ub9 _ gx1;have nex:h1.objs.size≠x:=ul0 (uk7 gx1);refine ku gx2 dtx v1 ?_;clear 5(Gm dtx (·.setIfInBounds 1 (Value.ref h1.objs.size)))m1 m2 m3;have gx3:=uc8 (Obj.mapFields (·.setIfInBounds 1 (Value.ref h1.objs.size))) gx2 (jr m1);have gT2:(h1.push nob).get? h1.objs.size=some nob:=ud6 h1 (jr dn);have gT3:=(uc1 (h1.push nob) (Obj.mapFields (·.setIfInBounds 1 (Value.ref h1.objs.size))) (Ne.symm nex)).trans gT2;have vx:(vs.setIfInBounds 1 (Value.ref h1.objs.size))[1]?=some (.ref h1.objs.size):=by simp[v1]
 have old:∀b o,b≠x->h1.get? b=some o->((h1.push nob).update x (Obj.mapFields (·.setIfInBounds 1 (Value.ref h1.objs.size)))).get? b=some o:=λb o hb e=>by
  rw[uc1 _ _ (Ne.symm hb)];exact ub9 _ e
 refine h _ h1.objs.size (lc so.1.symm) nex ⟨_,_,gx3,m2.trans cx,m3.trans dxe,m1,vx,YG xc⟩ ⟨_,_,gT3,dn,?_⟩ ⟨λb o hb hbf e=>old b o (λz=>hb (by simp[z])) ((so.2.1 b hbf).trans e),λb o hb e=>?_⟩
 .rw[List.getElem?_toArray];rfl
 .clear 5(so.2.2 b o e)sl e1;exact⟨sl,old b _ (λz=>hb (by simp[z])) e1⟩
end
structure XOn(qx:Bool)(X:Cx)(ic:List (ig×Obj))(H:Hp)(s:ij)(x C:ig)(dx:Option ig)(T:Option ig)(fl:ie):Prop where
 hx:H x=some (.ext (L2.XIs qx x C dx))
 nx:X.s₀.heap.objs.size<=x
 rc:XRec qx s.heap x C dx (match T with|some a=>.ref a|none=>.none)
 tb:∀a,T=some a->a≠x/\H a=none/\X.s₀.heap.objs.size<=a/\(a≠X.env.locals/\(∀y c,X.env.cells.lookup y=some c->c≠a)/\∀p∈X.pn++ic,p.1≠a)/\Tx s.heap a fl
 fo:fl=.none\/fl=rawInt X.env.locals
section
variable{M:Model}{A:Around}{Er:ie->ij->Prop}{X:Cx}{ic:List (ig×Obj)}{σ:St}{H:Hp}{s:ij}{x C:ig}{dx T:Option ig}{fl:ie}{Q:Unit->ij->Prop}
theorem E2(fr:Option ig)(I:Inv X ic σ H s){a:ig}(o:XOn qx X ic H s x C dx (some a) fl)(hfr:fr=none\/fr=some X.env.locals)
 (k:∀h',Inv X ic σ H {s with heap:=h'}->XOn qx X ic H {s with heap:=h'} x C dx (some a) (fr.elim Value.none λf=>rawInt f)->Q () {s with heap:=h'}):wpAny M A (setFlight (.ref x) fr) Q Er s:=by
 clear 5(id o.rc)ox vs gx cx dxe dtx tbx xc;clear 5(o.tb a rfl)ne hT nT oT ot ts gT dT t3;unfold setFlight;refine ul8 (ul7 gx dtx tbx ?_);rw[lJ (show(Value.ref a != Value.none)=true from rfl)];refine ku gT dT (ua7.mp t3).1 ?_;clear 5(Gm dT (·.setIfInBounds 3 (fr.elim Value.none λf=>rawInt f)))m1 m2 m3;have gT2:=uc8 (Obj.mapFields (·.setIfInBounds 3 (fr.elim Value.none λf=>rawInt f))) gT (jr m1);have oth:∀b,b≠a->(s.heap.update a (Obj.mapFields (·.setIfInBounds 3 (fr.elim Value.none λf=>rawInt f)))).get? b=s.heap.get? b:=λb z=>uc1 _ _ (Ne.symm z);have rc':XRec qx (s.heap.update a (Obj.mapFields (·.setIfInBounds 3 (fr.elim Value.none λf=>rawInt f)))) x C dx (.ref a):=⟨ox,vs,(oth x (Ne.symm ne)).trans gx,cx,dxe,dtx,tbx,xc⟩;refine k _ (I.left o.hx hT o.nx nT (ch:=[a]) ⟨λb u hb _ e=>(oth b (by simpa using hb)).trans e,λb u hb e=>⟨u.slots,(oth b (by simpa using hb)).trans e⟩⟩ (λb hb=>.inr (by simpa using hb)) rc'.is oT.2.1 oT.1 oT.2.2) ⟨o.hx,o.nx,rc',λa' e=>?_,?_⟩
 .cases e
  exact⟨ne,hT,nT,oT,_,_,gT2,m1,by rw[Array.getElem?_setIfInBounds_self,lJ (ua7.mp t3).1]⟩
 .rcases hfr with rfl|rfl
  .exact .inl rfl
  .exact .inr rfl
theorem Go(hA:A.frames=some X.stack)(I:Inv X ic σ H s)(hs:X.stack=X.env::X.outer)(hf:X.env.frame=some X.env.locals)(o:XOn qx X ic H s x C dx T fl)
 (k:∀h' a,Inv X ic σ H {s with heap:=h'}->XOn qx X ic H {s with heap:=h'} x C dx (some a) (rawInt X.env.locals)->Q () {s with heap:=h'}):wpAny M A (noteFrame (.ref x) X.env) Q Er s:=by
 clear 5(id o.rc)ox vs gx cx dxe dtx tbx xc;have fin:∀(s1:ij) (hh:∃h1,s1 = {s with heap:=h1}) (ch:List ig) (h':Heap) (a:ig),Inv X ic σ H s1->s1.heap.objs.size<=a->a≠x->XRec qx h' x C dx (.ref a)->Tx h' a (rawInt X.env.locals)->XKeep (frs (X.env::X.outer)) [x] s1.heap h'->Q () {s1 with heap:=h'}:=by
  rintro s1 ⟨h1,rfl⟩ ch h' a I1 l1 l2 l3 l4 l5;clear 5(I1.newT l1)o1 o2 o3;have J:=I1.left o.hx (I1.hok.fresh l1) o.nx (uk9 I1.sz l1) (ch:=[x]) (hs ▸ l5) (λb hb=>.inl (by simpa using hb)) l3.is o2 o1 o3;exact k h' a J ⟨o.hx,o.nx,l3,λa' e=>by cases e;exact⟨l2,I1.hok.fresh l1,uk9 I1.sz l1,⟨o1,o2,o3⟩,l4⟩,.inr rfl⟩
 unfold noteFrame;simp only[hf];refine ul8 (ul7 gx dtx tbx ?_)
 cases T with
 |none=>
   rw[lK (by decide)];exact Me (hA.trans (lD some hs)) (hs ▸ I.stack) hf o.rc λh' a l1 l2 l3 l4 l5=>fin s ⟨s.heap,rfl⟩ [] h' a I l1 l2 l3 l4 l5
 |some T₀=>
   clear 5(o.tb T₀ rfl)ne hT nT oT ot ts gT dT t3;rw[lJ (show(Value.ref T₀ != Value.none)=true from rfl)];refine ul8 (ul7 gT dT t3 ?_);rcases o.fo with rfl|rfl
   .rw[lK (show ¬((Value.none==rawInt X.env.locals)=true) from by simp[rawInt])];refine ul8 (ku gT dT (ua7.mp t3).1 ?_);have oth:∀b,b≠T₀->(s.heap.update T₀ (Obj.mapFields (·.setIfInBounds 3 Value.none))).get? b=s.heap.get? b:=λb z=>uc1 _ _ (Ne.symm z);have rc':XRec qx (s.heap.update T₀ (Obj.mapFields (·.setIfInBounds 3 Value.none))) x C dx (.ref T₀):=⟨ox,vs,(oth x (Ne.symm ne)).trans gx,cx,dxe,dtx,tbx,xc⟩;have J:=I.left o.hx hT o.nx nT (ch:=[T₀]) ⟨λb u hb _ e=>(oth b (by simpa using hb)).trans e,λb u hb e=>⟨u.slots,(oth b (by simpa using hb)).trans e⟩⟩ (λb hb=>.inr (by simpa using hb)) rc'.is oT.2.1 oT.1 oT.2.2;exact Me (s:={s with heap:=s.heap.update T₀ (Obj.mapFields (·.setIfInBounds 3 Value.none))}) (hA.trans (lD some hs)) (hs ▸ J.stack) hf rc' λh' a l1 l2 l3 l4 l5=>fin _ ⟨_,rfl⟩ [] h' a J l1 l2 l3 l4 l5
   .rw[lJ (show(rawInt X.env.locals==rawInt X.env.locals)=true from by first|(simp;done)|exact uh4 _)];exact ul9 (k s.heap T₀ I ⟨o.hx,o.nx,o.rc,o.tb,.inr rfl⟩)
end
def XE(qx:Bool)(X:Cx)(E:St->XK):ie->ij->Prop:=λe s=>∃ic σ H x C dx T fl,e=.ref x/\Inv X ic σ H s/\XOn qx X ic H s x C dx T fl/\E σ (.ref x) dx H
def C1(CX:CXT)(X:Cx)(E:St->XK):Prop:=∀(ic:List (ig×Obj)) (σ:St) (H:Hp) (s:ij) (e:ie) (s':ij),Inv X ic σ H s->CX X.stack H s (E σ) e s'->X.xe e s'
section
variable{M:Model}{X:Cx}{E:St->XK}
theorem XE.own(hs:X.stack=X.env::X.outer)(hf:X.env.frame=some X.env.locals):PassesOwn M X.A X.env (XE qx X E):=by
 rintro e s ⟨ic,σ,H,x,C,dx,T,fl,rfl,I,o,q⟩;refine Go I.ok.frames I hs hf o λh' a I' o'=>?_;clear 5(id o'.rc)ox vs gx cx dxe dtx tbx xc;unfold cameBackBy;refine ul8 (ul7 gx dtx tbx ?_);rw[lK (show ¬((Value.ref a==Value.none)=true) from by intro z;cases z)]
 rw[hf];exact E2 _ I' o' (.inr rfl) λh'' I'' o''=>⟨ic,σ,H,x,C,dx,some a,_,rfl,I'',o'',q⟩
theorem XE.pass:C1 (CX1 qx X.prog X.w) (X.wish (XE qx X E)) E:=by
 intro ic σ H s e s' I q;clear 5(I.unwish.raised q)x C dx T H' rfl J hx nx nT ne hT r tb q;exact⟨ic,σ,H',x,C,dx,some T,.none,rfl,J,⟨hx,uk9 I.sz nx,r,λa e=>by cases e;exact⟨ne,hT,uk9 I.sz nT,I.unwish.newT nT,tb⟩,.inl rfl⟩,q⟩
end
section
variable{P:im}{w:ir}{K:ib}{mg:Str->Option ie}{base:Heap}
abbrev cxX(qx:Bool)(P:im)(w:ir)(K:ib)(mg:Str->Option ie)(base:Heap)(N:List Str)(qual:Str)(scope:Scope)(f:ig)(cd:ie)(A:Around)(outer:List Env)(s:ij)(H:Hp)(E:XK):Cx:=
 (D5 (CX1 qx P w) P w K mg base N qual scope f cd A outer s H E).wish (XE qx (D5 (CX1 qx P w) P w K mg base N qual scope f cd A outer s H E) λ_=>E)
theorem XE.leaves{N:List Str}{qual:Str}{scope:Scope}{f:ig}{cd:ie}{A:Around}{outer:List Env}{s₀:ij}{H₀:Hp}{E:XK}{e:ie}{s:ij}
 (h:XE qx (D5 (CX1 qx P w) P w K mg base N qual scope f cd A outer s₀ H₀ E) (λ_=>E) e s):(D5 (CX1 qx P w) P w K mg base N qual scope f cd A outer s₀ H₀ E).xe e s:=by
 clear 5 h ic σ H x C dx T fl rfl I o q;refine ul8 (Go I.ok.frames I rfl rfl o λh' a I' o'=>?_);refine E2 none I' o' (.inl rfl) λh'' I'' o''=>?_;clear 5(o''.tb a rfl)ne hT nT oT tb;exact⟨x,C,dx,a,H,rfl,I''.os,I''.bare,I''.base,I''.hok,o''.hx,o''.nx,nT,ne,hT,o''.rc,tb,q⟩
theorem Fun.okX{x qual:Str}{st:Stmt}{f:ig}{fd:iu}{N ps:List Str}{k:Nat}{sp:Sp}(F:Fun K x qual st f fd)(S:FnScope N ps (An st))(len:∀vs H Q E,sp vs H Q E->vs.length=ps.length)
 (hbody:∀(cdv:ie) (A:Around) (outer:List Env) (s:ij) (H:Hp) (vs:List V) (Q:VK) (E:XK),Room k (A.deeper (envOfC qual (An st) s.heap.objs.size f cdv))->sp vs H Q E->
   ∃t,PSs (cxX qx P w K mg base N qual (An st) f cdv A outer s H E) (Bq st) t/\t {nx:=λ_ H'=>Q .non H',rt:=Q} (Dl N vs) H):FnOk P w K mg base (CX1 qx P w) (k+1) f fd ps sp:=by
 clear 5 F.ex oc od kV doc pm an cdv ct osl rfl lk hcd;refine VF lk hcd S len λA outer s H vs Q E hr hsp=>?_;clear 5(hbody cdv A outer s H vs Q E hr hsp)t h q;exact⟨t,λic s1 σ H1 D I hw=>um0 (h ic s1 σ H1 D (I.wish _) hw) (λ_ _ q=>q.unwish) λ_ _ z=>z.leaves,q⟩
theorem FnOk.calm{k:Nat}{f:ig}{fd:iu}{ps:List Str}{sp sp':Sp}(F:FnOk P w K mg base (CX1 qx P w) k f fd ps sp)(h:∀vs H Q E,sp' vs H Q E->sp vs H Q E0):FnOk P w K mg base CX0 k f fd ps sp':=by
 refine⟨λvs H Q E q=>F.len vs H Q E0 (h _ _ _ _ q),λA outer s H args us vs Q E hr he hb hv hs=>ld (F.run A outer s H args us vs Q E0 hr he hb hv (h _ _ _ _ hs)) λr s' q=>?_⟩
 cases r with
 |error e=>obtain⟨_,_,_,_,_,_,_,_,_,_,_,_,_,_,_,_,_,z⟩:=q;exact z.elim
 |ok fl=>cases fl<;>exact q
end
section
variable{X:Cx}{CX:CXT}{k:Nat}{f:ig}{fd:iu}{ps:List Str}{sp:Sp}{E:St->XK}{x:Str}{p pos:Pos}{e:Expr}{es:List Expr}{t:TA}
def Tb(sp:Sp)(E:St->XK)(t:TA):TE:=λσ H Q=>t σ H λvs H1=>sp vs H1 Q (E σ)
theorem UH(F:FnOk X.prog X.w X.K X.mg X.base CX k f fd ps sp)(hr:Room k X.A)(hg:Gl X x)(hm:X.mg x=some (.ref f))(hk:PySem.W.keepIn X.K (.ref f)=true)(hb:Binds X.K fd ps [])(hx:C1 CX X E)
 (ha:PA X (e::es) t) (hdb:(x==("__debug__":Str))=false:=by decide) (he:starEach (e::es) X.env=(false,eval e X.env)::starEach es X.env:=by rfl) (hpl:(backTo pos (starEach es X.env)).any (·.1)=false:=by rfl) :
 PE X (.Call (.Name x p) (e::es) [] pos) (Tb sp E t):=by
 intro ic s σ H Q I h;refine jz (C6 I hg hm ?_ hdb);refine ue4 (h₀:=X.base) I.ok.mod.kin hk (thn (ha pos ic s σ H _ I h) λus s1 z9=>?_) he hpl;clear 5 z9 vs H1 I1 r q;refine⟨I1.kIn,?_⟩;have hl:(us++[]).length=ps.length:=by rw[uh9,<-r.length];exact F.len _ _ _ _ q
 refine lw (ld (F.run X.A X.stack s1 H1 ⟨us,[]⟩ us vs Q (E σ) hr I1.env0 (by have:=hb s1 us I1.kIn hl;rwa [uh9] at this) r q) λr s' hq=>?_)
 cases r with
 |error e=>exact hx ic σ H1 s1 e s' I1 hq
 |ok fl=>
   cases fl with
   |ret u=>exact I1.after hq
   |next=>exact False.elim hq
   |brk=>exact False.elim hq
   |cont=>exact False.elim hq
end
end
section
variable{qx:Bool}
def PM(qx:Bool)(X:Cx)(e:Expr)(C:ig)(t:St->Hp->(ig->Option ig->Hp->Prop)->Prop):Prop:=
 ∀(ic:List (ig×Obj)) (s:ij) (σ:St) (H:Hp) (Q:ig->Option ig->Hp->Prop),Inv X ic σ H s->t σ H Q->
  wpAny (model X.prog X.w) X.A (eval e X.env) (λv s1=>∃x dx H1,v=.ref x/\Inv X ic σ H1 s1/\H1 x=some (.ext (L2.XIs qx x C dx))/\X.s₀.heap.objs.size<=x/\XRec true s1.heap x C dx .none/\Q x dx H1) X.xe s
def F6(qx:Bool)(X:Cx)(E:St->XK):Prop:=∀(ic:List (ig×Obj)) (σ:St) (H:Hp) (s:ij) (x C:ig) (dx:Option ig),Inv X ic σ H s->XOn qx X ic H s x C dx none .none->E σ (.ref x) dx H->X.xe (.ref x) s
theorem XE.raises{X:Cx}{E:St->XK}:F6 qx (X.wish (XE qx X E)) E:=λic σ H s x C dx I o q=>⟨ic,σ,H,x,C,dx,none,.none,rfl,I.unwish,⟨o.hx,o.nx,o.rc,o.tb,o.fo⟩,q⟩
theorem J0{X:Cx}{e:Expr}{C:ig}{bm:List ie}{t:St->Hp->(ig->Option ig->Hp->Prop)->Prop}{E:St->XK}{pos:Pos}(hc:X.calm=true)(c:XCl X.K C bm)(hx:F6 qx X E)(h:PM qx X e C t)
 (ho:evalOpt (some e) X.env=some (eval e X.env):=by rfl):PS X (.Raise (some e) none pos) (λ_ σ H=>t σ H λx dx H1=>E σ (.ref x) dx H1):=by
 intro ic s σ H D I q;rw[arm_exec_Raise,ho];refine ul8 (kx ?_);refine UV (qx:=true) c (I.ok.hd hc) ?_;refine ul8 (um0 (h ic s σ H _ I q) (λv s1 z9=>?_) λ_ _ z=>z);clear 5 z9 x dx H1 e1 I1 hx1 nx r q1;subst e1;refine ul8 (kx (ul9 ⟨x,dx,rfl,I1.kIn,r,hx ic σ H1 s1 x C dx I1 ⟨hx1,nx,r.to,(λa e=>by cases e),.inl rfl⟩ q1⟩))
set_option tactic.hygienic true in
theorem Qi{K:ib}{h:Heap}{N:ig}{m:Str->Option ie}{n:Str}(X:K.In h)(G:h.Ns N m)(e:nsIn K N n=some none):m n=none:=by
 obtain⟨o,es,ep,ho,hd,_,hf⟩:=G;unfold nsIn at e
 split at e
 .next c d es' n' sl q=>
  have z:=X _ _ q;rw[ho] at z
  cases z
  cases hd
  split at e
  .cases e
  .next he=>rw[<-hf];unfold nsFind findBy;rw[<-ue3,he];rfl
 .cases e
section
variable{prog:im}{w:ir}{A:Around}{E:ie->ij->Prop}{h:Heap}{g:Array GenState}{d:Drawn}{t:Nat}{os:OsState}{Q:ie->ij->Prop}
variable{nm q:Str}{C N:ig}{bs bm bmB:List ie}{hdct:Bool}{sn:List Str}{sub:List ie}{ab:Bool}{col:Option Bool}{dd:Option ig}{k0 k1 k2 k3 k5:Option ie}{B newId initId:String}{mN:Str->Option ie}
theorem Sb(F:ExcBaseFacts B newId initId bmB)(T:OwnTail h bmB bm){us:List ie}(hC:h.get? C=some (excClassObj nm q C N bs bm hdct sn sub ab col dd k0 k1 k2 k3 k5 newId))(hn:h.Ns N mN)(hni:mN "__init__" = none)(hus:us.length<=sizeLine)
 (hq:∀h' tp,(∀b o,h.get? b=some o->h'.get? b=some o)->h'.get? (h.objs.size+1)=some (excObj C tp)->Q (.ref (h.objs.size+1)) ⟨h',g,d,t,os⟩) :
 wpAny (model prog w) A (call (.ref C) us) Q E ⟨h,g,d,t,os⟩:=by
 have c1:=tc_lookup;have c2:=tc_bind (.ref C);have ty:(⟨h,g,d,t,os⟩:ij).TypeIs (.ref C) "type":=⟨_,hC,rfl⟩;refine lw (codeAny_of_tree ?_);show wpAny _ _ (callAny (.ref C) _) _ _ _
 repeat (any_goals (first
  |assumption
  |with_reducible refine kg hC ?_
  |wp_step))
 refine⟨rfl,codeAny_call_builtin_at (kc _ (by decide +kernel)) entry_typeCall (jc hC ?_)⟩
 repeat (first
  |with_reducible refine kg hC ?_
  |with_reducible refine wpAny_madeBy_exc hC ?_
  |wp_step)
 refine jd (kc _ F.quiet) (wpAny_check_new_subT F T hC (codeAny_exc_new_subT F T hC ?_ hus))
 change wpAny _ _ _ _ _ (Shared.mk (Ew h C us) g d t os)
 have kp:∀b o,h.get? b=some o->(Ew h C us).get? b=some o:=λb o e=>ub9 _ (ub9 _ e);have he:(Ew h C us).get? (h.objs.size+1)=some {cls:=.ref C,data:=.fields #[.ref h.objs.size,.none,.none,.none,.bool false,.none]}:=by heap_get
 have n1:(Ew h C us).Ns N mN:=hn.keeps kp;have cC:(Value.ref C::bm).contains (.ref C)=true:=by simp
 unfold isInstance
 repeat (first
  |with_reducible refine kg he ?_
  |(with_reducible refine jx (kp _ _ hC) ?_;rw[cC])
  |wp_step)
 show wpAny _ _ (typeLookup (.ref C) _) _ _ _;refine wpAny_typeLookup_tail (kp _ _ hC) n1 (T.keeps kp) F.mroIs F.init.lookup ?_;rw[hni];refine uk6 (ul8 (wpAny_of_eq (F.init.bind _) (ul8 (lw (ju F.init.plain F.initEntry (wpAny_check_init_subT F (T.keeps kp) (kp _ _ hC) he rfl ?_))))))
 wp_walk
 refine hq _ ((Ew h C us).objs.size) (λb o hb=>?_) ?_
 .rw[uc1 _ _ (ul0 (Nat.lt_succ_of_lt (uk7 hb)))];exact ub9 _ (kp b o hb)
 .rw[uc8 _ (ub9 _ he) rfl];rfl
end
section
variable{X:Cx}{k:Nat}{f C P:ig}{fd:iu}{a:Str}{ps:List Str}{n:Str}{p pos:Pos}{e:Expr}{es:List Expr}
theorem Z0{t:TA}(M:XMk X.K C P f)(ha:XAt X.K C P a)(F:FnOk X.prog X.w X.K X.mg X.base CX0 k f fd ps (spI X.K P a))(hr:Room (k+1) X.A)(hb:Binds X.K fd ps [])(hg:Gl X n)(hm:X.mg n=some (.ref C))(hA:PA X [e] t)
 (hdb:(n==("__debug__":Str))=false:=by decide) (h1:starEach [e] X.env=[(false,eval e X.env)]:=by rfl) :
 PM qx X (.Call (.Name n p) [e] [] pos) C (λσ H Q=>t σ H λvs H1=>∃v,vs=[v]/\∀x dx,H1 x=none->H1 dx=none->dx≠x->Q x (some dx) (upd (upd H1 dx (.xd [(a,v)])) x (.ext (L2.XIs qx x C (some dx))))):=by
 intro ic s σ H Q I h;refine jz (C6 I hg hm ?_ hdb);refine ue4 (h₀:=X.base) I.ok.mod.kin M.kp (thn (hA pos ic s σ H _ I h) λus s1 z9=>?_) h1 rfl;clear 5 z9 vs H1 I1 r v ev q;refine⟨I1.kIn,?_⟩;subst ev
 cases r with
 |cons r0 rs=>
   cases rs
   exact SQ M ha F hr hb I1 r0 λs' x dx I' hx hdx ne nx rc=>⟨x,some dx,_,rfl,I',Ak,uk9 I1.sz nx,rc,q x dx hx hdx ne⟩
set_option tactic.hygienic true in
theorem Xi{t:TA}{bm:List ie}{cd:ClassData}(c:XCl X.K C bm)(hk:keepIn X.K (.ref C)=true)(hcd:clsIn X.K C=some cd)(hni:nsIn X.K cd.ns "__init__" = some none)(hg:Gl X n)(hm:X.mg n=some (.ref C))(ha:PA X (e::es) t)
 (hdb:(n==("__debug__":Str))=false:=by decide) (h1:starEach (e::es) X.env=(false,eval e X.env)::starEach es X.env:=by rfl) (hpl:(backTo pos (starEach es X.env)).any (·.1)=false:=by rfl) :
 PM qx X (.Call (.Name n p) (e::es) [] pos) C (λσ H Q=>t σ H λvs H1=>vs.length<=1000/\∀x,H1 x=none->Q x none (upd H1 x (.ext (L2.XIs qx x C none)))):=by
 intro ic s σ H Q I h;refine jz (C6 I hg hm ?_ hdb);refine ue4 (h₀:=X.base) I.ok.mod.kin hk (thn (ha pos ic s σ H _ I h) λus s1 z9=>?_) h1 hpl;clear 5 z9 vs H1 I1 r hl q;refine⟨I1.kIn,?_⟩;clear 5(c.obj I1.kIn)nm q' N bs sn sub ab col dd k0 k1 k2 k3 k5 hC hN;have hni':s1.heap.nsMap N "__init__" = none:=by
  unfold clsIn at hcd
  split at hcd
  .next l=>
   cases hcd
   have z:=I1.kIn _ _ l;rw[hC] at z
   cases z
   exact Qi I1.kIn hN hni
  .cases hcd
 clear 5 s1 hh g d tk os;refine Sb ua6 (c.tail I1.kIn) hC hN hni' (by show us.length<=sizeLine;rw[<-r.length];exact uk9 hl (by decide)) λh' tp kp ht=>?_;have xr:XRec true h' (hh.objs.size+1) C none .none:=⟨_,_,ht,rfl,rfl,rfl,rfl,λ_=>⟨rfl,by show 4<6;decide⟩⟩;exact⟨_,none,_,rfl,I1.laid (h':=h') (t':=tk) kp (ul6 _) (Io xr.to.is),Ak,uk9 I1.sz (ul6 _),xr,q _ (I1.hok.fresh (ul6 _))⟩
end
end
section
variable{qx:Bool}
abbrev Cx.mark(X:Cx)(x:ig):Cx:={X with A:=X.A.mark (some (.ref x)),calm:=false,xe:=λ_ _=>False}
section
variable{X:Cx}{ic:List (ig×Obj)}{σ:St}{H:Hp}{s:ij}{D:Ends}
theorem Inv.mark(I:Inv X ic σ H s)(x:ig):Inv (X.mark x) ic σ H s:=
 ⟨⟨I.ok.mod,I.ok.kind,I.ok.glob,I.ok.blt,I.ok.above,I.ok.inj,I.ok.has,I.ok.cab,(λz=>by cases z),I.ok.frames,I.ok.stk,I.ok.exf,I.ok.bs,I.ok.bsz,I.ok.noex,I.ok.exfs,I.ok.funs,I.ok.frf⟩,I.os,I.bare,I.base,I.loc,I.cell,I.free,I.freeC,I.pin,I.hok,I.len⟩
theorem Inv.unmark{x:ig}(J:X.Ok)(I:Inv (X.mark x) ic σ H s):Inv X ic σ H s:=⟨J,I.os,I.bare,I.base,I.loc,I.cell,I.free,I.freeC,I.pin,I.hok,I.len⟩
theorem Inv.repin{pn' pins':List (ig×Obj)}{xe:ie->ij->Prop}(I:Inv X ic σ H s)(h:∀p∈pn'++pins',p∈X.pn++ic):Inv {X with pn:=pn',xe:=xe} pins' σ H s:=
 ⟨⟨I.ok.mod,I.ok.kind,I.ok.glob,I.ok.blt,I.ok.above,I.ok.inj,I.ok.has,I.ok.cab,I.ok.hd,I.ok.frames,I.ok.stk,I.ok.exf,I.ok.bs,I.ok.bsz,I.ok.noex,I.ok.exfs,I.ok.funs,I.ok.frf⟩,I.os,I.bare,I.base,I.loc,I.cell,I.free,I.freeC,λp hp=>I.pin p (h p hp),I.hok,I.len⟩
theorem SP.unmark{x:ig}(J:X.Ok){f:Flow}(h:SP (X.mark x) ic D f s):SP X ic D f s:=by
 cases f with
 |next=>clear 5 h σ' H' I q;exact⟨σ',H',I.unmark J,q⟩
 |brk=>clear 5 h σ' H' I q;exact⟨σ',H',I.unmark J,q⟩
 |cont=>clear 5 h σ' H' I q;exact⟨σ',H',I.unmark J,q⟩
 |ret u=>clear 5 h v σ' H' I r q;exact⟨v,σ',H',I.unmark J,r,q⟩
theorem HI{M:Model}{A:Around}{E:ie->ij->Prop}{i:Nat}{n:Str}{pos:Pos}{Q:Unit->ij->Prop}(I:Inv X ic σ H s)(hN:X.N.Nodup)(hi:X.N[i]?=some n)(hk:X.env.scope.names.lookup n=some .local)
 (h:∀s',Inv X ic (σ.set i none) H s'->Q () s'):wpAny M A (do bindName X.env n .none;unbindBehindTheSuite X.env n pos) Q E s:=by
 refine ul8 (wpAny_bindName (Gu (v:=.non) I hN hi (.inl hk) rfl (λs1 I1=>?_) (.inr hk)));unfold unbindBehindTheSuite;have hiσ:i < σ.length:=by rw[I.len];exact(ua9.mp hi).1
 clear 5(id I1.loc)m hn hl;have hcls:(X.env.scope.kind==.class||(X.env.scope.kind==.module&&X.env.locals != X.env.globals))=false:=by rw[I.ok.kind];rfl
 obtain⟨u0,_,lk⟩:=hl i n .non hi (by rw[ub8 hiσ]) (.inl hk);have hv:m n=some u0:=by
  rcases lk with⟨_,e⟩|⟨k,_⟩
  .exact e
  .have k:X.env.scope.names.lookup n=some .cell\/X.env.scope.names.lookup n=some .free:=k;rw[hk] at k;rcases k with k|k<;>cases k
 refine wpAny_onRaise (wpAny_unbindName_local hk hn hv hcls λh' u hn' hs=>?_);have cne:=I1.cne;have tracked:HOk X.prog X.w H h':=λb ob e=>by
  refine(I1.hok b ob e).stay (λc w' hc q=>(hs.2 c ?_).trans q) (λ_ q=>q) λ_ _ q=>q;rintro rfl;rcases hc with rfl|hc
  .rw[I1.free] at e;cases e
  .rw[I1.free] at hc;cases hc
 have far:∀b o,X.s₀.heap.get? b=some o->b≠X.env.locals:=λb o e=>uk8 (ue0 (uk7 e) I1.ok.above);refine h _ ⟨I1.ok,I1.os,I1.bare,⟨λb o e n hb hx=>?_,λb o e n hb hx=>?_,I1.base.free,λb o e hx=>?_,I1.base.tups,I1.base.frzs,I1.base.tbls⟩,⟨_,hn',λj y v' e1 e2 e3=>?_⟩,λy c e=>?_,I1.free,I1.freeC,λp hp=>?_,tracked,by simpa using I.len⟩
 .exact(hs.2 b (far b o e)).trans (I1.base.keep b o e n hb hx)
 .clear 5(I1.base.slot b o e n hb hx)sl e1;exact⟨sl,(hs.2 b (far b o e)).trans e1⟩
 .clear 5(I1.base.there b o e hx)o' e1;exact⟨o',(hs.2 b (far b o e)).trans e1⟩
 .by_cases hj:j=i
  .subst hj;rw[ub8 hiσ] at e2
   cases e2
  .rw[ud2 (Ne.symm hj)] at e2;clear 5(hl j y v' e1 (by rw[ud2 (Ne.symm hj)];exact e2) e3)u' r' q;refine⟨u',r',?_⟩;rcases q with⟨k,e⟩|⟨k,c,e,z⟩
   .refine .inl ⟨k,?_⟩;have:y≠n:=λe=>hj (HC hN e1 (e ▸ hi));simp[this,e]
   .exact .inr ⟨k,c,e,z.sameBut hs (cne y c e)⟩
 .clear 5(I1.cell y c e)w' z;exact⟨w',z.sameBut hs (cne y c e)⟩
 .clear 5(I1.pin p hp)e n ne nf d;exact⟨(hs.2 p.1 ne).trans e,n,ne,nf,d⟩
end
def PH(qx:Bool)(X:Cx)(hs:List ExceptHandler)(th:ig->ig->Option ig->TS):Prop:=∀(ic:List (ig×Obj)) (s:ij) (σ:St) (H:Hp) (x C:ig) (dx:Option ig) (T:ig) (D:Ends),Inv X ic σ H s->XOn qx X ic H s x C dx (some T) .none->th x C dx D σ H->
 wpAny (model X.prog X.w) X.A (handleBy (.ref x) X.env hs) (SP X ic D) X.xe s
noncomputable def Ends.unset(D:Ends)(i:Nat):Ends:={nx:=λσ H=>D.nx (σ.set i none) H,rt:=D.rt,bk:=λσ H=>D.bk (σ.set i none) H,ct:=λσ H=>D.ct (σ.set i none) H}
section
variable{X:Cx}{n v:Str}{C':ig}{bm':List ie}{p pos:Pos}{b₀:Stmt}{suite:List Stmt}{rest:List ExceptHandler}{ts:ig->TS}{tr:ig->ig->Option ig->TS}{i:Nat}
def eM(K:ib)(C':ig)(i:Nat)(ts:ig->TS)(tr:ig->ig->Option ig->TS):ig->ig->Option ig->TS:=λx C dx D σ H=>∃bm,XCl K C bm/\
 if (Value.ref C::bm).contains (.ref C')=true then ts x (D.unset i) (σ.set i (some (.ref x))) H else tr x C dx D σ H
theorem bP(hg:Gl X n)(hm:X.mg n=some (.ref C'))(c':XCl X.K C' bm')(hN:X.N.Nodup)(hi:X.N[i]?=some v)(hl:X.env.scope.names.lookup v=some .local)(hb:∀x,PSs (X.mark x) (b₀::suite) (ts x))(hr:PH qx X rest tr)
 (hdb:(n==("__debug__":Str))=false:=by decide):PH qx X (.ExceptHandler (some (.Name n p)) (some v) (b₀::suite) pos::rest) (eM X.K C' i ts tr):=by
 intro ic s σ H x C dx T D I o ⟨bm,c,q⟩;have Im:=I.mark x;refine jy (jt (C6 Im hg hm ?_ hdb)) (by intro z;cases z)
 refine JX c c' I.kIn o.rc ?_
 cases hc:(Value.ref C::bm).contains (.ref C') with
 |false=>
   rw[hc,lK (by decide)] at q;exact hr ic s σ H x C dx T D I o q
 |true=>
   rw[hc,lJ rfl] at q;refine je ?_;refine E2 none I o (.inl rfl) λh1 I1 o1=>?_;refine Gu (v:=.ref x) I1 hN hi (.inl hl) rfl (λs2 I2=>?_) (.inr hl);refine um0 (hb x ic s2 _ H _ (I2.mark x) q) (λf s3 z=>?_) λ_ _ z=>z.elim;show wpAny _ _ _ _ _ _;have J:=I.ok
   cases f with
   |next=>clear 5 z σ' H' I' q';exact HI (I'.unmark J) hN hi hl λs4 I4=>⟨_,H',I4,q'⟩
   |brk=>clear 5 z σ' H' I' q';exact HI (I'.unmark J) hN hi hl λs4 I4=>⟨_,H',I4,q'⟩
   |cont=>clear 5 z σ' H' I' q';exact HI (I'.unmark J) hN hi hl λs4 I4=>⟨_,H',I4,q'⟩
   |ret u=>clear 5 z w σ' H' I' r q';exact HI (I'.unmark J) hN hi hl λs4 I4=>⟨w,_,H',I4,r,q'⟩
def eN(K:ib)(C':ig)(ts:TS)(tr:ig->ig->Option ig->TS):ig->ig->Option ig->TS:=λx C dx D σ H=>∃bm,XCl K C bm/\
 if (Value.ref C::bm).contains (.ref C')=true then ts D σ H else tr x C dx D σ H
theorem bQ{ts:TS}(hg:Gl X n)(hm:X.mg n=some (.ref C'))(c':XCl X.K C' bm')(hb:∀x,PSs (X.mark x) (b₀::suite) ts)(hr:PH qx X rest tr)
 (hdb:(n==("__debug__":Str))=false:=by decide):PH qx X (.ExceptHandler (some (.Name n p)) none (b₀::suite) pos::rest) (eN X.K C' ts tr):=by
 intro ic s σ H x C dx T D I o ⟨bm,c,q⟩;have Im:=I.mark x;refine jy (jt (C6 Im hg hm ?_ hdb)) (by intro z;cases z)
 refine JX c c' I.kIn o.rc ?_
 cases hc:(Value.ref C::bm).contains (.ref C') with
 |false=>
   rw[hc,lK (by decide)] at q;exact hr ic s σ H x C dx T D I o q
 |true=>
   rw[hc,lJ rfl] at q;refine codeAny_handlers_suite ?_;refine E2 none I o (.inl rfl) λh1 I1 o1=>?_;exact um0 (hb x ic _ _ H _ (I1.mark x) q) (λf s3 z=>z.unmark I.ok) λ_ _ z=>z.elim
theorem Z3{body:List Stmt}{h₀:ExceptHandler}{hs:List ExceptHandler}{tb:(St->XK)->TS}{th:ig->ig->Option ig->TS}(h1:X.stack=X.env::X.outer)(h2:X.env.frame=some X.env.locals)
 (hb:∀(pn:List (ig×Obj)) (E:St->XK),PSs {X with pn:=pn,xe:=XE qx {X with pn:=pn} E} body (tb E)) (hh:PH qx X (h₀::hs) th) :
 PS X (.Try body (h₀::hs) [] [] pos) (λD σ H=>tb (λσ' v dx H'=>∀x C,v=.ref x->H' x=some (.ext (L2.XIs qx x C dx))->(∃h,L2.XIs qx x C dx h)->th x C dx D σ' H') D σ H):=by
 intro ic s σ H D I q;refine wpAny_Try_except ?_;refine um0 (hb (X.pn++ic) _ [] s σ H D (I.repin λp hp=>by simpa using hp) q) (λf s1 z=>?_) λe s1 z=>?_
 .have back:∀{σ':St}{H':Hp},Inv {X with pn:=X.pn++ic,xe:=XE qx {X with pn:=X.pn++ic} (λσ' v dx H'=>∀x C,v=.ref x->H' x=some (.ext (L2.XIs qx x C dx))->(∃h,L2.XIs qx x C dx h)->th x C dx D σ' H')} [] σ' H' s1->Inv X ic σ' H' s1:=λJ=>J.repin (X:={X with pn:=X.pn++ic,xe:=_}) (pn':=X.pn) (pins':=ic) (xe:=X.xe) λp hp=>by simpa using hp
  cases f with
  |next=>clear 5 z σ' H' J q';exact km ⟨σ',H',back J,q'⟩
  |brk=>clear 5 z σ' H' J q';exact⟨σ',H',back J,q'⟩
  |cont=>clear 5 z σ' H' J q';exact⟨σ',H',back J,q'⟩
  |ret u=>clear 5 z w σ' H' J r q';exact⟨w,σ',H',back J,r,q'⟩
 .clear 5 z pins' σ' H' x C dx T fl rfl J o q';have J1:Inv X ic σ' H' s1:=J.repin (X:={X with pn:=X.pn++ic}) (pn':=X.pn) (pins':=ic) (xe:=X.xe) λp hp=>by
   simp only[uh5] at hp⊢;exact .inl hp
  have o1:XOn qx X ic H' s1 x C dx T fl:=⟨o.hx,o.nx,o.rc,λa e=>by
   obtain⟨z1,z2,z3,⟨y1,y2,y3⟩,z5⟩:=o.tb a e;exact⟨z1,z2,z3,⟨y1,y2,λp hp=>y3 p (by simp only[uh5] at hp⊢;exact .inl hp)⟩,z5⟩,o.fo⟩
  refine Go J1.ok.frames J1 h1 h2 o1 λh' a I' o'=>E2 none I' o' (.inl rfl) λh'' I'' o''=>?_;exact hh ic _ σ' H' x C dx a D I'' o'' (q' x C rfl o.hx ⟨_,o.rc.is⟩)
end
end
section
variable{qx:Bool}
noncomputable def Bt:D->Bool
 |.exc _ _=>true
 |_=>false
def exE(E:XK)(v:V)(H:Hp):Prop:=∀x dx,v=.ref x->E (.ref x) dx H
section
variable(K:ib)
inductive RX(E:L2.St->XK)(f:M D)(σ:L2.St)(H:Hp)(Q:VK):Prop where
 |mk (Oo:ig->Prop) (c:Cf) (t:T) (fi:FInv K Oo c t σ H) (r:D) (t':T) (e:f t=some (r,t')) (k:∀v H' c',FInv K Oo c' t' σ H'->Stp Oo c H c' H'->Rep K c' H' v r->if Bt r=true then exE (E σ) v H' else Q v H'):RX E f σ H Q
def μX(E:XK):Cf->Hp->D->(V->Hp->Prop)->Prop:=λc H r rt=>∀v,Rep K c H v r->if Bt r=true then exE E v H else rt v H
inductive RSX(E:L2.St->XK)(f:M Out)(D:Ends)(σ:L2.St)(H:Hp):Prop where
 |mk (Oo:ig->Prop) (c:Cf) (t:T) (fi:FInv K Oo c t σ H) (o:Out) (t':T) (e:f t=some (o,t')) (k:∀σ' H' c',FInv K Oo c' t' σ' H'->Stp Oo c H c' H'->
 match (generalizing:=false) o with
 |.next=>D.nx σ' H'
 |.brk=>D.bk σ' H'
 |.cont=>D.ct σ' H'
 |.ret r=>∀v,Rep K c' H' v r->if Bt r=true then exE (E σ') v H' else D.rt v H'):RSX E f D σ H
inductive spX(f:Fn)(vs:List V)(H:Hp)(Q:VK)(E:XK):Prop where
 |mk (c:Cf) (ds:List D) (S:List Ob) (si:SInv K c S H) (rs:Reps K c H vs ds) (r:D) (S':List Ob) (e:f ds S=some (r,S')) (k:∀v H' c',SInv K c' S' H'->Stp c.O c H c' H'->(∀b,c'.O b↔c.O b)->Rep K c' H' v r->if Bt r=true then exE E v H' else Q v H'):spX f vs H Q E
end
def II(g:Fn):Fn:=λds S=>match g ds S with
 |some (r,S')=>if Bt r=true then none else some (r,S')
 |none=>none
variable{g:Fn}{r:D}
set_option tactic.hygienic true in
theorem So{ds:List D}{S S':List Ob}(h:II g ds S=some (r,S')):g ds S=some (r,S')/\Bt r=false:=by
 unfold II at h
 split at h
 .next r' S1 e=>
  by_cases hx:Bt r'=true
  .rw[lJ hx] at h;cases h
  .rw[lK hx] at h;cases h;exact⟨e,by simpa using hx⟩
 .cases h
variable{fa:ig}{fd:iu}
section
variable{P:im}{w:ir}{K:ib}{mg:Str->Option ie}{base:Heap}
theorem bh{k:Nat}{ps:List Str}(F:FnOk P w K mg base (CX1 qx P w) k fa fd ps (spX K g)):FnOk P w K mg base CX0 k fa fd ps (spF K (II g)):=
 F.calm λvs H Q E z9=>by
  clear 5 z9 c ds S si rs r S' e kk;clear 5(So e)e1 e2;exact⟨c,ds,S,si,rs,r,S',e1,λv H' c' a1 a2 a3 a4=>by rw[lK (by rw[e2];decide)];exact kk v H' c' a1 a2 a3 a4⟩
set_option tactic.hygienic true in
theorem OP{x qual:Str}{st:Stmt}{N ps:List Str}{k n m:Nat}{g:M Out}(e1:ps.length=n)(e2:N.length=m)(F:Fun K x qual st fa fd)(S:FnScope N ps (An st))
 (hb:∀(cdv:ie) (A:Around) (outer:List Env) (s:ij) (H:Hp) (E:XK),Room k (A.deeper (PyProof.Rows.envOfC qual (An st) s.heap.objs.size fa cdv))->
   C1 (CX1 qx P w) (cxX qx P w K mg base N qual (An st) fa cdv A outer s H E) (λ_=>E)->F6 qx (cxX qx P w K mg base N qual (An st) fa cdv A outer s H E) (λ_=>E)->
   PassesOwn (model P w) (cxX qx P w K mg base N qual (An st) fa cdv A outer s H E).A (cxX qx P w K mg base N qual (An st) fa cdv A outer s H E).env (cxX qx P w K mg base N qual (An st) fa cdv A outer s H E).xe->
   PSs (cxX qx P w K mg base N qual (An st) fa cdv A outer s H E) (Bq st) (RSg K (μX K E) g)):FnOk P w K mg base (CX1 qx P w) (k+1) fa fd ps (spX K (fnOf n m g)):=by
 subst e1 e2;have hlen:∀{ds:List D}{S:List Ob}{z:D×List Ob},fnOf ps.length N.length g ds S=some z->ds.length=ps.length:=λ{ds S z} h=>by
  unfold fnOf at h
  split at h
  .next h1=>exact h1
  .cases h
 refine F.okX S (λvs H Q E h=>?_) (λcdv A outer s H vs Q E hr h=>?_)
 .obtain⟨c,ds,S,si,rs,r,S',e,_⟩:=h;rw[rs.length];exact hlen e
 clear 5 h c ds S0 si rs r S' e kk;refine⟨RSg K (μX K E) g,hb cdv A outer s H E hr XE.pass XE.raises (XE.own rfl rfl),?_⟩;have hl:=hlen e;unfold fnOf at e;rw[lJ hl] at e
 cases eg:g ⟨env0 N.length ds,S0⟩ with
 |none=>rw[eg] at e;cases e
 |some p=>
   clear 5 p o t;rw[eg] at e;refine⟨c.O,c,_,Hv si rs,o,t,eg,λσ' H' c' f' s'=>?_⟩;clear 5 f'.leave si' ext';have st':Stp c.O c H ⟨c'.ι,c.O⟩ H':=⟨s'.ext.trans ext',s'.oo⟩
   cases o with
   |next=>cases e;exact kk .non H' _ si' st' (λ_=>lI) .non
   |ret d=>cases e;exact λv rv=>kk v H' _ si' st' (λ_=>lI) (rv.mono ext')
   |brk=>cases e
   |cont=>cases e
theorem Pd{ps:List Str}{k:Nat}{f:Fn}(e:f=g)(h:FnOk P w K mg base (CX1 qx P w) k fa fd ps (spX K g)):FnOk P w K mg base (CX1 qx P w) k fa fd ps (spX K f):=by rw[e];exact h
end
variable{f:M D}
section
variable{X:Cx}{e a b:Expr}{es:List Expr}{pos:Pos}{E:L2.St->XK}{st:Stmt}
theorem HH{E:XK}{f:M Out}(h:PS X st (RSX X.K (λ_=>E) f)):PS X st (RSg X.K (μX X.K E) f):=Br h λD σ H z9=>by
 clear 5 z9 Oo c t fi o t' eq k;refine⟨Oo,c,t,fi,o,t',eq,λσ' H' c' f' s'=>?_⟩;have q:=k σ' H' c' f' s'
 cases o<;>exact q
theorem OX{k:Nat}{ps:List Str}{f:M (List D)}{x:Str}{p:Pos}(F:FnOk X.prog X.w X.K X.mg X.base (CX1 qx X.prog X.w) k fa fd ps (spX X.K g))(hr:Room k X.A)(hg:Gl X x)(hm:X.mg x=some (.ref fa))(hk:PySem.W.keepIn X.K (.ref fa)=true)(hb:Binds X.K fd ps [])
 (hx:C1 (CX1 qx X.prog X.w) X E) (ha:PA X (e::es) (RA X.K f)) (hdb:(x==("__debug__":Str))=false:=by decide) (h1:Ba e=false:=by rfl) (h2:Bg es=true:=by rfl) :
 PE X (.Call (.Name x p) (e::es) [] pos) (RX X.K E (Aj g f)):=
 AH (UH F hr hg hm hk hb hx ha hdb (A6 h1) (AY h2).1) λσ H Q z9=>by
  clear 5 z9 Oo c t fi r t' eq kk;clear 5(Af eq)ds t1 e1 eq;clear 5(GC eq)S' e2 rfl;refine⟨Oo,c,t,fi,ds,t1,e1,λvs H1 c1 f1 s1 rvs=>?_⟩;refine⟨c1,ds,t1.S,f1.s,rvs,r,S',e2,λv H' c' si st ho rv=>?_⟩;clear 5(f1.after si st ho)f2 s2;exact kk v H' c' f2 (s1.trans s2) rv
def nxD(f:M D):M D:=bnd f λd=>if Bt d=true then fail else ret d
theorem NQ{t t':T}(h:nxD f t=some (r,t')):f t=some (r,t')/\Bt r=false:=by
 clear 5(Af h)d t1 e1 h
 by_cases hx:Bt d=true
 .rw[lJ hx] at h;cases h
 .rw[lK hx] at h;cases h;exact⟨e1,by simpa using hx⟩
theorem RL{A B:Prop}(h:Bt r=false)(q:if Bt r=true then A else B):B:=by rw[lK (by rw[h];decide)] at q;exact q
def Ll(g:M D)(h:D->M D):M D:=bnd g λy=>if Bt y=true then ret y else nxD (h y)
theorem RX.bind{K:ib}{g:M D}{h:D->M D}{σ:L2.St}{H:Hp}{Q:VK}{Oo:ig->Prop}{c:Cf}{t t':T}(fi:FInv K Oo c t σ H)(eq:Ll g h t=some (r,t'))
 (k:∀v H' c',FInv K Oo c' t' σ H'->Stp Oo c H c' H'->Rep K c' H' v r->if Bt r=true then exE (E σ) v H' else Q v H'){R:V->Hp->Prop}
 (s:∀y dy t1 H1 c1,FInv K Oo c1 t1 σ H1->Stp Oo c H c1 H1->Rep K c1 H1 y dy->h dy t1=some (r,t')->(∀v H' c',FInv K Oo c' t' σ H'->Stp Oo c1 H1 c' H'->Rep K c' H' v r->Q v H')->R y H1):RX K E g σ H R:=by
 clear 5(Af eq)dy t1 e1 eq;refine⟨Oo,c,t,fi,dy,t1,e1,λy H1 c1 f1 s1 ry=>?_⟩
 by_cases hx:Bt dy=true
 .rw[lJ hx] at eq⊢
  cases eq
  have:=k y H1 c1 f1 s1 ry;rw[lJ hx] at this;exact this
 .rw[lK hx] at eq⊢;clear 5(NQ eq)e2 e3;exact s y dy t1 H1 c1 f1 s1 ry e2 λv H' c' f' s' rv=>RL e3 (k v H' c' f' (s1.trans s') rv)
def Je(f g:M D)(h:D->D->M D):M D:=bnd f λx=>Ll g λy=>h x y
theorem RX.two{K:ib}{g:M D}{h:D->D->M D}{R:R2}(s:BB K R h){σ:L2.St}{H:Hp}{Q:VK}(q:RX K E (Je f g h) σ H Q):tOp R (RE K f) (RX K E g) σ H Q:=by
 clear 5 q Oo c t fi r t' eq k;clear 5(Af eq)dx t1 e1 eq;refine⟨Oo,c,t,fi,dx,t1,e1,λx H1 c1 f1 s1 rx=>?_⟩;exact RX.bind f1 eq (λv H' c' f' s' rv=>k v H' c' f' (s1.trans s') rv) λy dy t2 H2 c2 f2 s2 ry e2 kk=>s f2 (rx.mono s2.ext) ry e2 kk
theorem bC{op:Operator}{R:R2}{g:M D}{h:D->D->M D}(ho:OpR X (binaryOp op) R)(s:BB X.K R h)(ha:PE X a (RE X.K f))(hb:PE X b (RX X.K E g)):PE X (.BinOp a op b pos) (RX X.K E (Je f g h)):=
 AH (Qk ho ha hb) λ_ _ _ q=>RX.two s q
theorem OU(h:PE X e (RX X.K E f)):PS X (.Return (some e) pos) (RSX X.K E (Al f)):=
 Br (IR h) λD σ H z9=>by
  clear 5 z9 Oo c t fi o t' eq k;clear 5(Af eq)d t1 e1 eq
  cases eq
  exact⟨Oo,c,t,fi,d,_,e1,λv H1 c1 f1 s1 rv=>k σ H1 c1 f1 s1 v rv⟩
def CD(i:Nat)(f:M D):M Out:=bnd f λd=>if Bt d=true then ret (.ret d) else bnd (Au i d) λ_=>ret .next
theorem OV{i:Nat}{x:Str}{pos':Pos}(hN:X.N.Nodup)(hi:X.N[i]?=some x)(hx:Loc X.env.scope x)(he:PE X e (RX X.K E f))(hs:swapsWith e (some (.Name x pos')) pos.line X.env=pure false:=by rfl)(hf:X.fn x=true\/X.env.scope.names.lookup x=some .local:=by walk_at"h") :
 PS X (.Assign [.Name x pos'] e pos) (RSX X.K E (CD i f)):=Br (NY hN hi hx he hs hf) λD σ H z9=>by
 clear 5 z9 Oo c t fi o t' eq k;clear 5(Af eq)d t1 e1 eq;refine⟨Oo,c,t,fi,d,t1,e1,λv H1 c1 f1 s1 rv=>?_⟩
 by_cases hx:Bt d=true
 .rw[lJ hx] at eq⊢
  cases eq
  have:=k σ H1 c1 f1 s1 v rv;rw[lJ hx] at this;exact this
 .rw[lK hx] at eq⊢
  cases eq
  exact k _ H1 c1 (f1.set rv) s1
theorem Ub{f:M Out}(h:PS X st (RSX X.K E f)):PSs X [st] (RSX X.K E f):=Hc h
end
end
structure XGet(K:ib)(C:ig):Prop where
 ga:findIn K (.ref C) "__getattribute__" = some (some (.builtin "BaseException.__getattribute__"))
 gt:findIn K (.ref C) "__getattr__" = some none
 mb:mroIn K C (.type "BaseException")=some true
 mo:mroIn K C (.type "object")=some true
 hd:hasDictIn K C=true
section
variable{prog:im}{w:ir}{A:Around}{E:ie->ij->Prop}{s:ij}{K:ib}{x C:ig}{ox:Obj}{od:Option Obj}{name:Str}{tk:Tok}{Q:ie->ij->Prop}{R:Result->ij->Prop}
theorem Mg{fill expr:Bool}(X:K.In s.heap)(I:InstAt s.heap x ox C od)(g:XGet K C)
 (h:codeAny (model prog w) A (.call (.builtin "BaseException.__getattribute__") ⟨[.ref x,.str name tk],[]⟩) (λr s'=>match r with | .ok (.ret v)=>wpAny (model prog w) A (handedOut v) Q E s'|_=>False) s) :
 wpAny (model prog w) A (getAttrBy (.ref x) (.str name tk) fill expr) Q E s:=by
 have L0:=I.type (M:=model prog w);have L1:=lg (M:=model prog w) X g.ga;have L2:=lg (M:=model prog w) X g.gt;have ne:(onTheHeap (Value.ref C)&&Value.builtin "BaseException.__getattribute__" == Value.builtin "object.__getattribute__")=false:=by
  rw[show(Value.builtin "BaseException.__getattribute__" == Value.builtin "object.__getattribute__")=false from by decide +kernel];rfl
 unfold getAttrBy;refine uk6 (ul8 (L0.here (ul8 (L1.here ?_))));show wpAny _ _ (if (onTheHeap (Value.ref C)&&Value.builtin "BaseException.__getattribute__" == Value.builtin "object.__getattribute__")=true then _ else _) _ _ _;rw[lK (by rw[ne];decide)];unfold getAttrByItsOwn hookBefore;rw[lJ (show onTheHeap (Value.ref C)=true from rfl)];refine ul8 (L2.here (ul8 (wpAny_attempt (uk6 ?_))));unfold callGetattribute;rw[lK (show ¬((expr&&onTheHeap (Value.builtin "BaseException.__getattribute__"))=true) from by cases expr<;>decide)];unfold boundAndCalled;refine ul8 (wpAny_of_eq (PySem.F.excAttr_ValueError.ga.bind _) (lw (ld h λr s' z=>?_)))
 cases r with
 |error e=>exact z.elim
 |ok f=>cases f<;>first|exact z|exact z.elim
theorem NG(X:K.In s.heap)(I:InstAt s.heap x ox C od)(g:XGet K C)
 (h:wpAny (model prog w) A.in1 («object.__getattribute__» ⟨[.ref x,.str name tk],[]⟩) (λfin s'=>match fin with | .done f=>R (.ok f) s' | .again c'=>c'.quiet=true/\codeAny (model prog w) A c' R s') (λe s'=>R (.error e) s') s) :
 codeAny (model prog w) A (.call (.builtin "BaseException.__getattribute__") ⟨[.ref x,.str name tk],[]⟩) R s:=by
 have ob:Looks (model prog w) s.heap (isInstance (.ref x) (.type "BaseException")) true:=I.type.andThen (looks_mroIn X g.mb);refine ju PySem.F.excAttr_ValueError.ga.plain PySem.F.entry_bexc_ga (@check_slot (model prog w) _ _ s "BaseException.__getattribute__" "BaseException" "__getattribute__" (.ref x) [.str name tk] [] _ (by decide +kernel) (by decide +kernel) ob (PySem.F.args_bexc_ga (.ref x) (.str name tk)) h)
theorem Uc{v:ie}(X:K.In s.heap)(I:InstAt s.heap x ox C od)(g:XGet K C)(hf:findObj K C od name=some (.value v))(h:R (.ok (.ret v)) s) :
 codeAny (model prog w) A (.call (.builtin "BaseException.__getattribute__") ⟨[.ref x,.str name tk],[]⟩) R s:=by
 refine NG X I g ?_;have L0:=I.type (M:=model prog w);have L1:=looks_find (M:=model prog w) X I hf;refine ul8 (ul9 (ul8 (ul9 (ul8 (L0.here (ul8 (L1.here ?_)))))));exact ul9 h
theorem WA{gg a:ie}(X:K.In s.heap)(I:InstAt s.heap x ox C od)(g:XGet K C)(hf:findObj K C od name=some (.bind gg a))(h:codeAny (model prog w) A.in1 (.call gg ⟨[a,.ref x,.ref C],[]⟩) (λr s'=>match r with | .ok (.ret v)=>R (.ok (.ret v)) s' | .ok _=>False | .error e=>R (.error e) s') s) :
 codeAny (model prog w) A (.call (.builtin "BaseException.__getattribute__") ⟨[.ref x,.str name tk],[]⟩) R s:=by
 refine NG X I g ?_;have L0:=I.type (M:=model prog w);have L1:=looks_find (M:=model prog w) X I hf;refine ul8 (ul9 (ul8 (ul9 (ul8 (L0.here (ul8 (L1.here ?_)))))));show wpAny _ _ (bindTo gg a (.ref x) (.ref C)) _ _ _;unfold bindTo;refine ul8 (uk6 (lw (ld h λr s' z=>?_)))
 cases r with
 |error e=>exact z
 |ok f=>cases f<;>first|exact ul9 z|exact z.elim
end
theorem V7(K:ib):specialIn K (.builtin "object.__class__") "__get__" = some (some (.builtin "getset_descriptor.__get__")):=by kernel_rfl
theorem Re(K:ib):takesIn K (.builtin "object.__class__")=some true:=by kernel_rfl
theorem Nz{K:ib}{C:ig}{od:Option Obj}(hc:(clsIn K C).isSome=true)(ha:findIn K (.ref C) "__class__" = some (some (.builtin "object.__class__"))):findObj K C od "__class__" = some (.bind (.builtin "getset_descriptor.__get__") (.builtin "object.__class__")):=by
 clear 5(jf.mp hc)cd hc;unfold findObj;rw[hc,uh2,ha,uh2];simp[V7,Re]
def Vv(x C:ig)(h:Heap):Prop:=∃ox od,InstAt h x ox C od
set_option tactic.hygienic true in
theorem Uk{K:ib}{x C:ig}(g:XGet K C)(ha:findIn K (.ref C) "__class__" = some (some (.builtin "object.__class__"))):KitX K (.ref x) (.ref C) (Vv x C) where
 ty:=λ_ _ _ ⟨_,_,I⟩=>I.type
 it:=λ_ _ X _=>by
  obtain⟨cd,hc,_⟩:=any_some g.hd;unfold clsIn at hc
  split at hc
  .next ho=>
   intro A' Q' E' s' k q;unfold isType loadHead;exact ul8 (kr (k _ _ (X _ _ ho)) (ul9 q))
  .cases hc
 ne:=λh tp dd its n sl X htp=>by
  obtain⟨cd,hc,_⟩:=any_some g.hd;refine uf6.mpr λq=>?_;have e:C=tp:=Value.ref.inj (lv.mp q);subst e;unfold clsIn at hc
  split at hc
  .next ho=>
   have z:=(X _ _ ho).symm.trans htp
   cases z
  .cases hc
 ca:=λ{prog w A E Q s} X z9 k=>by
  clear 5 z9 ox od I;obtain⟨cd,hc,_⟩:=any_some g.hd;unfold getAttr? getAttrBy?;refine ul8 (wpAny_mkText (ul8 (wpAny_attempt ?_)));refine Mg (s:={s with toks:=s.toks+1}) X I g (WA X I g (Nz (by rw[hc];rfl) ha) (class_get (s:={s with toks:=s.toks+1}) X I g.mo ?_));exact handed_on rfl (ul9 k)
section
variable{qx:Bool}
abbrev Bs:List Str:=["Short", "Broken", "NoTalk", "NoName"]
structure XM(K:ib)(mg:Str->Option ie)(P:ig)(ca:Str->ig):Prop where
 pm:mg "ParleyError" = some (.ref P)
 pc:XCl K P VE
 ns:∀n∈Bs,nsIn K mainGlobals n=some (some (.ref (ca n)))
 ms:∀n∈Bs,mg n=some (.ref (ca n))
 cl:∀n∈Bs,XCl K (ca n) (.ref P::VE)
 inj:∀n∈Bs,∀m∈Bs,ca n=ca m->n=m
 np:∀n∈Bs,ca n≠P
 kp:∀n∈Bs,keepIn K (.ref (ca n))=true
 gt:∀n∈Bs,XGet K (ca n)
 gc:∀n∈Bs,findIn K (.ref (ca n)) "__class__" = some (some (.builtin "object.__class__"))
 na:∀n∈Bs,findIn K (.ref (ca n)) "at" = some none
 nd:∀n∈Bs,findIn K (.ref (ca n)) "side" = some none
noncomputable def El(n m:Str):Bool:=m == "ParleyError" || m == "ValueError" || n==m
theorem E9{a b:ig}{r:List ie}:(Value.ref a::r).contains (.ref b)=(a==b||r.contains (.ref b)):=by
 rw[List.contains_cons]
 congr 1
 by_cases h:a=b
 .subst h;simp
 .rw[jv.mpr h,jv.mpr (λz:Value.ref b=Value.ref a=>h (Value.ref.inj z).symm)]
theorem Ys{b:ig}:VE.contains (.ref b)=false:=rfl
section
variable{K:ib}{mg:Str->Option ie}{P:ig}{ca:Str->ig}
theorem XM.subP(x:XM K mg P ca){n:Str}(hn:n∈Bs):(Value.ref (ca n)::.ref P::VE).contains (.ref P)=El n "ParleyError":=by
 rw[E9,E9,uh4,Bool.true_or,Bool.or_true];rfl
theorem XM.subE(x:XM K mg P ca){n m:Str}(hn:n∈Bs)(hm:m∈Bs):(Value.ref (ca n)::.ref P::VE).contains (.ref (ca m))=El n m:=by
 rw[E9,E9,Ys,jv.mpr (Ne.symm (x.np m hm)),uj9,uj9];have h1:(m==("ParleyError":Str))=false/\(m==("ValueError":Str))=false:=by
  simp only[Bs,uj7,uh1,lG] at hm;rcases hm with rfl|rfl|rfl|rfl<;>exact⟨by decide,by decide⟩
 unfold El;rw[h1.1,h1.2,ky,ky]
 by_cases h:n=m
 .subst h;rw[uh4,uh4]
 .rw[jv.mpr h,jv.mpr λz=>h (x.inj n hn m hm z)]
theorem XM.of(x:XM K mg P ca){n:Str}{C:ig}(hn:n∈Bs)(h:nsIn K mainGlobals n=some (some (.ref C))):C=ca n:=by
 rw[x.ns n hn] at h;injection h with h;injection h with h;injection h with h
 exact h.symm
end
theorem Yi{q1 q2:Bool}{x C C':ig}{dx dx':Option ig}(h:XIs q1 x C dx=XIs q2 x C' dx')(e:∃h,XIs q1 x C dx h):C=C'/\dx=dx':=by
 clear 5 e hh o vs e1 e2 e3 e4;have q:XIs q2 x C' dx' hh:=by rw[<-h];exact⟨o,vs,e1,e2,e3,e4⟩
 clear 5 q o' vs' q1 q2 q3 q4;rw[e1] at q1;cases q1
 rw[e2] at q2;cases q2
 exact⟨rfl,e3.symm.trans q3⟩
section
variable{X:Cx}{e:Expr}{es:List Expr}{pos p pos2:Pos}{E:L2.St->XK}{P:ig}{ca:Str->ig}
def XN1(prog:im)(w:ir)(K:ib)(mg:Str->Option ie)(base:Heap)(C P:ig):Prop:=
 ∃(f:ig) (fd:iu) (ps:List Str),XMk K C P f/\XAt K C P "at"/\Binds K fd ps []/\FnOk prog w K mg base CX0 1 f fd ps (spI K P "at")
def IS(n:Str)(f:M (List D)):M Out:=bnd f λds=>match ds with
 |[d]=>ret (.ret (.exc n [d]))
 |_=>fail
theorem Ry{f:M (List D)}(x:XM X.K X.mg P ca)(xn:XN1 X.prog X.w X.K X.mg X.base (ca "NoTalk") P)(hr:L2.Room 2 X.A)(hc:X.calm=true)(hx:F6 qx X E)(hg:Gl X "NoTalk")(ha:PA X [e] (RA X.K f))
 (h1:Ba e=false:=by rfl):PS X (.Raise (some (.Call (.Name "NoTalk" p) [e] [] pos)) none pos2) (RSX X.K E (IS "NoTalk" f)):=by
 clear 5 xn fa fd ps M A B F;have hn:("NoTalk":Str)∈Bs:=by decide
 refine Br (J0 hc M.cl hx (Z0 M A F hr B hg (x.ms _ hn) ha (by decide) (A6 h1))) λD σ H z9=>?_;clear 5 z9 Oo c t fi o t' eq k;clear 5(Af eq)ds t1 e1 eq;refine⟨Oo,c,t,fi,ds,t1,e1,λvs H1 c1 f1 s1 rvs=>?_⟩
 match ds,rvs,eq with
 |[],_,eq=>cases eq
 |_::_::_,_,eq=>cases eq
 |[d],.cons (v:=v0) rv .nil,eq=>
   cases eq
   refine⟨_,rfl,λy dx hy hdx ne=>?_⟩;have f2:=f1.laid (o:=.xd [("at",v0)]) hdx;have hy2:upd H1 dx (.xd [("at",v0)]) y=none:=by rw[Ah (Ne.symm ne)];exact hy
   have f3:=f2.laid (o:=.ext (XIs qx y (ca "NoTalk") (some dx))) hy2;have s3:=s1.trans ((f1.stp_laid (o:=.xd [("at",v0)]) hdx).trans (f2.stp_laid (o:=.ext (XIs qx y (ca "NoTalk") (some dx))) hy2));refine k σ _ c1 f3 s3 (.ref y) (.exc (x.ns _ hn) Ak (f2.s.free hy2) ?_ (.cons (rv.mono ((f1.stp_laid hdx).ext.trans (f2.stp_laid hy2).ext)) .nil)) y (some dx) rfl;exact⟨by rw[Ah ne,Ak];rfl,f1.s.free hdx⟩
def XN0(K:ib)(C:ig):Prop:=∃cd,clsIn K C=some cd/\nsIn K cd.ns "__init__" = some none
def Gs(n:Str)(f:M (List D)):M Out:=bnd f λds=>if ds.length<=1000 then ret (.ret (.exc n [])) else fail
set_option tactic.hygienic true in
theorem Mi{n:Str}{f:M (List D)}(x:XM X.K X.mg P ca)(hn:n∈Bs)(hf:JR n=[])(xn:XN0 X.K (ca n))(hc:X.calm=true)(hx:F6 qx X E)(hg:Gl X n)(ha:PA X (e::es) (RA X.K f))
 (hdb:(n==("__debug__":Str))=false:=by decide) (h1:Ba e=false:=by rfl) (h2:Bg es=true:=by rfl):PS X (.Raise (some (.Call (.Name n p) (e::es) [] pos)) none pos2) (RSX X.K E (Gs n f)):=by
 clear 5 xn cd hcd hni;refine Br (J0 hc (x.cl n hn) hx (Xi (x.cl n hn) (x.kp n hn) hcd hni hg (x.ms _ hn) ha hdb (A6 h1) (AY h2).1)) λD σ H z9=>?_;clear 5 z9 Oo c t fi o t' eq k;clear 5(Af eq)ds t1 e1 eq;refine⟨Oo,c,t,fi,ds,t1,e1,λvs H1 c1 f1 s1 rvs=>?_⟩
 split at eq
 .next hl=>
  cases eq
  refine⟨by rw[rvs.length];exact hl,λy hy=>?_⟩;have f3:=f1.laid (o:=.ext (XIs qx y (ca n) none)) hy;exact k σ _ c1 f3 (s1.trans (f1.stp_laid hy)) (.ref y) (.exc (x.ns _ hn) Ak (f1.s.free hy) (vs:=[]) rfl .nil) y none rfl
 .cases eq
end
section
variable{X:Cx}{pos p:Pos}{P:ig}{ca:Str->ig}{μ:Cf->Hp->D->(V->Hp->Prop)->Prop}
inductive RH(K:ib)(ca:Str->ig)(μ:Cf->Hp->D->(V->Hp->Prop)->Prop)(h:D->M Out)(x C:ig)(dx:Option ig)(E:Ends)(σ:L2.St)(H:Hp):Prop where
 | mk (Oo:ig->Prop) (c:Cf) (t:T) (n:Str) (ds:List D) (fi:FInv K Oo c t σ H) (hn:n∈Bs) (hC:C=ca n) (rp:Rep K c H (.ref x) (.exc n ds)) (o:Out) (t':T) (e:h (.exc n ds) t=some (o,t')) (k:∀σ' H' c',FInv K Oo c' t' σ' H'->Stp Oo c H c' H'->
   match (generalizing:=false) o with
   |.next=>E.nx σ' H'
   |.brk=>E.bk σ' H'
   |.cont=>E.ct σ' H'
   |.ret r=>μ c' H' r E.rt):RH K ca μ h x C dx E σ H
noncomputable def unE(i:Nat)(t:T):T:={t with env:=t.env.set i none}
set_option tactic.hygienic true in
theorem FInv.unset{K:ib}{Oo:ig->Prop}{c:Cf}{t:T}{σ:L2.St}{H:Hp}(f:FInv K Oo c t σ H)(i:Nat):FInv K Oo c (unE i t) (σ.set i none) H:=by
 have neq:∀{j:Nat}{x:Sl},(t.env.set i none)[j]?=some (some x)->j≠i/\t.env[j]?=some (some x):=λ{j x} q=>by
  by_cases h:j=i
  .subst h;rw[uf7] at q
   split at q
   .split at q
    .injection q with q;cases q
    .cases q
   .next h1=>exact absurd rfl h1
  .rw[ud2 (Ne.symm h)] at q;exact⟨h,q⟩
 refine⟨f.s,by simp[unE,f.len],f.sub,λj e q=>?_,λj ds q=>?_,λj k ds es a q1 q2 q3 q4=>?_⟩
 .clear 5(neq q)h q;clear 5(f.val j e q)u h1 h2;exact⟨u,by rw[ud2 (Ne.symm h)];exact h1,h2⟩
 .clear 5(neq q)h q;clear 5(f.own j ds q)a vs h1 h2;exact⟨a,vs,by rw[ud2 (Ne.symm h)];exact h1,h2⟩
 .clear 5(neq q1)h q1;clear 5(neq q2)h' q2;rw[ud2 (Ne.symm h)] at q3;rw[ud2 (Ne.symm h')] at q4;exact f.inj j k ds es a q1 q2 q3 q4
def hAs(n':Str)(i:Nat)(s:M Out)(r:D->M Out):D->M Out:=λe t=>match e with
 | .exc n ds=>if El n n'=true then (match s { t with env:=t.env.set i (some (.val (.exc n ds))) } with
   |some (o,t2)=>some (o,unE i t2)
   |none=>none) else r (.exc n ds) t
 |_=>none
def hNo(n':Str)(s:M Out)(r:D->M Out):D->M Out:=λe t=>match e with
 |.exc n ds=>if El n n'=true then s t else r (.exc n ds) t
 |_=>none
noncomputable def NJ:D->M Out:=λ_ _=>none
theorem YY:PH qx X [] (RH X.K ca μ NJ):=by
 rintro _ _ _ _ _ _ _ _ _ _ _ ⟨_,_,_,_,_,_,_,_,_,_,_,e,_⟩
 cases e
theorem VC{n' v:Str}{C':ig}{bm':List ie}{i:Nat}{b₀:Stmt}{suite:List Stmt}{rest:List ExceptHandler}{s:M Out}{r:D->M Out}(x:XM X.K X.mg P ca)(hg:Gl X n')(hm:X.mg n'=some (.ref C'))(c':XCl X.K C' bm')(hs:∀n∈Bs,(Value.ref (ca n)::.ref P::VE).contains (.ref C')=El n n')
 (hN:X.N.Nodup) (hi:X.N[i]?=some v) (hl:X.env.scope.names.lookup v=some .local) (hb:∀x,PSs (X.mark x) (b₀::suite) (RSg X.K μ s)) (hr:PH qx X rest (RH X.K ca μ r)) (hdb:(n'==("__debug__":Str))=false:=by decide) :
 PH qx X (.ExceptHandler (some (.Name n' p)) (some v) (b₀::suite) pos::rest) (RH X.K ca μ (hAs n' i s r)):=by
 intro ic s0 σ H y C dx T D I o q;refine bP hg hm c' hN hi hl hb hr hdb ic s0 σ H y C dx T D I o ?_;clear 5 q Oo c t n ds fi hn rfl rv o1 t' eq k;refine⟨_,x.cl n hn,?_⟩;rw[hs n hn];unfold hAs at eq;dsimp only at eq
 by_cases hb':El n n'=true
 .rw[lJ hb'] at eq⊢
  cases e1:s {t with env:=t.env.set i (some (.val (.exc n ds)))} with
  |none=>rw[e1] at eq;cases eq
  |some z=>
    clear 5 z o2 t2;rw[e1] at eq
    cases eq
    refine⟨Oo,c,_,fi.set rv,o1,t2,e1,λσ' H' c2 f2 s2=>?_⟩;have:=k _ H' c2 (f2.unset i) s2
    cases o1<;>exact this
 .rw[lK hb'] at eq⊢;exact⟨Oo,c,t,n,ds,fi,hn,rfl,rv,o1,t',eq,k⟩
theorem VD{n':Str}{C':ig}{bm':List ie}{b₀:Stmt}{suite:List Stmt}{rest:List ExceptHandler}{s:M Out}{r:D->M Out}(x:XM X.K X.mg P ca)(hg:Gl X n')(hm:X.mg n'=some (.ref C'))(c':XCl X.K C' bm')(hs:∀n∈Bs,(Value.ref (ca n)::.ref P::VE).contains (.ref C')=El n n')
 (hb:∀x,PSs (X.mark x) (b₀::suite) (RSg X.K μ s)) (hr:PH qx X rest (RH X.K ca μ r)) (hdb:(n'==("__debug__":Str))=false:=by decide) :
 PH qx X (.ExceptHandler (some (.Name n' p)) none (b₀::suite) pos::rest) (RH X.K ca μ (hNo n' s r)):=by
 intro ic s0 σ H y C dx T D I o q;refine bQ hg hm c' hb hr hdb ic s0 σ H y C dx T D I o ?_;clear 5 q Oo c t n ds fi hn rfl rv o1 t' eq k;refine⟨_,x.cl n hn,?_⟩;rw[hs n hn];unfold hNo at eq;dsimp only at eq
 by_cases hb':El n n'=true
 .rw [lJ hb'] at eq ⊢;exact ⟨Oo,c,t,fi,o1,t',eq,λσ' H' c2 f2 s2=>by
   have:=k _ H' c2 f2 s2
   cases o1<;>exact this⟩
 .rw[lK hb'] at eq⊢;exact⟨Oo,c,t,n,ds,fi,hn,rfl,rv,o1,t',eq,k⟩
noncomputable def EF(b:M Out)(h:D->M Out):M Out:=λt=>match b t with
 |some (.ret (.exc n ds),t1)=>if n∈Bs then h (.exc n ds) t1 else none
 |z=>z
set_option tactic.hygienic true in
theorem NE{body:List Stmt}{h₀:ExceptHandler}{hs:List ExceptHandler}{b:M Out}{h:D->M Out}(x:XM X.K X.mg P ca)(hμ:∀c H r rt,Bt r=false->(∀v,Rep X.K c H v r->rt v H)=μ c H r rt)(h1:X.stack=X.env::X.outer)(h2:X.env.frame=some X.env.locals)
 (hb:∀(pn:List (ig×Obj)) (E:L2.St->XK),C1 (CX1 qx X.prog X.w) {X with pn:=pn,xe:=XE qx {X with pn:=pn} E} E->PSs {X with pn:=pn,xe:=XE qx {X with pn:=pn} E} body (RSX X.K E b)) (hh:PH qx X (h₀::hs) (RH X.K ca μ h)):PS X (.Try body (h₀::hs) [] [] pos) (RSg X.K μ (EF b h)):=
 Br (Z3 h1 h2 (λpn E=>hb pn E (XE.pass (X:={X with pn:=pn}))) hh) λD σ H z9=>by
  clear 5 z9 Oo c t fi o t' eq k;unfold EF at eq
  cases e1:b t with
  |none=>rw[e1] at eq;cases eq
  |some z=>
    clear 5 z o1 t1;rw[e1] at eq;refine⟨Oo,c,t,fi,o1,t1,e1,λσ1 H1 c1 f1 s1=>?_⟩
    cases o1 with
    |next=>cases eq;exact k σ1 H1 c1 f1 s1
    |brk=>cases eq;exact k σ1 H1 c1 f1 s1
    |cont=>cases eq;exact k σ1 H1 c1 f1 s1
    |ret r=>
      intro v rv
      cases hx:Bt r with
      |false=>
        rw[lK (by decide)];have eq':some (Out.ret r,t1)=some (o,t'):=by cases r<;>first|exact eq|cases hx
        cases eq'
        have q:=k σ1 H1 c1 f1 s1;have q:μ c1 H1 r D.rt:=q;rw[<-hμ _ _ _ _ hx] at q;exact q v rv
      |true=>
        rw[lJ rfl];intro y dx hv y' C hy' hC hex
        cases rv with
        |@exc q0 x0 C0 dx0 n vs ds g hx0 hA fl rs=>
          cases hv
          cases hy'
          dsimp only at eq
          split at eq
          .next hn=>
           rw[hx0] at hC;injection hC with hC;injection hC with hC
           clear 5(Yi hC.symm hex)e2 e3;have:=x.of hn g;exact⟨Oo,c1,t1,n,ds,f1,hn,e2.trans this,.exc g hx0 hA fl rs,o,t',eq,λσ' H' c' f' s'=>k σ' H' c' f' (s1.trans s')⟩
          .cases eq
        |_=>cases hx
end
end
section
variable{qx:Bool}
def Iv(n:Str):D->M D
 |.exc m _=>if m∈Bs then ret (.bl (El m n)) else fail
 |.non=>ret (.bl false)
 |.bl _=>ret (.bl false)
 |.int _=>ret (.bl false)
 |.str _=>ret (.bl false)
 |.lst _=>ret (.bl false)
 |.tup _=>ret (.bl false)
 |.dic=>ret (.bl false)
 |_=>fail
def Qv(K:ib)(c:ie):List V->Hp->VK->Prop:=λxs H Q=>∃x y t b,xs=[x,y]/\(∀u,RelV y u->u=c)/\
 (TyOf K H x t\/∃q0 a C dx,x=.ref a/\t=.ref C/\H a=some (.ext (XIs q0 a C dx))/\(∀d,dx=some d->∃fs,H d=some (.xd fs))/\XGet K C/\findIn K (.ref C) "__class__" = some (some (.builtin "object.__class__")))/\kitOne K t c=some b/\Q (.bl b) H
variable{C:ig}
theorem dm{X:Cx}{ic:List (ig×Obj)}{σ:L2.St}{H:Hp}{s:ij}{a:ig}{dx:Option ig}(I:Inv X ic σ H s)(h:H a=some (.ext (XIs qx a C dx)))(hd:∀d,dx=some d->∃fs,H d=some (.xd fs)):Vv a C s.heap:=by
 obtain⟨o,vs,e1,e2,e3,e4,_⟩:=(I.hok a _ h).1;have nc:notCls o=true:=by unfold notCls;rw[e4]
 cases dx with
 |none=>exact⟨o,none,e1,e2,nc,by rw[e3];trivial⟩
 |some d=>
   clear 5(hd d rfl)fs hf;obtain⟨mA,n,_⟩:=(show ObjOk X.prog X.w H s.heap d (.xd fs) from I.hok d _ hf);obtain⟨od,ho,_⟩:=GH n;exact⟨o,some od,e1,e2,nc,by rw[e3];exact ho⟩
theorem Rc{X:Cx}{c:ie}:Dv X (.builtin "isinstance") (Qv X.K c):=by
 intro ic s σ H xs us Q I r h;clear 5 h x y t b rfl hy ty e q;clear 5(VY r)u w' rfl rx rt
 cases hy _ rt
 rcases ty with ty|⟨q0,a,C,dx,rfl,rfl,ha,hd,g,gc⟩
 .exact Mn I rx ty e λtk=>⟨.bl b,H,I.tok tk,rfl,q⟩
 .cases (show u=Value.ref a from rx)
  exact kia_one (Uk g gc) I.kIn (dm I ha hd) e (λz=>nomatch z) λtk=>⟨.bl b,H,I.tok tk,rfl,q⟩
variable{K:ib}
theorem Zl{d:D}{T:String}{C':ig}{bm':List ie}(h:tyD d=some T)(c':XCl K C' bm'):kitOne K (.type T) (.ref C')=some false:=by
 clear 5 c'.ex cd dd k0 k1 k2 k3 k5 h1 h2 h3 h4 h5;have e1:clsIn K C'=some cd:=by unfold clsIn;rw[h1]
 have e2:typeIn K (.ref C')=some (.type "type"):=by
  show(K.lookup C').map _=_;rw[h1];rfl
 have z:((clsIn K C').isSome&&typeIn K (.ref C')==some (.type "type"))=true:=by rw[e1,e2,Option.isSome_some,uk2];decide
 have hT:T = "NoneType"\/T = "bool"\/T = "int"\/T = "str"\/T = "list"\/T = "tuple"\/T = "dict":=by
  cases d<;>simp[tyD] at h<;>simp[<-h]
 unfold kitOne kitCls;rw[lK (by intro q;cases lv.mp q)]
 dsimp only;rw[lJ z];rcases hT with rfl|rfl|rfl|rfl|rfl|rfl|rfl<;>rfl
theorem az{bm:List ie}(c:XCl K C bm)(v:ie):subIn K (.ref C) v=some ((Value.ref C::bm).contains v):=by
 obtain⟨cd,h1,h2,_⟩:=c.cls;show mroIn K C v=_;unfold mroIn;rw[h1,uh2,h2];rfl
theorem WH{C':ig}{bm bm':List ie}(c:XCl K C bm)(c':XCl K C' bm'):kitOne K (.ref C) (.ref C')=some ((Value.ref C::bm).contains (.ref C')):=by
 clear 5 c'.ex cd dd k0 k1 k2 k3 k5 h1 h2 h3 h4 h5;have e1:clsIn K C'=some cd:=by unfold clsIn;rw[h1]
 have e2:typeIn K (.ref C')=some (.type "type"):=by
  show(K.lookup C').map _=_;rw[h1];rfl
 have z:((clsIn K C').isSome&&typeIn K (.ref C')==some (.type "type"))=true:=by rw[e1,e2,Option.isSome_some,uk2];decide
 unfold kitOne kitCls
 by_cases h:C=C'
 .subst h;rw[lJ (by simp)];simp
 .rw[lK (λq=>h (Value.ref.inj (lv.mp q)))];dsimp only;rw[lJ z];exact az c _
section
variable{X:Cx}{P:ig}{ca:Str->ig}{a:Expr}{f:M D}{p pos q:Pos}
set_option tactic.hygienic true in
theorem WG{n:Str}{c:ie}{y:V}(x:XM X.K X.mg P ca)(hy:∀u,RelV y u->u=c)(k1:∀d T,tyD d=some T->kitOne X.K (.type T) c=some false)(k2:∀m∈Bs,kitOne X.K (.ref (ca m)) c=some (El m n)){σ:L2.St}{H:Hp}{Q:VK}(h:RE X.K (bnd f (Iv n)) σ H Q) :
 tCB (Qv X.K c) (QF (RE X.K f) (QF (tC y) Vi)) σ H Q:=by
 clear 5 h Oo c0 t fi r t' eq k;clear 5(Af eq)d t1 e1 eq;refine⟨Oo,c0,t,fi,d,t1,e1,λv H1 c1 f1 s1 rv=>?_⟩;show Qv X.K c [v,y] H1 Q
 cases rv with
 |@exc q0 x0 C0 dx0 m vs ds g hx0 hA fl rs=>
   unfold Iv at eq;dsimp only at eq
   split at eq
   .next hm=>
    cases eq
    have hc:=x.of hm g;subst hc;refine⟨_,_,_,_,rfl,hy,.inr ⟨_,x0,ca m,dx0,rfl,rfl,hx0,λd hd=>?_,x.gt m hm,x.gc m hm⟩,k2 m hm,k _ H1 c1 f1 s1 (.bl _)⟩;subst hd;exact⟨_,fl.1⟩
   .cases eq
 |non=>cases eq;exact⟨_,_,_,_,rfl,hy,.inl .non,k1 .non _ rfl,k _ H1 c1 f1 s1 (.bl _)⟩
 |bl b=>cases eq;exact⟨_,_,_,_,rfl,hy,.inl (.bl _),k1 (.bl b) _ rfl,k _ H1 c1 f1 s1 (.bl _)⟩
 |int i=>cases eq;exact⟨_,_,_,_,rfl,hy,.inl (.int _),k1 (.int i) _ rfl,k _ H1 c1 f1 s1 (.bl _)⟩
 |str i=>cases eq;exact⟨_,_,_,_,rfl,hy,.inl (.str _),k1 (.str i) _ rfl,k _ H1 c1 f1 s1 (.bl _)⟩
 |lst h1 h2 h3=>cases eq;exact⟨_,_,_,_,rfl,hy,.inl (.lst h1),k1 (.lst []) _ rfl,k _ H1 c1 f1 s1 (.bl _)⟩
 |tup h1 h2 h3=>cases eq;exact⟨_,_,_,_,rfl,hy,.inl (.tup h1),k1 (.tup []) _ rfl,k _ H1 c1 f1 s1 (.bl _)⟩
 |dic h1 h2=>cases eq;exact⟨_,_,_,_,rfl,hy,.inl (.dK h1),k1 .dic _ rfl,k _ H1 c1 f1 s1 (.bl _)⟩
 |_=>cases eq
theorem Wg{n:Str}(x:XM X.K X.mg P ca)(hn:n∈Bs)(hg:Gl X "isinstance")(hm:X.mg "isinstance" = none)(hv:bootBuiltins "isinstance" = some (.builtin "isinstance"))(hgn:Gl X n)(ha:PE X a (RE X.K f))(hdb:(n==("__debug__":Str))=false:=by decide)(h1:Ba a=false:=by rfl) :
 PE X (.Call (.Name "isinstance" p) [a,.Name n q] [] pos) (RE X.K (bnd f (Iv n))):=
 AH (NU Rc hg hm hv (LK ha (LK (LM hgn (x.ms n hn) (v:=.ref (ca n)) rfl hdb) Sw (A6 (e:=.Name n q) rfl)) (A6 h1)) (by decide) (by decide) (A6 h1) (AY (es:=[.Name n q]) rfl).1)
  λσ H Q h=>WG (n:=n) (c:=.ref (ca n)) (y:=.ref (ca n)) x (λu r=>r) (λd T e=>Zl e (x.cl n hn)) (λm hm=>by rw[WH (x.cl m hm) (x.cl n hn),x.subE hm hn]) h
def FH(nm:Str):D->M D
 | .exc n ds=>if n∈Bs then (match ((JR n).zip ds).lookup nm with
   |some d=>ret d
   |none=>fail) else fail
 |_=>fail
theorem JA{K:ib}{c:Cf}{H:Hp}{nm:Str}{d:D}:∀{ns:List Str}{vs:List V}{ds:List D},Reps K c H vs ds->(ns.zip ds).lookup nm=some d->∃v,(ns.zip vs).lookup nm=some v/\Rep K c H v d
 |[],_,_,_,e=>by cases e
 |_::_,_,_,.nil,e=>by cases e
 |n::ns,_,_,.cons (v:=v0) (d:=d0) r rs,e=>by
   by_cases h:nm=n
   .subst h;simp only[List.zip_cons_cons,List.lookup,uh4,uf8] at e⊢;subst e;exact⟨v0,rfl,r⟩
   .have hb:(nm==n)=false:=jv.mpr h;simp only[List.zip_cons_cons,List.lookup,hb] at e⊢;exact JA rs e
set_option tactic.hygienic true in
theorem Rj{nm:Str}(x:XM X.K X.mg P ca)(hno:∀n∈Bs,findIn X.K (.ref (ca n)) nm=some none)(ha:PE X a (RE X.K f))(hb:attributeBase a nm X.env (eval a X.env)=eval a X.env):PE X (.Attribute a nm pos) (RE X.K (bnd f (FH nm))):=by
 intro ic s σ H Q I h;clear 5 h Oo c0 t fi r t' eq k;clear 5(Af eq)d t1 e1 eq;refine OD hb (thn (ha ic s σ H (λv H1=>∃c1,FInv X.K Oo c1 t1 σ H1/\Stp Oo c0 H c1 H1/\Rep X.K c1 H1 v d) I ⟨Oo,c0,t,fi,d,t1,e1,λv H1 c1 f1 s1 rv=>⟨c1,f1,s1,rv⟩⟩) λu s1 z9=>?_);clear 5 z9 v H1 I1 rx c1 f1 st1 rv
 cases rv with
 |@exc q0 x0 C0 dx0 m vs ds g hx0 hA fl rs=>
   cases (show u=Value.ref x0 from rx)
   unfold FH at eq;dsimp only at eq
   split at eq
   .next hm=>
    have hc:=x.of hm g;subst hc
    cases el:((JR m).zip ds).lookup nm with
    |none=>rw[el] at eq;cases eq
    |some d'=>
      rw[el] at eq
      cases eq
      clear 5(JA rs el)v' l1 r1
      cases dx0 with
      |none=>
        have fl:vs=[]:=fl;subst fl;simp at l1
      |some dd=>
        have hdd:H1 dd=some (.xd ((JR m).zip vs)):=fl.1;obtain⟨o,vs0,q1,q2,q3,q4,_⟩:=(I1.hok x0 _ hx0).1;have nc:notCls o=true:=by unfold notCls;rw[q4]
        obtain⟨mA,nA,rA⟩:=(show ObjOk X.prog X.w H1 s1.heap dd (.xd ((JR m).zip vs)) from I1.hok dd _ hdd);clear 5(GH nA)od ho hl;clear 5(RelO.some_of (v:=v') (o:=mA nm) (by rw[<-l1];exact rA nm))u' hu ru;have IA:InstAt s1.heap x0 o (ca m) (some od):=⟨q1,q2,nc,by rw[q3];exact ho⟩;unfold getAttr;refine ul8 (wpAny_mkText ?_);refine Mg (s:={s1 with toks:=s1.toks+1}) I1.kIn IA (x.gt m hm) (Uc I1.kIn IA (x.gt m hm) (findObj_own (x.gt m hm).hd (hno m hm) rfl (by rw[hl,hu])) ?_);exact handed_on (Ml ru) ⟨v',H1,I1.tok _,ru,k v' H1 c1 f1 st1 r1⟩
   .cases eq
 |_=>cases eq
end
end
section
variable{qx:Bool}
def QZ(K:ib)(P c:ig):Bool:=MY K c (.ref P::VE)&&keepIn K (.ref c)&&findIn K (.ref c) "__getattribute__" == some (some (.builtin "BaseException.__getattribute__"))&&findIn K (.ref c) "__getattr__" == some none&&mroIn K c (.type "BaseException")==some true
 && mroIn K c (.type "object")==some true&&hasDictIn K c&&findIn K (.ref c) "__class__" == some (some (.builtin "object.__class__"))&&findIn K (.ref c) "at" == some none&&findIn K (.ref c) "side" == some none
structure XOne(K:ib)(P c:ig):Prop where
 cl:XCl K c (.ref P::VE)
 kp:keepIn K (.ref c)=true
 gt:XGet K c
 gc:findIn K (.ref c) "__class__" = some (some (.builtin "object.__class__"))
 na:findIn K (.ref c) "at" = some none
 nd:findIn K (.ref c) "side" = some none
variable{K:ib}{P:ig}
theorem Ju{c:ig}(h:QZ K P c=true):XOne K P c:=by
 unfold QZ at h;simp only[ug8,lv] at h;obtain⟨⟨⟨⟨⟨⟨⟨⟨⟨h1,h2⟩,h3⟩,h4⟩,h5⟩,h6⟩,h7⟩,h8⟩,h9⟩,h10⟩:=h;exact⟨.of_in h1,h2,⟨h3,h4,h5,h6,h7⟩,h8,h9,h10⟩
noncomputable def JL(c1 c2 c3 c4:ig):Str->ig:=λn=>if n = "Short" then c1 else if n = "Broken" then c2 else if n = "NoTalk" then c3 else c4
theorem Dn{Q:Str->Prop}(h1:Q "Short")(h2:Q "Broken")(h3:Q "NoTalk")(h4:Q "NoName"):∀n∈Bs,Q n:=by
 intro n hn;simp only[Bs,uj7,uh1,lG] at hn;rcases hn with rfl|rfl|rfl|rfl<;>assumption
def QY(K:ib)(P:ig)(cs:List ig):Bool:=MY K P VE&&cs.all (QZ K P)
theorem dq{h:Heap}{mg:Str->Option ie}{c1 c2 c3 c4:ig}(X:K.In h)(G:h.Ns mainGlobals mg)(p:nsIn K mainGlobals "ParleyError" = some (some (.ref P)))(a1:nsIn K mainGlobals "Short" = some (some (.ref c1)))(a2:nsIn K mainGlobals "Broken" = some (some (.ref c2)))(a3:nsIn K mainGlobals "NoTalk" = some (some (.ref c3)))(a4:nsIn K mainGlobals "NoName" = some (some (.ref c4)))(q:QY K P [c1,c2,c3,c4]=true)(nd:[P,c1,c2,c3,c4].Nodup):XM K mg P (JL c1 c2 c3 c4):=by
 unfold QY at q;simp only[uk1,List.all_nil,uk3,ug8] at q;clear 5 q q0 q1 q2 q3 q4;have o1:=Ju q1;have o2:=Ju q2;have o3:=Ju q3;have o4:=Ju q4;have inj:∀n∈Bs,∀m∈Bs,JL c1 c2 c3 c4 n=JL c1 c2 c3 c4 m->n=m:=by
  simp only[ui0,uj7,uh1,lG,lL,uj4,and_true] at nd;obtain⟨⟨n1,n2,n3,n4⟩,⟨m12,m13,m14⟩,⟨m23,m24⟩,m34,_⟩:=nd;have h1:JL c1 c2 c3 c4 "Short" = c1:=rfl;have h2:JL c1 c2 c3 c4 "Broken" = c2:=rfl;have h3:JL c1 c2 c3 c4 "NoTalk" = c3:=rfl;have h4:JL c1 c2 c3 c4 "NoName" = c4:=rfl;refine Dn ?_ ?_ ?_ ?_<;>refine Dn ?_ ?_ ?_ ?_<;>intro e<;>first|rfl|(exfalso;rw[h1] at e)|(exfalso;rw[h2] at e)|(exfalso;rw[h3] at e)|(exfalso;rw[h4] at e)
  all_goals (first|rw[h1] at e|rw[h2] at e|rw[h3] at e|rw[h4] at e)
  all_goals (first|contradiction|(have e:=e.symm;contradiction))
 refine⟨mg_of X G p,.of_in q0,Dn a1 a2 a3 a4,Dn (mg_of X G a1) (mg_of X G a2) (mg_of X G a3) (mg_of X G a4),Dn o1.cl o2.cl o3.cl o4.cl,inj,?_,
  Dn o1.kp o2.kp o3.kp o4.kp,Dn o1.gt o2.gt o3.gt o4.gt,Dn o1.gc o2.gc o3.gc o4.gc,Dn o1.na o2.na o3.na o4.na,Dn o1.nd o2.nd o3.nd o4.nd⟩
 simp only[ui0,uj7,uh1,lG,lL] at nd;obtain⟨⟨n1,n2,n3,n4⟩,_⟩:=nd;exact Dn (Ne.symm n1) (Ne.symm n2) (Ne.symm n3) (Ne.symm n4)
noncomputable def AX(s:Stmt)(k:Nat):Stmt:=match s with
 |.ClassDef _ _ _ body _ _ _ _ _ _ _=>body.getD k (.Pass ⟨0,0,0,0⟩)
 |_=>.Pass ⟨0,0,0,0⟩
noncomputable def G7(K:ib)(C f:ig):Bool:=match clsIn K C with
 |some cd=>nsIn K cd.ns "__init__" == some (some (.ref f))
 |none=>false
def XF1(K:ib)(C P:ig)(qual:Str)(st:Stmt):Prop:=∃(f:ig) (fd:iu),XMk K C P f/\XAt K C P "at"/\Binds K fd ["self", "at"] []/\Fun K "__init__" qual st f fd
variable{C:ig}
set_option tactic.hygienic true in
theorem a7{f:ig}{qual:Str}{st:Stmt}{od an:Option ig}{sl:Array (Option ie)}{oc kV dc pm cd ct:ie}(o:XOne K P C)(i:G7 K C f=true)(hf:isFn K (.ref f)=true)(hs:findIn K (.ref C) "__setattr__" = some (some (.builtin "object.__setattr__")))
 (l:K.lookup f=some ⟨oc,od,.func (PySem.W.fnOf "__init__" qual (Do st) (Bq st) (An st) .none kV dc pm an cd ct),sl⟩) (c:codeIn K cd qual=true) (k:keepIn K (.ref f)=true)
 (hb:∀(kV doc pm:ie) (an:Option ig) (cdv ct:ie) (us:List ie),us.length=2->bindArgs (PySem.W.fnOf "__init__" qual (Do st) (Bq st) (An st) .none kV doc pm an cdv ct) ⟨us,[]⟩=pure ((["self", "at"]:List Str).zip us)):XF1 K C P qual st:=by
 refine⟨f,_,⟨o.cl,?_,hf,o.kp⟩,⟨o.cl,hs,o.na⟩,(FG (st:=st) l c k).binds (ps:=["self", "at"]) hb,FG (st:=st) l c k⟩;unfold G7 at i
 split at i
 .next cd' e=>exact⟨cd',e,lv.mp i⟩
 .cases i
theorem Ui{prog:im}{w:ir}{mg:Str->Option ie}{base:Heap}{qual:Str}{st:Stmt}{p1 p2 p3 p4:Pos}(hbd:Bq st=[.Assign [.Attribute (.Name "self" p1) "at" p2] (.Name "at" p3) p4])(S:FnScope ["self", "at"] ["self", "at"] (An st))
 (s1:(An st).names.lookup ("self":Str)=some NameKind.local) (s2:(An st).names.lookup ("at":Str)=some NameKind.local) (x:XF1 K C P qual st):XN1 prog w K mg base C P:=by
 clear 5 x f fd M A B F;refine⟨f,fd,_,M,A,B,F.ok (k:=0) S (λvs H Q E h=>?_) λcdv A' outer s H vs Q E hr h=>?_⟩
 .obtain⟨y,C',tp,v,rfl,_⟩:=h;rfl
 .rw[hbd];refine⟨_,Hc (Qp (P:=P) (Dc (i:=0) rfl (.inl s1) (by decide) (by decide)) (Dc (i:=1) rfl (.inl s2) (by decide) (by decide)) rfl),?_⟩;clear 5 h y C' tp v rfl hy ha k;exact⟨v,rfl,.ref y,rfl,y,C',tp,rfl,hy,ha,λdx h1 h2=>k dx h1 h2⟩
noncomputable def KO(K:ib)(C:ig):Bool:=match clsIn K C with
 |some cd=>nsIn K cd.ns "__init__" == some none
 |none=>false
set_option tactic.hygienic true in
theorem Tr(h:KO K C=true):XN0 K C:=by
 unfold KO at h
 split at h
 .next cd e=>exact⟨cd,e,lv.mp h⟩
 .cases h
end
inductive Kd where
 |pl|fr|ex|er
abbrev okK(k:Kd)(P:im)(w:ir)(K:ib)(mg:Str->Option ie)(base:Heap)(n:Nat)(fa:ig)(fd:iu)(ps:List Str)(f:Fn):Prop:=match k with
 |.pl=>FnOk P w K mg base CX0 n fa fd ps (spF K f)
 |.fr=>FnOk P w K mg base CX0 n fa fd ps (spFF K f)
 |.ex=>FnOk P w K mg base (CX1 true P w) n fa fd ps (spX K f)
 |.er=>FnOk P w K mg base (CX1 false P w) n fa fd ps (spX K f)
section
variable{X:Cx}{e a b:Expr}{pos:Pos}{f g:M D}
theorem OT{E:XK}(h:PE X e (RE X.K f)):PS X (.Return (some e) pos) (RSg X.K (μX X.K E) (Al (nxD f))):=
 Br (IR h) λD σ H z9=>by
  clear 5 z9 Oo c t fi o t' eq k;clear 5(Af eq)d t1 e1 eq
  cases eq
  clear 5(NQ e1)e2 e3;exact⟨Oo,c,t,fi,d,_,e2,λv H1 c1 f1 s1 rv=>RL e3 (k σ H1 c1 f1 s1 v rv)⟩
end
theorem Sf{K:ib}:∀(c:Cf) (H:Hp) (r:D) (rt:V->Hp->Prop),Bt r=false->(∀v,Rep K c H v r->rt v H)=μR K c H r rt:=λ_ _ _ _ _=>rfl
theorem Zx{K:ib}{E:XK}:∀(c:Cf) (H:Hp) (r:D) (rt:V->Hp->Prop),Bt r=false->(∀v,Rep K c H v r->rt v H)=μX K E c H r rt:=λc H r rt h=>by
 unfold μX;rw[h];rfl
section
variable{qx:Bool}
section
variable{X:Cx}{P:ig}{ca:Str->ig}{a:Expr}{es:List Expr}{f:M D}{p pos q:Pos}{i:Nat}{ns:List Str}
end
end
section
variable{qx:Bool}
section
variable{prog:im}{w:ir}{A:Around}{s:ij}{K:ib}{x C P dx:ig}{ox:Obj}{od:Option Obj}{R:Result->ij->Prop}{name:Str}{v:ie}{tk:Tok}{cd:ClassData}
theorem UE(X:K.In s.heap)(I:InstAt s.heap x ox C od)(hc:clsIn K C=some cd)(hmr:cd.mro=GD C P)(ha:findIn K (.ref C) name=some none)
 (h:wpAny (model prog w) A.in1 (storeInOwnDict (.ref x) (.ref C) (.str name tk) name v false) (λfin s'=>match fin with | .done f=>R (.ok f) s' | .again c'=>c'.quiet=true/\codeAny (model prog w) A c' R s') (λe s'=>R (.error e) s') s) :
 codeAny (model prog w) A (.call (.builtin "object.__setattr__") ⟨[.ref x,.str name tk,v],[]⟩) R s:=by
 have SF:=PySem.F.store_object;have ob:Looks (model prog w) s.heap (isInstance (.ref x) (.type "object")) true:=I.type.andThen (looks_mroIn X (by unfold mroIn;rw[hc,uh2,hmr];rfl));refine ju SF.slot.plain SF.entry (@check_slot (model prog w) _ _ s "object.__setattr__" "object" "__setattr__" (.ref x) [.str name tk,v] [] _ SF.kind SF.split ob (SF.args (.ref x) (.str name tk) v) ?_);have mr:Looks (model prog w) s.heap (mroOf (.ref C)) (GD C P):=by rw[<-hmr];exact(lu X hc).andThen .now
 rw[osa_eq,refuse_eq];refine ul8 (ul8 (I.type.here (ul8 (mr.here ?_))));rw[KS];refine ul9 (ul8 (I.type.here (ul8 ((lg X ha).here ?_))));exact ul8 (ul9 h)
theorem U8{E:ie->ij->Prop}{Q:Unit->ij->Prop}{m:Str->Option ie}{a:Str}{oD:Obj}(X:K.In s.heap)(hx:s.heap.get? x=some ox)(hcl:ox.cls=.ref C)(hno:notCls ox=true)(hod:ox.dict=some dx)(hdx:s.heap.get? dx=some oD)(n1:s.heap.Ns1 dx m)(hm:PySem.Within m [a])(hs:findIn K (.ref C) "__setattr__" = some (some (.builtin "object.__setattr__")))(hc:clsIn K C=some cd)(hmr:cd.mro=GD C P)(hd:cd.hasDict=true)(ha:findIn K (.ref C) name=some none)
 (h:∀h',(∀b o,b≠dx->s.heap.get? b=some o->h'.get? b=some o)->h'.Ns1 dx (λy=>if y=name then some v else m y)->Q () {s with heap:=h',toks:=s.toks+2}) :
 wpAny (model prog w) A (setAttr (.ref x) name v) Q E s:=by
 have I:InstAt s.heap x ox C (some oD):=⟨hx,hcl,hno,by rw[hod];exact hdx⟩;refine set_plain X I hs (UE (s:={s with toks:=s.toks+1}) X I hc hmr ha ?_);refine ul8 (ul9 (ul8 (ul8 (kr (s:={s with toks:=s.toks+1}) hx ?_))));rw[hod,hcl];refine ul8 (Looks.here (s:={s with toks:=s.toks+1}) (lu X hc) ?_);rw[hd,lK (by decide)];refine ul9 ?_;refine ul8 (ul9 (ul8 ?_));refine wpAny_nsSet1 n1 λh' n2 sb=>?_;clear 5(n2.count (kf name v hm))oD esD epD hoD hdD hcD;refine ul8 (kj hoD (by rw[hdD];exact kl (uk9 hcD (by show 2<=_;decide))) ?_);exact ul9 (h h' (λb o hb e=>(sb.2 b hb).trans e) n2)
end
def eF(K:ib)(P:ig)(ta tv:TE)(f1 f:Str):TS:=λD σ H=>tv σ H λy H1=>ta σ H1 λx H2=>∃a C tp dx y1,x=.ref a/\H2 a=some (FK a C tp dx)/\H2 dx=some (.xd [(f1,y1)])/\dx≠a/\XAt K C P f/\D.nx σ (upd H2 dx (.xd [(f1,y1),(f,y)]))
theorem SJ{X:Cx}{P:ig}{o value:Expr}{ta tv:TE}{f1 f:Str}{pos' pos:Pos}(hf:f1≠f)(ha:PE X o ta)(hv:PE X value tv)(hs:swapsWith value (some (.Attribute o f pos')) pos.line X.env=pure false):PS X (.Assign [.Attribute o f pos'] value pos) (eF X.K P ta tv f1 f):=by
 intro ic s σ H D I h;refine iy (thn (hv ic s σ H _ I h) λu s1 ⟨y,H1,I1,ry,q⟩=>thn (ha ic s1 σ H1 _ I1 q) λov s2 z9=>?_) hs;clear 5 z9 x H2 I2 rx a C tp dx y1 ex ea ed ne c q2;subst ex;obtain rfl:ov=Value.ref a:=rx;clear 5 c.cl.cls cd c1 c2 c3;have hx:s2.heap.get? a=some {excObj C tp with dict:=some dx}:=(I2.hok a _ ea).1;clear 5((show ObjOk X.prog X.w H2 s2.heap dx (.xd [(f1,y1)]) from I2.hok dx _ ed))m n1 rm;obtain⟨oD,ho,_⟩:=GH n1;have hw:PySem.Within m [f1]:=λg hg=>by
  by_cases e:g=f1
  .simp[e]
  .exfalso;have z:=rm g;have hgb:(g==f1)=false:=jv.mpr e;simp only[List.lookup,hgb] at z
   cases hm:m g with
   |none=>exact hg hm
   |some u=>rw[hm] at z;exact z
 refine U8 I2.kIn hx rfl rfl rfl ho n1 hw c.set c1 c2 c3 c.no λh' k n=>?_;have na:∀b u,s2.heap.get? b=some u->H2 b=none->b≠dx:=λb u _ z w'=>by rw[w',ed] at z;cases z
 refine⟨σ,_,I2.un (h':=h') (t':=s2.toks+2) ⟨λb u e1 e2 _ _=>k b u (na b u e1 e2) e1,λb u e1 e2 _ _=>⟨u.slots,k b u (na b u e1 e2) e1⟩,λb u e1 e2 _=>?_,λb u e1 _=>?_,λb xs e1=>?_,λb o' u e1=>?_,λb ps e1=>⟨#[],?_⟩⟩ λb u e1=>?_,q2⟩
 .rw[Ah (na b u e1 e2)];exact e2
 .by_cases hb:b=dx
  .subst hb;obtain⟨od',es,ep,e,_⟩:=n;exact⟨_,e⟩
  .exact⟨_,k b u hb e1⟩
 .rw[Ah (λz=>by rw[z,ed] at e1;cases e1)];exact e1
 .rw[Ah (λz=>by rw[z,ed] at e1;cases e1)];exact e1
 .rw[Ah (λz=>by rw[z,ed] at e1;cases e1),e1];simp
 .by_cases hb:b=dx
  .subst hb;rw[Ak] at e1;cases e1
   refine⟨_,n,λg=>?_⟩
   by_cases hg:g=f
   .subst hg;have hgb:(g==f1)=false:=jv.mpr (Ne.symm hf);simp only[List.lookup,hgb,uh4,lH];exact ry
   .have hgb:(g==f)=false:=jv.mpr hg;have z:=rm g
    by_cases hg1:g=f1
    .subst hg1;simp only[List.lookup,uh4] at z;simp only[List.lookup,uh4,lK hg];exact z
    .have hgb1:(g==f1)=false:=jv.mpr hg1;simp only[List.lookup,hgb1] at z;simp only[List.lookup,hgb,hgb1,lK hg];exact z
  .rw[Ah hb] at e1;refine(I2.hok b u e1).stay (λz v hz q=>k z v ?_ q) (λz q=>?_) λz xs q=>?_
   .rcases hz with rfl|hz
    .exact hb
    .intro w';rw[w',ed] at hz;cases hz
   .rw[Ah (λz=>by rw[z,ed] at q;cases q)];exact q
   .rw[Ah (λz=>by rw[z,ed] at q;cases q)];exact q
def IT(K:ib)(P:ig)(a b:Str):Sp:=λvs H Q _=>∃x C tp v u,vs=[.ref x,v,u]/\H x=some (exO x C tp)/\XAt K C P a/\XAt K C P b/\∀dx,H dx=none->dx≠x->Q .non (upd (upd H dx (.xd [(a,v),(b,u)])) x (FK x C tp dx))
section
variable{X:Cx}{k:Nat}{f C P:ig}{fd:iu}{ic:List (ig×Obj)}{σ:St}{H:Hp}{s:ij}{Q:ie->ij->Prop}{us:List ie}{vs:List V}{a b:Str}{ps:List Str}{v v2:V}{u u2:ie}
set_option tactic.hygienic true in
theorem Qz(M:XMk X.K C P f)(ha:XAt X.K C P a)(hab:XAt X.K C P b)(F:FnOk X.prog X.w X.K X.mg X.base CX0 k f fd ps (IT X.K P a b))(hr:Room (k+1) X.A)(hb:Binds X.K fd ps [])(I:Inv X ic σ H s)(r:RelV v u)(rr:RelV v2 u2)
 (h:∀s' x dx,Inv X ic σ (upd (upd H dx (.xd [(a,v),(b,v2)])) x (.ext (L2.XIs qx x C (some dx)))) s'->H x=none->H dx=none->dx≠x->s.heap.objs.size<=x->XRec true s'.heap x C (some dx) .none->Q (.ref x) s'):wpAny (model X.prog X.w) X.A (call (.ref C) [u,u2]) Q X.xe s:=by
 clear 5(M.cl.obj I.kIn)nm q N bs sn sub ab col dd k0 k1 k2 k3 k5 hC hN;have hni:s.heap.nsMap N "__init__" = some (.ref f):=by
  clear 5 M.init cd c1 c2;refine HE I.kIn hN ?_;unfold clsIn at c1
  split at c1
  .next l=>
   cases c1
   have z:=I.kIn _ _ l;rw[hC] at z
   cases z
   exact c2
  .cases c1
 have I1:Inv X ic σ (upd H (s.heap.objs.size+1) (exO (s.heap.objs.size+1) C s.heap.objs.size)) {s with heap:=Ew s.heap C [u,u2]}:=by
  refine I.laid (t':=s.toks) (λb o e=>ub9 _ (ub9 _ e)) (ul6 _) (Nv ?_);show((s.heap.push _).push _).get? _=_
  heap_get
 have hx0:=I.hok.fresh (ul6 s.heap.objs.size);have r2:Vals [V.ref (s.heap.objs.size+1),v,v2] [Value.ref (s.heap.objs.size+1),u,u2]:=.cons rfl (.cons r (.cons rr .nil));have hsp:IT X.K P a b [V.ref (s.heap.objs.size+1),v,v2] (upd H (s.heap.objs.size+1) (exO (s.heap.objs.size+1) C s.heap.objs.size))
  (λw' H'=>w'=.non/\∃dx,H dx=none/\dx≠s.heap.objs.size+1/\H'=upd (upd H dx (.xd [(a,v),(b,v2)])) (s.heap.objs.size+1) (FK (s.heap.objs.size+1) C s.heap.objs.size dx)) E0:=by
  refine⟨_,C,s.heap.objs.size,v,v2,rfl,Ak,ha,hab,λdx h1 h2=>⟨rfl,dx,by rw[Ah h2] at h1;exact h1,h2,?_⟩⟩
  funext b
  by_cases e1:b=s.heap.objs.size+1
  .subst e1;rw[Ak,Ak]
  .by_cases e2:b=dx
   .subst e2;rw[Ah e1,Ah e1,Ak,Ak]
   .rw[Ah e1,Ah e1,Ah e2,Ah e2,Ah e1]
 have hl:([Value.ref (s.heap.objs.size+1),u,u2]++[]).length=ps.length:=by
  have e:=F.len _ _ _ _ hsp;simpa using e
 clear 5 s hh g d t os;refine lw (JW ua6 (M.cl.tail I.kIn) hC hN hni ((bind_fn I.kIn _ (lv.mp M.fn))) (by show 2<=sizeLine;decide) ?_);refine ld (F.run _ X.stack _ _ ⟨[Value.ref (hh.objs.size+1),u,u2],[]⟩ [Value.ref (hh.objs.size+1),u,u2] _ _ E0 (hr.make C [u,u2] []) (I1.env0.make C [u,u2] []) (by have:=hb _ [Value.ref (hh.objs.size+1),u,u2] I1.kIn hl;simpa using this) r2 hsp) λr s' hq'=>?_
 cases r with
 |error e=>exact hq'.elim
 |ok fl=>
   cases fl with
   |ret w'=>
     clear 5(I1.after hq')v' H' I3 rv rfl dx d1 d2 rfl;refine⟨rv,?_⟩;have hx:=(I3.hok (hh.objs.size+1) _ Ak).1;have hx:s'.heap.get? (hh.objs.size+1)=some {excObj C hh.objs.size with dict:=some dx}:=hx;have xr:XRec true s'.heap (hh.objs.size+1) C (some dx) .none:=⟨_,_,hx,rfl,rfl,rfl,rfl,λ_=>⟨rfl,by show 4<6;decide⟩⟩;have I4:=I3.write (x:=hh.objs.size+1) (e:=hh.objs.size+1) (o:=.ext (L2.XIs qx (hh.objs.size+1) C (some dx))) (h':=s'.heap) (t':=s'.toks) (by rw[Ak];trivial) (.inl rfl) (λ_ _ _ z=>z) ⟨_,hx⟩ (Io xr.to.is);rw[LX] at I4;exact h s' (hh.objs.size+1) dx I4 hx0 d1 d2 (ul6 _) xr
   |next=>exact False.elim hq'
   |brk=>exact False.elim hq'
   |cont=>exact False.elim hq'
end
section
variable{X:Cx}{k:Nat}{f C P:ig}{fd:iu}{a b:Str}{ps:List Str}{n:Str}{p pos:Pos}{e e':Expr}
theorem Z1{t:TA}(M:XMk X.K C P f)(ha:XAt X.K C P a)(hab:XAt X.K C P b)(F:FnOk X.prog X.w X.K X.mg X.base CX0 k f fd ps (IT X.K P a b))(hr:Room (k+1) X.A)(hb:Binds X.K fd ps [])(hg:Gl X n)(hm:X.mg n=some (.ref C))(hA:PA X [e,e'] t)
 (hdb:(n==("__debug__":Str))=false:=by decide) (h1:starEach [e,e'] X.env=(false,eval e X.env)::starEach [e'] X.env:=by rfl) (hpl:(backTo pos (starEach [e'] X.env)).any (·.1)=false:=by rfl) :
 PM qx X (.Call (.Name n p) [e,e'] [] pos) C (λσ H Q=>t σ H λvs H1=>∃v u,vs=[v,u]/\∀x dx,H1 x=none->H1 dx=none->dx≠x->Q x (some dx) (upd (upd H1 dx (.xd [(a,v),(b,u)])) x (.ext (L2.XIs qx x C (some dx))))):=by
 intro ic s σ H Q I h;refine jz (C6 I hg hm ?_ hdb);refine ue4 (h₀:=X.base) I.ok.mod.kin M.kp (thn (hA pos ic s σ H _ I h) λus s1 z9=>?_) h1 hpl;clear 5 z9 vs H1 I1 r v u ev q;refine⟨I1.kIn,?_⟩;subst ev
 cases r with
 |cons r0 rs=>
   cases rs with
   |cons r1 rs=>
     cases rs
     exact Qz M ha hab F hr hb I1 r0 r1 λs' x dx I' hx hdx ne nx rc=>⟨x,some dx,_,rfl,I',Ak,uk9 I1.sz nx,rc,q x dx hx hdx ne⟩
end
end
section
variable{qx:Bool}
section
variable{X:Cx}{e e':Expr}{pos p pos2:Pos}{E:L2.St->XK}{P:ig}{ca:Str->ig}
def XN2(prog:im)(w:ir)(K:ib)(mg:Str->Option ie)(base:Heap)(C P:ig):Prop:=
 ∃(f:ig) (fd:iu) (ps:List Str),XMk K C P f/\XAt K C P "at"/\XAt K C P "side"/\Binds K fd ps []/\FnOk prog w K mg base CX0 1 f fd ps (IT K P "at" "side")
def Eh(n:Str)(f:M (List D)):M Out:=bnd f λds=>match ds with
 |[d,d']=>ret (.ret (.exc n [d,d']))
 |_=>fail
theorem Rx{f:M (List D)}(x:XM X.K X.mg P ca)(xn:XN2 X.prog X.w X.K X.mg X.base (ca "Broken") P)(hr:L2.Room 2 X.A)(hc:X.calm=true)(hx:F6 qx X E)(hg:Gl X "Broken")(ha:PA X [e,e'] (RA X.K f))
 (h1:Ba e=false:=by rfl) (h2:Bg [e']=true:=by rfl):PS X (.Raise (some (.Call (.Name "Broken" p) [e,e'] [] pos)) none pos2) (RSX X.K E (Eh "Broken" f)):=by
 clear 5 xn fa fd ps M A A2 B F;have hn:("Broken":Str)∈Bs:=by decide
 refine Br (J0 hc M.cl hx (Z1 M A A2 F hr B hg (x.ms _ hn) ha (by decide) (A6 h1) (AY h2).1)) λD σ H z9=>?_;clear 5 z9 Oo c t fi o t' eq k;clear 5(Af eq)ds t1 e1 eq;refine⟨Oo,c,t,fi,ds,t1,e1,λvs H1 c1 f1 s1 rvs=>?_⟩;rcases ds with _|⟨d,_|⟨d',_|⟨_,_⟩⟩⟩
 .cases eq
 .cases eq
 .cases rvs with
  |@cons v0 _ _ _ rv r=>
  cases r with
  |@cons v1 _ _ _ rv1 r=>
  cases r
  cases eq
  refine⟨_,_,rfl,λy dx hy hdx ne=>?_⟩;have f2:=f1.laid (o:=.xd [("at",v0),("side",v1)]) hdx;have hy2:upd H1 dx (.xd [("at",v0),("side",v1)]) y=none:=by rw[Ah (Ne.symm ne)];exact hy
  have f3:=f2.laid (o:=.ext (XIs qx y (ca "Broken") (some dx))) hy2;have ex:=(f1.stp_laid (o:=.xd [("at",v0),("side",v1)]) hdx).ext.trans (f2.stp_laid (o:=.ext (XIs qx y (ca "Broken") (some dx))) hy2).ext;have s3:=s1.trans ((f1.stp_laid (o:=.xd [("at",v0),("side",v1)]) hdx).trans (f2.stp_laid (o:=.ext (XIs qx y (ca "Broken") (some dx))) hy2));refine k σ _ c1 f3 s3 (.ref y) (.exc (x.ns _ hn) Ak (f2.s.free hy2) ?_ (.cons (rv.mono ex) (.cons (rv1.mono ex) .nil))) y (some dx) rfl;exact⟨by rw[Ah ne,Ak];rfl,f1.s.free hdx⟩
 .cases eq
end
def XF2(K:ib)(C P:ig)(qual:Str)(st:Stmt):Prop:=∃(f:ig) (fd:iu),XMk K C P f/\XAt K C P "at"/\XAt K C P "side"/\Binds K fd ["self", "at", "side"] []/\Fun K "__init__" qual st f fd
set_option tactic.hygienic true in
theorem a9{K:ib}{C P f:ig}{qual:Str}{st:Stmt}{od an:Option ig}{sl:Array (Option ie)}{oc kV dc pm cd ct:ie}(o:XOne K P C)(i:G7 K C f=true)(hf:isFn K (.ref f)=true)(hs:findIn K (.ref C) "__setattr__" = some (some (.builtin "object.__setattr__")))
 (l:K.lookup f=some ⟨oc,od,.func (PySem.W.fnOf "__init__" qual (Do st) (Bq st) (An st) .none kV dc pm an cd ct),sl⟩) (c:codeIn K cd qual=true) (k:keepIn K (.ref f)=true)
 (hb:∀(kV doc pm:ie) (an:Option ig) (cdv ct:ie) (us:List ie),us.length=3->bindArgs (PySem.W.fnOf "__init__" qual (Do st) (Bq st) (An st) .none kV doc pm an cdv ct) ⟨us,[]⟩=pure ((["self", "at", "side"]:List Str).zip us)):XF2 K C P qual st:=by
 refine⟨f,_,⟨o.cl,?_,hf,o.kp⟩,⟨o.cl,hs,o.na⟩,⟨o.cl,hs,o.nd⟩,(FG (st:=st) l c k).binds (ps:=["self", "at", "side"]) hb,FG (st:=st) l c k⟩;unfold G7 at i
 split at i
 .next cd' e=>exact⟨cd',e,lv.mp i⟩
 .cases i
theorem Uj{prog:im}{w:ir}{K:ib}{mg:Str->Option ie}{base:Heap}{C P:ig}{qual:Str}{st:Stmt}{p1 p2 p3 p4 p5 p6 p7 p8:Pos}(hbd:Bq st=[.Assign [.Attribute (.Name "self" p1) "at" p2] (.Name "at" p3) p4,.Assign [.Attribute (.Name "self" p5) "side" p6] (.Name "side" p7) p8])(S:FnScope ["self", "at", "side"] ["self", "at", "side"] (An st))
 (s1:(An st).names.lookup ("self":Str)=some NameKind.local) (s2:(An st).names.lookup ("at":Str)=some NameKind.local) (s3:(An st).names.lookup ("side":Str)=some NameKind.local) (x:XF2 K C P qual st):XN2 prog w K mg base C P:=by
 clear 5 x f fd M A A2 B F;refine⟨f,fd,_,M,A,A2,B,F.ok (k:=0) S (λvs H Q E h=>?_) λcdv A' outer s H vs Q E hr h=>?_⟩
 .obtain⟨y,C',tp,v,u,rfl,_⟩:=h;rfl
 .rw[hbd];refine⟨_,Ka (Qp (P:=P) (Dc (i:=0) rfl (.inl s1) (by decide) (by decide)) (Dc (i:=1) rfl (.inl s2) (by decide) (by decide)) rfl) (Hc (SJ (P:=P) (f1:="at") (by decide) (Dc (i:=0) rfl (.inl s1) (by decide) (by decide)) (Dc (i:=2) rfl (.inl s3) (by decide) (by decide)) rfl)),?_⟩;clear 5 h y C' tp v u rfl hy ha ha2 k;refine⟨v,rfl,.ref y,rfl,y,C',tp,rfl,hy,ha,λdx h1 h2=>⟨u,rfl,.ref y,rfl,y,C',tp,dx,v,rfl,Ak,by rw[Ah h2,Ak],h2,ha2,?_⟩⟩;have z:=k dx h1 h2;have e:upd (upd (upd H dx (.xd [("at",v)])) y (FK y C' tp dx)) dx (.xd [("at",v),("side",u)])=upd (upd H dx (.xd [("at",v),("side",u)])) y (FK y C' tp dx):=by
   funext b
   by_cases e1:b=dx
   .subst e1;rw[Ak,Ah h2,Ak]
   .by_cases e2:b=y
    .subst e2;rw[Ah e1,Ak,Ak]
    .rw[Ah e1,Ah e2,Ah e1,Ah e2,Ah e1]
  rw[e];exact z
end
section
variable{X:Cx}{a b:Expr}{pos:Pos}
end
theorem ML:entryFor table "proto.unchain" = some Builtin.«proto.unchain»:=entryFor_of_tree (by kernel_rfl)
section
variable{prog:im}{w:ir}{A:Around}{E:ie->ij->Prop}{env:Env}{K:ib}{C:ig}{bm:List ie}{s:ij}
theorem QI{x y:ig}{ox:Obj}{vx:Array ie}{Q:ie->ij->Prop}(gx:s.heap.get? x=some ox)(dx:ox.data=.fields vx)(x2:vx[2]?=some .none)(h:Q .none s) :
 wpAny (model prog w) A (runValue (.builtin "proto.unchain" ⟨[.ref y,.ref x,.ref x,.bool false],[]⟩)) Q E s:=by
 refine runValue_entry ML ?_;unfold Builtin.«proto.unchain»;refine ul8 (ul7 gx dx x2 ?_);rw[lJ (by decide)];refine ul8 (ul9 (ul9 ⟨_,rfl,h⟩))
theorem UW{t c0:Sem ie}{x:ig}{Q:Flow->ij->Prop}(c:XCl K C bm)(hh:A.handled=some (.ref x))
 (hc0:∀(s:ij) (Q:ie->ij->Prop) (E:ie->ij->Prop),Q Value.none s->wpAny (model prog w) A c0 Q E s)
 (h:wpAny (model prog w) A t (λv s1=>∃y dy ox vx,v = .ref y/\y≠x/\K.In s1.heap/\XRec true s1.heap y C dy .none/\s1.heap.get? x=some ox/\ox.data = .fields vx/\vx[2]?=some .none/\
   ∀h',XRec false h' y C dy .none->(∀b,b≠y->h'.get? b=s1.heap.get? b)->E v {s1 with heap:=h'}) E s):wpAny (model prog w) A (raiseStmt env (some t) (some c0)) Q E s:=by
 unfold raiseStmt;refine ul8 (um0 h (λv s1 q=>?_) λ_ _ z=>z);obtain⟨y,dy,ox,vx,rfl,ne,X,⟨o,vs,hx,hc,hd,hdt,h1,h2⟩,gx,dx,x2,hE⟩:=q;clear 5(h2 rfl)h2 h4;obtain⟨nm,q,N,bs,sn,sub,ab,col,dd,k0,k1,k2,k3,k5,hC,_⟩:=c.obj X;have hb:=c.has X;clear 5 s1 hp g d tk os;refine ul8 (uk6 (hc0 _ _ _ (ul8 (ul9 ?_))))
 repeat (first
  |(with_reducible refine kg hx ?_;rw[hc])
  |with_reducible refine kg hC ?_
  |(with_reducible refine jx hC ?_;rw[hb])
  |with_reducible refine ul7 hx hdt h1 ?_
  |wp_step)
 have nC:C≠y:=by
  rintro rfl;rw[hC] at hx
  cases hx
  cases hdt
 rw[hdt];show wpAny _ _ (if 3<vs.size then _ else _) _ _ _;rw[lJ (Nat.lt_of_succ_lt h4)];refine wpAny_update hx ?_;clear 5(Gm hdt (·.setIfInBounds 3 Value.none))m1 m2 m3;have hx1:=uc8 (Obj.mapFields (·.setIfInBounds 3 Value.none)) hx (jr m1);refine ul8 (ku hx1 m1 (by rw[ub4];exact h4) ?_);clear 5(Gm m1 (·.setIfInBounds 4 (Value.bool true)))n1 n2 n3;have hx2:=uc8 (Obj.mapFields (·.setIfInBounds 4 (Value.bool true))) hx1 (jr n1);have oth:∀b,b≠y->((hp.update y (Obj.mapFields (·.setIfInBounds 3 Value.none))).update y (Obj.mapFields (·.setIfInBounds 4 (Value.bool true)))).get? b=hp.get? b:=λb z=>by
  rw[uc1 _ _ (Ne.symm z),uc1 _ _ (Ne.symm z)]
 have hC2:=(oth C nC).trans hC;have gx2:=(oth x (Ne.symm ne)).trans gx;have hc2:=n2.trans (m2.trans hc);have hd2:=n3.trans (m3.trans hd);have t1:((vs.setIfInBounds 3 Value.none).setIfInBounds 4 (Value.bool true))[1]?=some .none:=by
  rw[ua1 (by decide),ua1 (by decide)];exact h1
 have t4:2<((vs.setIfInBounds 3 Value.none).setIfInBounds 4 (Value.bool true)).size:=by
  rw[ub4,ub4];lia
 show wpAny (model prog w) A _ Q E ⟨(hp.update y (Obj.mapFields (·.setIfInBounds 3 Value.none))).update y (Obj.mapFields (·.setIfInBounds 4 (Value.bool true))),g,d,tk,os⟩;generalize (hp.update y (Obj.mapFields (·.setIfInBounds 3 Value.none))).update y (Obj.mapFields (·.setIfInBounds 4 (Value.bool true)))=h3 at hx2 oth hC2 gx2;generalize ((o.mapFields (·.setIfInBounds 3 Value.none)).mapFields (·.setIfInBounds 4 (Value.bool true)))=o2 at hx2 hc2 hd2 n1;generalize ((vs.setIfInBounds 3 Value.none).setIfInBounds 4 (Value.bool true))=vs2 at n1 t1 t4;clear hx1 m1 m2 m3 n2 n3
 repeat (first
  |(with_reducible refine kg hx2 ?_;rw[hc2])
  |with_reducible refine kg hC2 ?_
  |(with_reducible refine jx hC2 ?_;rw[hb])
  |with_reducible refine ul7 hx2 n1 t1 ?_
  |wp_step)
 unfold raiseNew;refine ul8 (wpAny_handled ?_);rw[hh];dsimp only;rw[lJ (by simpa using Ne.symm ne)];refine ul8 (uk6 (QI gx2 dx x2 (ul8 ?_)));clear 5(Gm n1 (·.setIfInBounds 2 (Value.ref x)))z1 z2 z3;refine ku hx2 n1 t4 ?_;have hx3:=uc8 (Obj.mapFields (·.setIfInBounds 2 (Value.ref x))) hx2 (jr z1);refine wpAny_throw (hE _ ⟨_,_,hx3,z2.trans hc2,z3.trans hd2,z1,?_,λz=>by cases z⟩ λb hb'=>?_)
 .rw[ua1 (by decide)];exact t1
 .rw[uc1 _ _ (Ne.symm hb')];exact oth b hb'
end
section
variable{X:Cx}{ic:List (ig×Obj)}{σ:St}{H:Hp}{s s':ij}{qx:Bool}{x C:ig}{dx T:Option ig}{fl:ie}
theorem XOn.keep(I:Inv X ic σ H s)(o:XOn qx X ic H s x C dx T fl)(k:∀b,b≠X.env.locals->(∀z c,X.env.cells.lookup z=some c->c≠b)->s'.heap.get? b=s.heap.get? b):XOn qx X ic H s' x C dx T fl:=by
 clear 5(id o.rc)ox vs gx cx dxe dtx tbx xc;have nl:x≠X.env.locals:=λz=>by have:=o.hx;rw[z,I.free] at this;cases this
 have nc:∀z c,X.env.cells.lookup z=some c->c≠x:=λz c e w=>by
  have:=o.hx;rw[<-w,I.freeC z c e] at this
  cases this
 refine⟨o.hx,o.nx,⟨ox,vs,(k x nl nc).trans gx,cx,dxe,dtx,tbx,xc⟩,λa e=>?_,o.fo⟩;obtain⟨z1,z2,z3,⟨y1,y2,y3⟩,ot,ts,gT,dT,t3⟩:=o.tb a e;exact⟨z1,z2,z3,⟨y1,y2,y3⟩,ot,ts,(k a y1 y2).trans gT,dT,t3⟩
theorem Tm{M:Model}{A:Around}{E:ie->ij->Prop}{i:Nat}{n:Str}{pos:Pos}{Q:Unit->ij->Prop}(I:Inv X ic σ H s)(hN:X.N.Nodup)(hi:X.N[i]?=some n)(hk:X.env.scope.names.lookup n=some .local)
 (h:∀s',Inv X ic (σ.set i none) H s'->(∀b,b≠X.env.locals->(∀z c,X.env.cells.lookup z=some c->c≠b)->s'.heap.get? b=s.heap.get? b)->Q () s'):wpAny M A (do bindName X.env n .none;unbindBehindTheSuite X.env n pos) Q E s:=by
 refine ul8 (wpAny_bindName (IU (v:=.non) I hN hi (.inl hk) rfl (λs1 I1 sb1=>?_) (.inr hk)));clear 5 sb1 a1 sb1 ha1;unfold unbindBehindTheSuite;have hiσ:i < σ.length:=by rw[I.len];exact(ua9.mp hi).1
 clear 5(id I1.loc)m hn hl;have hcls:(X.env.scope.kind==.class||(X.env.scope.kind==.module&&X.env.locals != X.env.globals))=false:=by rw[I.ok.kind];rfl
 obtain⟨u0,_,lk⟩:=hl i n .non hi (by rw[ub8 hiσ]) (.inl hk);have hv:m n=some u0:=by
  rcases lk with⟨_,e⟩|⟨k,_⟩
  .exact e
  .have k:X.env.scope.names.lookup n=some .cell\/X.env.scope.names.lookup n=some .free:=k;rw[hk] at k;rcases k with k|k<;>cases k
 refine wpAny_onRaise (wpAny_unbindName_local hk hn hv hcls λh' u hn' hs=>?_);have cne:=I1.cne;have tracked:HOk X.prog X.w H h':=λb ob e=>by
  refine(I1.hok b ob e).stay (λc w' hc q=>(hs.2 c ?_).trans q) (λ_ q=>q) λ_ _ q=>q;rintro rfl;rcases hc with rfl|hc
  .rw[I1.free] at e;cases e
  .rw[I1.free] at hc;cases hc
 have far:∀b o,X.s₀.heap.get? b=some o->b≠X.env.locals:=λb o e=>uk8 (ue0 (uk7 e) I1.ok.above);refine h _ ⟨I1.ok,I1.os,I1.bare,⟨λb o e n hb hx=>?_,λb o e n hb hx=>?_,I1.base.free,λb o e hx=>?_,I1.base.tups,I1.base.frzs,I1.base.tbls⟩,⟨_,hn',λj y v' e1 e2 e3=>?_⟩,λy c e=>?_,I1.free,I1.freeC,λp hp=>?_,tracked,by simpa using I.len⟩ λb hb hc=>?_
 .exact(hs.2 b (far b o e)).trans (I1.base.keep b o e n hb hx)
 .clear 5(I1.base.slot b o e n hb hx)sl e1;exact⟨sl,(hs.2 b (far b o e)).trans e1⟩
 .clear 5(I1.base.there b o e hx)o' e1;exact⟨o',(hs.2 b (far b o e)).trans e1⟩
 .by_cases hj:j=i
  .subst hj;rw[ub8 hiσ] at e2
   cases e2
  .rw[ud2 (Ne.symm hj)] at e2;clear 5(hl j y v' e1 (by rw[ud2 (Ne.symm hj)];exact e2) e3)u' r' q;refine⟨u',r',?_⟩;rcases q with⟨k,e⟩|⟨k,c,e,z⟩
   .refine .inl ⟨k,?_⟩;have:y≠n:=λe=>hj (HC hN e1 (e ▸ hi));simp[this,e]
   .exact .inr ⟨k,c,e,z.sameBut hs (cne y c e)⟩
 .clear 5(I1.cell y c e)w' z;exact⟨w',z.sameBut hs (cne y c e)⟩
 .clear 5(I1.pin p hp)e n ne nf d;exact⟨(hs.2 p.1 ne).trans e,n,ne,nf,d⟩
 .rw[hs.2 b hb];refine sb1.2 b ?_;rintro rfl;rcases ha1 with z|z
  .exact hb z
  .exact hc _ _ z rfl
end
def Jb(X:Cx)(E:St->XK):Prop:=∀(ic:List (ig×Obj)) (σ:St) (H:Hp) (s:ij) (x C:ig) (dx T:Option ig) (fl:ie),Inv X ic σ H s->XOn false X ic H s x C dx T fl->E σ (.ref x) dx H->X.xe (.ref x) s
theorem XE.raisesT{X:Cx}{E:St->XK}:Jb (X.wish (XE false X E)) E:=λic σ H s x C dx T fl I o q=>⟨ic,σ,H,x,C,dx,T,fl,rfl,I.unwish,⟨o.hx,o.nx,o.rc,o.tb,o.fo⟩,q⟩
section
variable{X:Cx}{n v:Str}{C' C2:ig}{bm' bm2:List ie}{p pos p2:Pos}{e cN:Expr}{rest:List ExceptHandler}{t:St->Hp->(ig->Option ig->Hp->Prop)->Prop}{tr:ig->ig->Option ig->TS}{i:Nat}{E:St->XK}
def eO(K:ib)(C':ig)(i:Nat)(t:St->Hp->(ig->Option ig->Hp->Prop)->Prop)(E:St->XK)(tr:ig->ig->Option ig->TS):ig->ig->Option ig->TS:=λx C dx D σ H=>∃bm,XCl K C bm/\
 if (Value.ref C::bm).contains (.ref C')=true then t (σ.set i (some (.ref x))) H (λy dy H1=>y≠x/\H1 x=some (.ext (L2.XIs true x C dx))/\E ((σ.set i (some (.ref x))).set i none) (.ref y) dy H1) else tr x C dx D σ H
theorem bR(h1:X.stack=X.env::X.outer)(h2:X.env.frame=some X.env.locals)(hg:Gl X n)(hm:X.mg n=some (.ref C'))(c':XCl X.K C' bm')(hN:X.N.Nodup)(hi:X.N[i]?=some v)(hl:X.env.scope.names.lookup v=some .local)
 (c2:XCl X.K C2 bm2) (hp:∀x,PM false (X.mark x) e C2 t) (hx:Jb X E)
 (hz:∀(A:Around) (s:ij) (Q:ie->ij->Prop) (E:ie->ij->Prop),Q Value.none s->wpAny (model X.prog X.w) A (eval cN X.env) Q E s)
 (hr:PH true X rest tr) (hdb:(n==("__debug__":Str))=false:=by decide):PH true X (.ExceptHandler (some (.Name n p)) (some v) [.Raise (some e) (some cN) p2] pos::rest) (eO X.K C' i t E tr):=by
 intro ic s σ H x C dx T D I o ⟨bm,c,q⟩;have Im:=I.mark x;refine jy (jt (C6 Im hg hm ?_ hdb)) (by intro z;cases z)
 refine JX c c' I.kIn o.rc ?_
 cases hc:(Value.ref C::bm).contains (.ref C') with
 |false=>
   rw[hc,lK (by decide)] at q;exact hr ic s σ H x C dx T D I o q
 |true=>
   rw[hc,lJ rfl] at q;refine je ?_;refine E2 none I o (.inl rfl) λh1' I1 o1=>?_;refine Gu (v:=.ref x) I1 hN hi (.inl hl) rfl (λs2 I2=>?_) (.inr hl);refine ki ?_;rw[arm_exec_Raise];refine ul8 (kx ?_);refine UW (x:=x) c2 rfl (λs Q E h=>ul8 (hz _ _ _ _ (ul8 (kx (ul9 h))))) ?_;refine ul8 (um0 (hp x ic s2 _ H _ (I2.mark x) q) (λw' s3 z9=>?_) λ_ _ z=>z.elim);clear 5 z9 y dy H1 e1 I3 hy ny r ne hxx q1;subst e1;have J3:=I3.unmark I.ok;obtain⟨ox,vx,gx,_,_,dtx,xc⟩:=(I3.hok x _ hxx).1;refine ul8 (kx (ul9 ⟨y,dy,ox,vx,rfl,ne,I3.kIn,r,gx,dtx,(xc rfl).1,λh' r' kp=>?_⟩));clear 5(J3.newT (ul4 _))o1' o2' o3';have J4:=J3.left hy (J3.hok.fresh (ul4 _)) ny (uk9 J3.sz (ul4 _)) (ch:=[y]) (h':=h') ⟨λb u hb _ e=>(kp b (by simpa using hb)).trans e,λb u hb e=>⟨u.slots,(kp b (by simpa using hb)).trans e⟩⟩ (λb hb=>.inl (by simpa using hb)) r'.is o2' o1' o3';have o4:XOn false X ic H1 {s3 with heap:=h'} y C2 dy none .none:=⟨hy,ny,r',(λa e=>by cases e),.inl rfl⟩;refine Go I3.ok.frames J4 h1 h2 o4 λh5 a J5 o5=>?_;refine Tm J5 hN hi hl λs6 J6 k6=>?_;have o6:=o5.keep J5 k6;obtain⟨oy,vy,gy,_,_,dty,tby,_⟩:=id o6.rc;unfold PySem.passOn;refine ul8 (ul7 gy dty tby ?_);rw[lK (show ¬((Value.ref a==Value.none)=true) from by intro z;cases z)]
   rw[h2];refine ul8 (E2 (some X.env.locals) J6 o6 (.inr rfl) λh7 J7 o7=>wpAny_throw ?_);refine Go I3.ok.frames J7 h1 h2 o7 λh8 a8 J8 o8=>?_;obtain⟨oz,vz,gz,_,_,dtz,tbz,_⟩:=id o8.rc;show cameBackBy _ _ _ _ _ _;unfold cameBackBy;refine ul8 (ul7 gz dtz tbz ?_);rw[lK (show ¬((Value.ref a8==Value.none)=true) from by intro z;cases z)]
   rw[h2];exact E2 (some X.env.locals) J8 o8 (.inr rfl) λh9 J9 o9=>hx ic _ H1 _ y C2 dy _ _ J9 o9 q1
end
structure FnOkH(P:im)(w:ir)(K:ib)(mg:Str->Option ie)(base:Heap)(CX:CXT)(k:Nat)(f:ig)(fd:iu)(ps:List Str)(sp:Sp):Prop where
 len:∀vs H Q E,sp vs H Q E->vs.length=ps.length
 run:∀(z:ig) (A:Around) (outer:List Env) (s:ij) (H:Hp) (args:Args) (us:List ie) (vs:List V) (Q:VK) (E:XK),Room k A->Env0 P w K mg base A outer s H->BindsTo s fd args (ps.zip us)->Vals vs us->sp vs H Q E->
  codeAny (model P w) (A.mark (some (.ref z))) (.call (.ref f) args) (CR CX outer P w H s Q E) s
theorem Y0{CX:CXT}{P:im}{w:ir}{K:ib}{mg:Str->Option ie}{base:Heap}{k:Nat}{f:ig}{name qual:Str}{params:Arguments}{body:List Stmt}{scope:Scope}{dV kV doc pm cdv ct oc:ie}{an od:Option ig}
 {osl:Array (Option ie)}{N ps:List Str}{sp:Sp} (lk:K.lookup f=some ⟨oc,od,.func (PySem.W.fnOf name qual params body scope dV kV doc pm an cdv ct),osl⟩) (hcd:PySem.W.codeIn K cdv qual=true) (S:FnScope N ps scope)
 (len:∀vs H Q E,sp vs H Q E->vs.length=ps.length)
 (hbody:∀(z:ig) (A:Around) (outer:List Env) (s:ij) (H:Hp) (vs:List V) (Q:VK) (E:XK),Room k (A.deeper (envOfC qual scope s.heap.objs.size f cdv))->sp vs H Q E->
   ∃t,PSs ((D5 CX P w K mg base N qual scope f cdv A outer s H E).mark z) body t/\t {nx:=λ_ H'=>Q .non H',rt:=Q} (Dl N vs) H) :
 FnOkH P w K mg base CX (k+1) f (PySem.W.fnOf name qual params body scope dV kV doc pm an cdv ct) ps sp:=by
 refine⟨len,λz A outer s H args us vs Q E hr e0 hb r hsp=>?_⟩;have hl:=len _ _ _ _ hsp;have KX:K.In s.heap:=e0.mod.kin.keeps λb o e=>(e0.bs b o e).1;have lim:s.heap.NoLimit:=e0.mod.nolimit.keeps λb o e=>(e0.bs b o e).1;have hkind:∀y∈ps.zip us,scope.names.lookup y.1=some .local\/(scope.names.lookup y.1=some .cell/\((cellsFrom (s.heap.objs.size+1) scope.names []).lookup y.1).isSome=true):=λz9 hy=>by
  clear 5 z9 n v;rcases S.par n (ui1 hy).1 with q|q
  .exact .inl q
  .exact .inr ⟨q,uc0 _ _ _ (.inl q)⟩
 refine codeAny_call_function (A:=A.mark (some (.ref z))) hr.depth (KX _ _ lk) rfl S.co S.gen rfl (PySem.W.codeRec_of KX hcd) (hb _ _ _ _ ?_);refine jb S.kind hkind λenv he s1 x=>?_;subst he;refine⟨lim.keeps x.toInCall.keep,codeAny_func ?_⟩;clear 5(hbody z A outer s H vs Q E (hr.deeper _) hsp)t ht hq;have I:Inv (D5 CX P w K mg base N qual scope f cdv A outer s H E) [] (Dl N vs) H s1:=Mm S hr.hd e0 hl r x;refine um0 (ht [] s1 (Dl N vs) H _ (I.mark z) hq) (λfl s' hs=>?_) λe s' hs=>hs.elim;have fin:∀{σ':St}{H':Hp}{v:V}{u:ie},Inv ((D5 CX P w K mg base N qual scope f cdv A outer s H E).mark z) [] σ' H' s'->RelV v u->Q v H'->CE outer P w H s Q u s':=
  λ{σ' H' v u} J rv q=>⟨v,H',J.os,J.bare,J.base,J.hok,rv,q⟩
 cases fl with
 |ret u=>
   clear 5 hs v σ' H' J rv q;exact fin J rv q
 |next=>
   clear 5 hs σ' H' J q;exact fin (v:=V.non) (u:=Value.none) J rfl q
 |brk=>
   obtain⟨_,_,_,q⟩:=hs;exact False.elim q
 |cont=>
   obtain⟨_,_,_,q⟩:=hs;exact False.elim q
theorem Fun.okH{P:im}{w:ir}{K:ib}{mg:Str->Option ie}{base:Heap}{x qual:Str}{st:Stmt}{f:ig}{fd:iu}{N ps:List Str}{k:Nat}{sp:Sp}(F:Fun K x qual st f fd)(S:FnScope N ps (An st))(len:∀vs H Q E,sp vs H Q E->vs.length=ps.length)
 (hbody:∀(cdv:ie) (z:ig) (A:Around) (outer:List Env) (s:ij) (H:Hp) (vs:List V) (Q:VK) (E:XK),Room k (A.deeper (envOfC qual (An st) s.heap.objs.size f cdv))->sp vs H Q E->
   ∃t,PSs ((D5 CX0 P w K mg base N qual (An st) f cdv A outer s H E).mark z) (Bq st) t/\t {nx:=λ_ H'=>Q .non H',rt:=Q} (Dl N vs) H):FnOkH P w K mg base CX0 (k+1) f fd ps sp:=by
 clear 5 F.ex oc od kV doc pm an cdv ct osl rfl lk hcd;exact Y0 lk hcd S len λz A outer s H vs Q E hr hsp=>hbody cdv z A outer s H vs Q E hr hsp
section
variable{qx:Bool}{X:Cx}{k:Nat}{f C P:ig}{fd:iu}{ic:List (ig×Obj)}{σ:St}{H:Hp}{s:ij}{Q:ie->ij->Prop}{us:List ie}{vs:List V}{a b:Str}{ps:List Str}{v v2:V}{u u2:ie}{n:Str}{p pos:Pos}{e e':Expr}
set_option tactic.hygienic true in
theorem Oy{z:ig}(M:XMk X.K C P f)(ha:XAt X.K C P a)(hab:XAt X.K C P b)(F:FnOkH X.prog X.w X.K X.mg X.base CX0 k f fd ps (IT X.K P a b))(hr:Room (k+1) X.A)(hb:Binds X.K fd ps [])(I:Inv (X.mark z) ic σ H s)(r:RelV v u)(rr:RelV v2 u2)
 (h:∀s' x dx,Inv (X.mark z) ic σ (upd (upd H dx (.xd [(a,v),(b,v2)])) x (.ext (L2.XIs qx x C (some dx)))) s'->H x=none->H dx=none->dx≠x->s.heap.objs.size<=x->XRec true s'.heap x C (some dx) .none->Q (.ref x) s'):wpAny (model X.prog X.w) (X.mark z).A (call (.ref C) [u,u2]) Q (X.mark z).xe s:=by
 clear 5(M.cl.obj I.kIn)nm q N bs sn sub ab col dd k0 k1 k2 k3 k5 hC hN;have hni:s.heap.nsMap N "__init__" = some (.ref f):=by
  clear 5 M.init cd c1 c2;refine HE I.kIn hN ?_;unfold clsIn at c1
  split at c1
  .next l=>
   cases c1
   have z:=I.kIn _ _ l;rw[hC] at z
   cases z
   exact c2
  .cases c1
 have I1:Inv (X.mark z) ic σ (upd H (s.heap.objs.size+1) (exO (s.heap.objs.size+1) C s.heap.objs.size)) {s with heap:=Ew s.heap C [u,u2]}:=by
  refine I.laid (t':=s.toks) (λb o e=>ub9 _ (ub9 _ e)) (ul6 _) (Nv ?_);show((s.heap.push _).push _).get? _=_
  heap_get
 have hx0:=I.hok.fresh (ul6 s.heap.objs.size);have r2:Vals [V.ref (s.heap.objs.size+1),v,v2] [Value.ref (s.heap.objs.size+1),u,u2]:=.cons rfl (.cons r (.cons rr .nil));have hsp:IT X.K P a b [V.ref (s.heap.objs.size+1),v,v2] (upd H (s.heap.objs.size+1) (exO (s.heap.objs.size+1) C s.heap.objs.size))
  (λw' H'=>w'=.non/\∃dx,H dx=none/\dx≠s.heap.objs.size+1/\H'=upd (upd H dx (.xd [(a,v),(b,v2)])) (s.heap.objs.size+1) (FK (s.heap.objs.size+1) C s.heap.objs.size dx)) E0:=by
  refine⟨_,C,s.heap.objs.size,v,v2,rfl,Ak,ha,hab,λdx h1 h2=>⟨rfl,dx,by rw[Ah h2] at h1;exact h1,h2,?_⟩⟩
  funext b
  by_cases e1:b=s.heap.objs.size+1
  .subst e1;rw[Ak,Ak]
  .by_cases e2:b=dx
   .subst e2;rw[Ah e1,Ah e1,Ak,Ak]
   .rw[Ah e1,Ah e1,Ah e2,Ah e2,Ah e1]
 have hl:([Value.ref (s.heap.objs.size+1),u,u2]++[]).length=ps.length:=by
  have e:=F.len _ _ _ _ hsp;simpa using e
 clear 5 s hh g d t os;refine lw (JW ua6 (M.cl.tail I.kIn) hC hN hni ((bind_fn I.kIn _ (lv.mp M.fn))) (by show 2<=sizeLine;decide) ?_);refine ld (F.run z _ X.stack _ _ ⟨[Value.ref (hh.objs.size+1),u,u2],[]⟩ [Value.ref (hh.objs.size+1),u,u2] _ _ E0 (hr.make C [u,u2] []) (Env0.make (A:=X.A) ⟨I1.env0.frames,I1.env0.mod,I1.env0.bs,I1.env0.bsz,I1.env0.funs,I1.env0.frf,I1.env0.hok,I1.env0.bare⟩ C [u,u2] []) (by have:=hb _ [Value.ref (hh.objs.size+1),u,u2] I1.kIn hl;simpa using this) r2 hsp) λr s' hq'=>?_
 cases r with
 |error e=>exact hq'.elim
 |ok fl=>
   cases fl with
   |ret w'=>
     clear 5(I1.after hq')v' H' I3 rv rfl dx d1 d2 rfl;refine⟨rv,?_⟩;have hx:=(I3.hok (hh.objs.size+1) _ Ak).1;have hx:s'.heap.get? (hh.objs.size+1)=some {excObj C hh.objs.size with dict:=some dx}:=hx;have xr:XRec true s'.heap (hh.objs.size+1) C (some dx) .none:=⟨_,_,hx,rfl,rfl,rfl,rfl,λ_=>⟨rfl,by show 4<6;decide⟩⟩;have I4:=I3.write (x:=hh.objs.size+1) (e:=hh.objs.size+1) (o:=.ext (L2.XIs qx (hh.objs.size+1) C (some dx))) (h':=s'.heap) (t':=s'.toks) (by rw[Ak];trivial) (.inl rfl) (λ_ _ _ z=>z) ⟨_,hx⟩ (Io xr.to.is);rw[LX] at I4;exact h s' (hh.objs.size+1) dx I4 hx0 d1 d2 (ul6 _) xr
   |next=>exact False.elim hq'
   |brk=>exact False.elim hq'
   |cont=>exact False.elim hq'
theorem Xj{z:ig}{t:TA}(M:XMk X.K C P f)(ha:XAt X.K C P a)(hab:XAt X.K C P b)(F:FnOkH X.prog X.w X.K X.mg X.base CX0 k f fd ps (IT X.K P a b))(hr:Room (k+1) X.A)(hb:Binds X.K fd ps [])(hg:Gl (X.mark z) n)(hm:X.mg n=some (.ref C))(hA:PA (X.mark z) [e,e'] t)
 (hdb:(n==("__debug__":Str))=false:=by decide) (h1:starEach [e,e'] X.env=(false,eval e X.env)::starEach [e'] X.env:=by rfl) (hpl:(backTo pos (starEach [e'] X.env)).any (·.1)=false:=by rfl) :
 PM qx (X.mark z) (.Call (.Name n p) [e,e'] [] pos) C (λσ H Q=>t σ H λvs H1=>∃v u,vs=[v,u]/\∀x dx,H1 x=none->H1 dx=none->dx≠x->Q x (some dx) (upd (upd H1 dx (.xd [(a,v),(b,u)])) x (.ext (L2.XIs qx x C (some dx))))):=by
 intro ic s σ H Q I h;refine jz (C6 I hg hm ?_ hdb);refine ue4 (h₀:=X.base) I.ok.mod.kin M.kp (thn (hA pos ic s σ H _ I h) λus s1 z9=>?_) h1 hpl;clear 5 z9 vs H1 I1 r v u ev q;refine⟨I1.kIn,?_⟩;subst ev
 cases r with
 |cons r0 rs=>
   cases rs with
   |cons r1 rs=>
     cases rs
     exact Oy (X:=X) (z:=z) M ha hab F hr hb I1 r0 r1 λs' x dx I' hx hdx ne nx rc=>⟨x,some dx,_,rfl,I',Ak,uk9 I1.sz nx,rc,q x dx hx hdx ne⟩
end
section
variable{X:Cx}{pos p p2 p3 p4:Pos}{P:ig}{ca:Str->ig}{E:XK}{e e' cN:Expr}
def Tw(prog:im)(w:ir)(K:ib)(mg:Str->Option ie)(base:Heap)(C P:ig):Prop:=
 ∃(f:ig) (fd:iu) (ps:List Str),XMk K C P f/\XAt K C P "at"/\XAt K C P "side"/\Binds K fd ps []/\FnOkH prog w K mg base CX0 1 f fd ps (IT K P "at" "side")
theorem bw{n' v:Str}{C':ig}{bm':List ie}{i:Nat}{rest:List ExceptHandler}{f:M (List D)}{r:D->M Out}(x:XM X.K X.mg P ca)(xn:Tw X.prog X.w X.K X.mg X.base (ca "Broken") P)(h1:X.stack=X.env::X.outer)(h2:X.env.frame=some X.env.locals)(hr:L2.Room 2 X.A)
 (hg:Gl X n') (hm:X.mg n'=some (.ref C')) (c':XCl X.K C' bm') (hs:∀n∈Bs,(Value.ref (ca n)::.ref P::VE).contains (.ref C')=El n n')
 (hN:X.N.Nodup) (hi:X.N[i]?=some v) (hl:X.env.scope.names.lookup v=some .local) (hx:Jb X (λ_=>E)) (hgB:Gl X "Broken") (ha:∀x,PA (X.mark x) [e,e'] (RA X.K f))
 (hz:∀(A:Around) (s:ij) (Q:ie->ij->Prop) (E:ie->ij->Prop),Q Value.none s->wpAny (model X.prog X.w) A (eval cN X.env) Q E s)
 (hrest:PH true X rest (RH X.K ca (μX X.K E) r)) (hdb:(n'==("__debug__":Str))=false:=by decide) (hs1:Ba e=false:=by rfl) (hs2:Bg [e']=true:=by rfl) :
 PH true X (.ExceptHandler (some (.Name n' p)) (some v) [.Raise (some (.Call (.Name "Broken" p3) [e,e'] [] p4)) (some cN) p2] pos::rest) (RH X.K ca (μX X.K E) (hAs n' i (Eh "Broken" f) r)):=by
 clear 5 xn fa fd ps M A A2 B F;have hnB:("Broken":Str)∈Bs:=by decide
 intro ic s0 σ H y C dx T D I o q;refine bR h1 h2 hg hm c' hN hi hl M.cl (λz=>Xj M A A2 F hr B hgB (x.ms _ hnB) (ha z) (by decide) (A6 hs1) (AY hs2).1) hx hz hrest hdb ic s0 σ H y C dx T D I o ?_;clear 5 q Oo c t n ds fi hn rfl rv o1 t' eq k;refine⟨_,x.cl n hn,?_⟩;rw[hs n hn];unfold hAs at eq;dsimp only at eq
 by_cases hb':El n n'=true
 .rw[lJ hb'] at eq⊢
  cases e1:Eh "Broken" f {t with env:=t.env.set i (some (.val (.exc n ds)))} with
  |none=>rw[e1] at eq;cases eq
  |some z=>
    clear 5 z o2 t2;rw[e1] at eq
    cases eq
    clear 5(Af e1)es t1 e2 e1;have hny:¬c.A y:=by cases rv with|exc _ _ hA _ _=>exact hA
    refine⟨Oo,c,_,fi.set rv,es,t1,e2,λvs H1 c1 f1 s1 rvs=>?_⟩;rcases es with _|⟨d,_|⟨d',_|⟨_,_⟩⟩⟩
    .cases e1
    .cases e1
    .cases rvs with
     |@cons v0 _ _ _ r0 rs=>
     cases rs with
     |@cons v1 _ _ _ r1 rs=>
     cases rs
     cases e1
     refine⟨_,_,rfl,λu du hu hdu ne=>?_⟩;have hy1:H1 y=some (.ext (XIs true y (ca n) dx)):=s1.ext.keep _ _ o.hx hny;have nyu:y≠u:=λz=>by rw[z,hu] at hy1;cases hy1
     have nyd:y≠du:=λz=>by rw[z,hdu] at hy1;cases hy1
     have f2:=f1.laid (o:=.xd [("at",v0),("side",v1)]) hdu;have hu2:upd H1 du (.xd [("at",v0),("side",v1)]) u=none:=by rw[Ah (Ne.symm ne)];exact hu
     have f3:=f2.laid (o:=.ext (XIs false u (ca "Broken") (some du))) hu2;have ex:=(f1.stp_laid (o:=.xd [("at",v0),("side",v1)]) hdu).ext.trans (f2.stp_laid (o:=.ext (XIs false u (ca "Broken") (some du))) hu2).ext;have s3:=s1.trans ((f1.stp_laid (o:=.xd [("at",v0),("side",v1)]) hdu).trans (f2.stp_laid (o:=.ext (XIs false u (ca "Broken") (some du))) hu2));refine⟨Ne.symm nyu,by rw[Ah nyu,Ah nyd];exact hy1,?_⟩;refine k _ _ c1 (f3.unset i) s3 (.ref u) (.exc (x.ns _ hnB) Ak (f2.s.free hu2) ?_ (.cons (r0.mono ex) (.cons (r1.mono ex) .nil))) u (some du) rfl;exact⟨by rw[Ah ne,Ak];rfl,f1.s.free hdu⟩
    .cases e1
 .rw[lK hb'] at eq⊢;exact⟨Oo,c,t,n,ds,fi,hn,rfl,rv,o1,t',eq,k⟩
end
theorem RM{prog:im}{w:ir}{K:ib}{mg:Str->Option ie}{base:Heap}{C P:ig}{qual:Str}{st:Stmt}{p1 p2 p3 p4 p5 p6 p7 p8:Pos}(hbd:Bq st=[.Assign [.Attribute (.Name "self" p1) "at" p2] (.Name "at" p3) p4,.Assign [.Attribute (.Name "self" p5) "side" p6] (.Name "side" p7) p8])(S:FnScope ["self", "at", "side"] ["self", "at", "side"] (An st))
 (s1:(An st).names.lookup ("self":Str)=some NameKind.local) (s2:(An st).names.lookup ("at":Str)=some NameKind.local) (s3:(An st).names.lookup ("side":Str)=some NameKind.local) (x:XF2 K C P qual st):Tw prog w K mg base C P:=by
 clear 5 x f fd M A A2 B F;refine⟨f,fd,_,M,A,A2,B,F.okH (k:=0) S (λvs H Q E h=>?_) λcdv z A' outer s H vs Q E hr h=>?_⟩
 .obtain⟨y,C',tp,v,u,rfl,_⟩:=h;rfl
 .rw[hbd];refine⟨_,Ka (Qp (P:=P) (Dc (i:=0) rfl (.inl s1) (by decide) (by decide)) (Dc (i:=1) rfl (.inl s2) (by decide) (by decide)) rfl) (Hc (SJ (P:=P) (f1:="at") (by decide) (Dc (i:=0) rfl (.inl s1) (by decide) (by decide)) (Dc (i:=2) rfl (.inl s3) (by decide) (by decide)) rfl)),?_⟩;clear 5 h y C' tp v u rfl hy ha ha2 k;refine⟨v,rfl,.ref y,rfl,y,C',tp,rfl,hy,ha,λdx h1 h2=>⟨u,rfl,.ref y,rfl,y,C',tp,dx,v,rfl,Ak,by rw[Ah h2,Ak],h2,ha2,?_⟩⟩;have z:=k dx h1 h2;have e:upd (upd (upd H dx (.xd [("at",v)])) y (FK y C' tp dx)) dx (.xd [("at",v),("side",u)])=upd (upd H dx (.xd [("at",v),("side",u)])) y (FK y C' tp dx):=by
   funext b
   by_cases e1:b=dx
   .subst e1;rw[Ak,Ah h2,Ak]
   .by_cases e2:b=y
    .subst e2;rw[Ah e1,Ak,Ak]
    .rw[Ah e1,Ah e2,Ah e1,Ah e2,Ah e1]
  rw[e];exact z
section
variable{prog:im}{w:ir}{A:Around}{E:ie->ij->Prop}{s:ij}
variable{I:ig}{fp wr:List ig}{G:Array GenState->Array GenState->Prop}{n:Nat}{P:Nat->ie->Prop}{St:Nat->ij->Prop}
end
section
variable{X:Cx}
end
section
variable{X:Cx}{pos:Pos}{e:Expr}
end
def aa(neg:Bool):R2:=λx y H Q=>∃a kvs k,x=.str k/\y=.ref a/\H a=some (.dK kvs)/\Q (.bl (if neg then !(EG kvs (Sum.inr k:Key)).isSome else(EG kvs (Sum.inr k:Key)).isSome)) H
section
variable{X:Cx}
theorem ZG(hu:X.A.units+64<cLine):OpR X (compareOp .In) (aa false):=by
 intro ic s σ H x y v u Q I rx ry h;clear 5 h a kvs k rfl rfl e q
 cases ry
 exact dO ∅ I (DGet.k (k:=(Sum.inr k:Key)) e) rx λs' I'=>⟨.bl _,H,I',rfl,q⟩
theorem PP:Dv X (.type "dict") (λxs H Q=>∃(p:ig) (kvs:List (Key×V)),xs=[.ref p]/\H p=some (.dK kvs)/\∀l,H l=none->Q (.ref l) (upd H l (.dK kvs))):=by
 intro ic s σ H xs us0 Q I r h;clear 5 h p kvs rfl e q;clear 5(HL r)u rfl rx
 cases rx
 clear 5(MR I.hok e)hz hp vs rel dd;refine kt_call_dict hp dd (by rw[<-rel.length];exact hz) λh' hD sb=>?_;have nm:(s.heap.objs.size==sysModules)=false:=by
  have:=I.big;rw[jv];exact ul0 this
 have hk:∀b o,s.heap.get? b=some o->h'.get? b=some o:=λb o eb=>by
  rw[sb.2 b (uk8 (uk7 eb))];exact ub9 _ eb
 exact⟨.ref s.heap.objs.size,_,I.laid (t':=s.toks) hk (ul4 _) (Nu hz nm rel hD),rfl,q _ (I.hok.fresh (ul4 _))⟩
end
def inS(neg:Bool):D->D->M D
 |.str k,.obj n=>λt=>match t.S[n]? with
   |some (.dct kvs)=>some (.bl (if neg then !(Bb kvs (.inr k)).isSome else(Bb kvs (.inr k)).isSome),t)
   |_=>none
 |_,_=>fail
def Jd:List D->M D
 |[.obj n]=>λt=>match t.S[n]? with
   |some (.dct kvs)=>some (.obj t.S.length,{t with S:=t.S++[.dct kvs]})
   |_=>none
 |_=>fail
section
variable{K:ib}
set_option tactic.hygienic true in
theorem XF{neg:Bool}:BB K (aa neg) (inS neg):=λ{Oo c t σ H x y dx dy r t' Q} f rx ry eq k=>by
 unfold inS at eq
 split at eq
 .next z n=>
  cases rx
  obtain⟨a,rfl,hk⟩:=ry.rv
  split at eq
  .next kvs es=>
   cases eq
   clear 5(f.s.obs _ a _ hk es)us g1 g2;refine⟨a,us,z,rfl,rfl,g1,?_⟩;rw[g2.has];exact k _ H c f .refl (.bl _)
  .cases eq
 .cases eq
end
section
variable{X:Cx}{pos:Pos}{e:Expr}
set_option tactic.hygienic true in
theorem TW{f:M (List D)}{p:Pos}(hg:Gl X "dict")(hm:X.mg "dict" = none)(ha:PA X [e] (RA X.K f))(h1:Ba e=false:=by rfl) :
 PE X (.Call (.Name "dict" p) [e] [] pos) (RE X.K (fB f Jd)):=
 AH (IL PP hg hm (by decide +kernel) ha (by decide) (by decide) (A6 h1) rfl) λσ H Q z9=>by
  clear 5 z9 Oo c t fi r t' eq k;clear 5(Af eq)as t1 e1 eq;unfold Jd at eq
  split at eq
  .next n=>
   split at eq
   .next kvs es=>
    cases eq
    refine⟨Oo,c,t,fi,_,_,e1,λvs H1 c1 f1 s1 rv=>?_⟩;clear 5(FD rv)v rfl rw1
    obtain⟨a,rfl,hk⟩:=rw1.rv
    clear 5(f1.s.obs _ a _ hk es)us g1 g2;refine⟨a,us,rfl,g1,λl hnl=>?_⟩;obtain⟨c2,f2,s2,eo⟩:=f1.newObj (o:=.dct kvs) (u:=.dK us) hnl λc' H' ex hu=>⟨_,hu,g2.mono ex⟩;exact k _ _ c2 f2 (s1.trans s2) (.obj eo)
   .cases eq
  .cases eq
end
theorem Wt{P:im}{w:ir}{K:ib}{mg:Str->Option ie}{base:Heap}{x qual:Str}{st:Stmt}{fa:ig}{fd:iu}{N ps:List Str}{k n m:Nat}{g:M Out}(e1:ps.length=n)(e2:N.length=m)(F:Fun K x qual st fa fd)(S:FnScope N ps (An st))
 (hb:∀(cdv:ie) (A:Around) (outer:List Env) (s:ij) (H:Hp) (E:XK),L2.Room k (A.deeper (PyProof.Rows.envOfC qual (An st) s.heap.objs.size fa cdv))->
   C1 (CX1 false P w) (cxX false P w K mg base N qual (An st) fa cdv A outer s H E) (λ_=>E)->F6 false (cxX false P w K mg base N qual (An st) fa cdv A outer s H E) (λ_=>E)->
   PassesOwn (model P w) (cxX false P w K mg base N qual (An st) fa cdv A outer s H E).A (cxX false P w K mg base N qual (An st) fa cdv A outer s H E).env (cxX false P w K mg base N qual (An st) fa cdv A outer s H E).xe->
   Jb (cxX false P w K mg base N qual (An st) fa cdv A outer s H E) (λ_=>E)->
   PSs (cxX false P w K mg base N qual (An st) fa cdv A outer s H E) (Bq st) (RSg K (μX K E) g)):FnOk P w K mg base (CX1 false P w) (k+1) fa fd ps (spX K (fnOf n m g)):=
 OP e1 e2 F S λcdv A outer s H E hr h1 h2 h3=>hb cdv A outer s H E hr h1 h2 h3 XE.raisesT
theorem WE{M:Model}{env:Env}{j:Nat}{pos:Pos}:∀(A:Around) (s:ij) (Q:ie->ij->Prop) (E:ie->ij->Prop),Q Value.none s->wpAny M A (eval (.Constant .none j pos) env) Q E s:=λA s Q E h=>ul9 h
section
variable{X:Cx}
end
def CM(K:ib):Prop:=∀n∈Lv,∀C,nsIn K mainGlobals n=some (some (.ref C))->Cls K C/\∀f∈atN,NoAttr K C f
noncomputable def Gq(f:Str)(v:D):List (Str×D)->List (Str×D)
 |[]=>[(f,v)]
 |(g,x)::r=>if g=f then(g,v)::r else(g,x)::Gq f v r
section
variable{K:ib}{c:Cf}{H:Hp}
theorem FldR.len:∀{us:List (Str×V)}{fs:List (Str×D)},FldR K c H us fs->us.length=fs.length
 |_,_,.nil=>rfl
 |_,_,.cons _ t=>by rw[ug2,ug2,FldR.len t]
theorem FldR.look{f:Str}{d:D}:∀{us:List (Str×V)}{fs:List (Str×D)},FldR K c H us fs->fs.lookup f=some d->∃v,us.lookup f=some v/\Rep K c H v d
 |_,_,.nil,e=>by cases e
 |(g,x)::us,(g',y)::fs,.cons ⟨h1,h2⟩ t,e=>by
   have h1:g=g':=h1;subst h1
   by_cases q:(f==g)=true
   .simp only[List.lookup,q] at e⊢
    cases e
    exact⟨_,rfl,h2⟩
   .have q:(f==g)=false:=by simpa using q
    simp only[List.lookup,q] at e⊢;exact FldR.look t e
theorem FldR.none{f:Str}:∀{us:List (Str×V)}{fs:List (Str×D)},FldR K c H us fs->(∀p∈fs,p.1≠f)->us.lookup f=none
 |_,_,.nil,_=>rfl
 |(g,x)::us,(g',y)::fs,.cons ⟨h1,h2⟩ t,e=>by
   have h1:g=g':=h1;subst h1;have q:(f==g)=false:=by
    have:=e (g,y) (.head _);simpa using λz:f=g=>this z.symm
   simp only[List.lookup,q];exact FldR.none t λp hp=>e p (.tail _ hp)
theorem FldR.put{f:Str}{v:V}{d:D}(r:Rep K c H v d):∀{us:List (Str×V)}{fs:List (Str×D)},FldR K c H us fs->FldR K c H (DI f v us) (Gq f d fs)
 |_,_,.nil=>.cons ⟨rfl,r⟩ .nil
 |(g,x)::us,(g',y)::fs,.cons ⟨h1,h2⟩ t=>by
   have h1:g=g':=h1;subst h1;show FldR K c H (if g=f then(g,v)::us else(g,x)::DI f v us) (if g=f then(g,d)::fs else(g,y)::Gq f d fs)
   by_cases q:g=f
   .rw[lJ q,lJ q];exact .cons ⟨rfl,r⟩ t
   .rw[lK q,lK q];exact .cons ⟨rfl,h2⟩ (FldR.put r t)
theorem FldR.mono{c':Cf}{H':Hp}(e:Ext c H c' H'){us:List (Str×V)}{fs:List (Str×D)}(h:FldR K c H us fs):FldR K c' H' us fs:=Paired.mapP h λ_ _ z=>⟨z.1,z.2.mono e⟩
theorem O8{f:Str}{v:D}(hf:f∈atN):∀{fs:List (Str×D)},(∀p∈fs,p.1∈atN)->∀p∈Gq f v fs,p.1∈atN
 |[],_=>λp hp=>by rw[show Gq f v []=[(f,v)] from rfl,ue7] at hp;subst hp;exact hf
 |(g,x)::r,h=>λp hp=>by
   rw[show Gq f v ((g,x)::r)=(if g=f then(g,v)::r else(g,x)::Gq f v r) from rfl] at hp
   split at hp
   .rcases uj7.mp hp with e|e
    .subst e;exact h (g,x) (.head _)
    .exact h p (.tail _ e)
   .rcases uj7.mp hp with e|e
    .subst e;exact h (g,x) (.head _)
    .exact O8 hf (λp hp=>h p (.tail _ hp)) p e
end
noncomputable def FM{α:Type}(d:D)(h:Nat->Str->List (Str×D)->M α):M α:=λt=>match d with
 |.obj k=>match t.S[k]? with
   |some (.ins n fs)=>h k n fs t
   |_=>none
 |_=>none
theorem Iq{α:Type}{d:D}{h:Nat->Str->List (Str×D)->M α}{t:T}{z:α×T}(e:FM d h t=some z):∃k n fs,d=.obj k/\t.S[k]?=some (.ins n fs)/\h k n fs t=some z:=by
 cases d with
 |obj k=>
   rw[show FM (.obj k) h t=(match t.S[k]? with|some (.ins n fs)=>h k n fs t|_=>none) from rfl] at e
   cases es:t.S[k]? with
   |none=>rw[es] at e;cases e
   |some o=>
     rw[es] at e
     cases o with
     |ins n fs=>exact⟨k,n,fs,rfl,es,e⟩
     |_=>cases e
 |_=>cases e
def Cv(f:Str)(a:M D):M D:=bnd a λd=>FM d λ_ _ fs t=>(fs.lookup f).map λv=>(v,t)
def CB(f:Str)(gv ga:M D):M Out:=bnd gv λv=>bnd ga λd=>FM d λk n fs t=>if fs.length<1000 then some (.next,{t with S:=t.S.set k (.ins n (Gq f v fs))}) else none
def FB(n:Str)(g:Fn)(f:M (List D)):M D:=bnd f λds t=>match g (.obj t.S.length::ds) (t.S++[.ins n []]) with
 |some (.non,S')=>some (.obj t.S.length,{t with S:=S'})
 |_=>none
def AR(n:Str)(g:Fn)(o:M D)(f:M (List D)):M D:=bnd o λd=>FM d λ_ n' _=>if n'=n then bnd f λds t=>match g (d::ds) t.S with
 |some (r,S')=>some (r,{t with S:=S'})
 |none=>none else fail
theorem Hf{K:ib}{c:Cf}{H:Hp}{v:V}{k:Nat}(h:Rep K c H v (.obj k)):∃a,v=.ref a/\c.ι[k]?=some a:=by
 obtain⟨_,rfl,e⟩:=h.rv
 exact⟨_,rfl,e⟩
section
variable{X:Cx}{CX:CXT}{k:Nat}{f C:ig}{fd:iu}{ps:List Str}{sp:Sp}{E:St->XK}{x m:Str}{p pos apos:Pos}{e o:Expr}{es:List Expr}{ta:TE}{t:TA}
theorem Pe{ic:List (ig×Obj)}{σ:St}{H:Hp}{s:ij}{Q:VK}{us:List ie}{vs:List V}(F:FnOk X.prog X.w X.K X.mg X.base CX k f fd ps sp)(hr:Room k X.A)(hb:Binds X.K fd ps [])(hx:C1 CX X E)
 (I:Inv X ic σ H s) (r:Vals vs us) (h:sp vs H Q (E σ)):wpAny (model X.prog X.w) X.A (call (.ref f) us) (EP X ic σ Q) X.xe s:=by
 have hl:(us++[]).length=ps.length:=by rw[uh9,<-r.length];exact F.len _ _ _ _ h
 refine lw (ld (F.run X.A X.stack s H ⟨us,[]⟩ us vs Q (E σ) hr I.env0 (by have:=hb s us I.kIn hl;rwa [uh9] at this) r h) λr s' hq=>?_)
 cases r with
 |error e=>exact hx ic σ H s e s' I hq
 |ok fl=>
   cases fl with
   |ret u=>exact I.after hq
   |next=>exact False.elim hq
   |brk=>exact False.elim hq
   |cont=>exact False.elim hq
def aE(C:ig)(m:Str)(sp:Sp)(E:St->XK)(ta:TE)(t:TA):TE:=λσ H Q=>ta σ H λx H1=>∃a dx fs,x=.ref a/\H1 a=some (.ins C dx fs)/\fs.lookup m=none/\
 t σ H1 λvs H2=>sp (x::vs) H2 Q (E σ)
abbrev Fk(X:Cx)(o:Expr)(m:Str)(es:List Expr)(apos pos:Pos)(pl:Sem Bool):Prop:=eval (.Call (.Attribute o m apos) es [] pos) X.env=(do
 let ov <-eval o X.env
 standAt apos.atName
 let (f,first) <-holding [ov] (getMethod ov m pl)
 callWith pos f first (backTo pos (starEach es X.env)) (backToKw pos (keywordEach [] X.env)))
theorem UM{pl:Sem Bool}(he:PE X o ta)(c:Cls X.K C)(hm:Meth X.K C m f)(F:FnOk X.prog X.w X.K X.mg X.base CX k f fd ps sp)(hr:Room k X.A)(hb:Binds X.K fd ps [])(hx:C1 CX X E)(ha:PA X (e::es) t)
 (hst:starEach (e::es) X.env=(false,eval e X.env)::starEach es X.env) (hpl:(backTo pos (starEach es X.env)).any (·.1)=false) (ht:Fk X o m (e::es) apos pos pl) :
 PE X (.Call (.Attribute o m apos) (e::es) [] pos) (aE C m sp E ta t):=by
 intro ic s σ H Q I h;refine uc6 (pl:=pl) (thn (he ic s σ H _ I h) λu s1 z9=>?_) ht;clear 5 z9 x H1 I1 rx a dx fs ex ea l q;subst ex;obtain rfl:u=Value.ref a:=rx;refine Hy I1 ea c hm l ?_;refine ue4 (first:=[.ref a]) (h₀:=X.base) I.ok.mod.kin hm.kp (thn (ha pos ic s1 σ H1 _ I1 q) λus s2 z9=>?_) hst hpl;clear 5 z9 vs H2 I2 r q2;refine⟨I2.kIn,?_⟩;exact Pe (us:=.ref a::us) (vs:=.ref a::vs) F hr hb hx I2 (.cons rfl r) q2
structure ByCls(K:ib)(C:ig)(m:Str)(f:ig):Prop where
 ga:specialIn K (.ref C) "__getattribute__" = some (some (.builtin "type.__getattribute__"))
 rd:readsIn K C (.type "type")=true
 at_:(match findCls K (.ref C) (.type "type") m with|some (.val (.ref g))=>g==f|_=>false)=true
 kp:keepIn K (.ref f)=true
set_option tactic.hygienic true in
theorem ByCls.found{K:ib}{C f:ig}{m:Str}(b:ByCls K C m f):findCls K (.ref C) (.type "type") m=some (.val (.ref f)):=by
 have q:=b.at_
 split at q
 .next e=>rw[e];rw[lv.mp q]
 .cases q
theorem UG{pl:Sem Bool}(F:FnOk X.prog X.w X.K X.mg X.base CX k f fd ps sp)(hr:Room k X.A)(hg:Gl X x)(hm:X.mg x=some (.ref C))(bc:ByCls X.K C m f)(hb:Binds X.K fd ps [])(hx:C1 CX X E)(ha:PA X (e::es) t)
 (hdb:(x==("__debug__":Str))=false) (hst:starEach (e::es) X.env=(false,eval e X.env)::starEach es X.env) (hpl:(backTo pos (starEach es X.env)).any (·.1)=false) (ht:Fk X (.Name x p) m (e::es) apos pos pl) :
 PE X (.Call (.Attribute (.Name x p) m apos) (e::es) [] pos) (Tb sp E t):=by
 intro ic s σ H Q I h;refine uc6 (pl:=pl) (C6 I hg hm ?_ hdb) ht;refine method_cls I.kIn bc.ga (cls_value I.kIn bc.rd bc.found rfl ?_);have I0:=I.tok (s.toks+1);refine ue4 (first:=[]) (h₀:=X.base) I.ok.mod.kin bc.kp (thn (ha pos ic _ σ H _ I0 h) λus s2 z9=>?_) hst hpl;clear 5 z9 vs H2 I2 r q2;refine⟨I2.kIn,?_⟩;exact Pe (us:=us) (vs:=vs) F hr hb hx I2 r q2
end
section
variable{n:Str}{h:Fn}{pl:Sem Bool}
section
variable{X:Cx}{e o a value:Expr}{es:List Expr}{pos pos' apos p:Pos}{f:Str}{g gv ga:M D}{fl:M (List D)}{C:ig}
theorem YN(cm:CM X.K)(hf:f∈atN)(he:PE X e (RE X.K g))(hb:attributeBase e f X.env (eval e X.env)=eval e X.env):PE X (.Attribute e f pos) (RE X.K (Cv f g)):=
 AH (ZR he hb) λσ H Q z9=>by
  clear 5 z9 Oo c t fi r t' eq kk;clear 5(Af eq)d t1 e1 eq;clear 5(Iq eq)k n fs rfl es eq;clear 5(uc2.mp eq)y e2 e3
  cases e3
  refine⟨Oo,c,t,fi,.obj k,_,e1,λv H1 c1 f1 s1 rv=>?_⟩;clear 5(Hf rv)b rfl hk;obtain⟨⟨hn,hat⟩,C,dx,us,g1,g2,g3⟩:=f1.s.obs k b _ hk es;clear 5(g3.look e2)w l1 l2;exact⟨b,C,dx,us,w,rfl,g2,(cm n hn C g1).1,(cm n hn C g1).2 f hf,l1,kk w H1 c1 f1 s1 l2⟩
set_option tactic.hygienic true
theorem Y3{μ:Cf->Hp->D->(V->Hp->Prop)->Prop}(cm:CM X.K)(hf:f∈atN)(ha:PE X o (RE X.K ga))(hv:PE X value (RE X.K gv))(hs:swapsWith value (some (.Attribute o f pos')) pos.line X.env=pure false:=by rfl) :
 PS X (.Assign [.Attribute o f pos'] value pos) (RSg X.K μ (CB f gv ga)):=
 Br (Z2 ha hv hs) λD σ H z9=>by
  clear 5 z9 Oo c t fi r t' eq kk;clear 5(Af eq)d t1 e1 eq;clear 5(Af eq)d2 t2 e2 eq;clear 5(Iq eq)k n fs rfl es eq
  split at eq
  .next hl=>
   cases eq
   refine⟨Oo,c,t,fi,d,t1,e1,λv H1 c1 f1 s1 rv=>⟨Oo,c1,t1,f1,.obj k,t2,e2,λx H2 c2 f2 s2 rx=>?_⟩⟩;clear 5(Hf rx)b rfl hk;obtain⟨⟨hn,hat⟩,C,dx,us,g1,g2,g3⟩:=f2.s.obs k b _ hk es;refine⟨b,C,dx,us,rfl,g2,(cm n hn C g1).1,(cm n hn C g1).2 f hf,by rw[g3.len];exact hl,?_⟩;obtain⟨f3,s3⟩:=f2.wrObj (o:=.ins n (Gq f d fs)) (u:=.ins C dx (DI f v us)) hk λc' H' ext hu=>⟨⟨hn,O8 hf hat⟩,C,dx,_,g1,hu,(FldR.put (rv.mono s2.ext) g3).mono ext⟩;exact kk σ _ c2 f3 ((s1.trans s2).trans s3)
  .cases eq
theorem Sc{ds:List D}{t:T}{r:D}{t':T}(e:(match h (.obj t.S.length::ds) (t.S++[.ins n []]) with|some (.non,S')=>some (.obj t.S.length,{t with S:=S'})|_=>none:Option (D×T))=some (r,t')) :
 ∃S',h (.obj t.S.length::ds) (t.S++[.ins n []])=some (.non,S')/\r=.obj t.S.length/\t' = {t with S:=S'}:=by
 split at e
 .next S' q=>cases e;exact⟨S',q,rfl,rfl⟩
 .cases e
set_option tactic.hygienic false
theorem ON{k:Nat}{fa:ig}{fd:iu}{ps:List Str}(hn:n∈Lv)(hC:nsIn X.K mainGlobals n=some (some (.ref C)))(M:Mk X.K C fa)(F:FnOk X.prog X.w X.K X.mg X.base CX0 k fa fd ps (spF X.K h))(hr:Room (k+1) X.A)(hg:Gl X n)(hm:X.mg n=some (.ref C))(hb:Binds X.K fd ps [])
 (ha:PA X (e::es) (RA X.K fl)) (hdb:(n==("__debug__":Str))=false:=by decide) (h1:Ba e=false:=by rfl) (h2:Bg es=true:=by rfl):PE X (.Call (.Name n p) (e::es) [] pos) (RE X.K (FB n h fl)):=
 AH (Xb M F hr hg hm hb .nil Jl ha hdb (A6 h1) (AY h2).1) λσ H Q z9=>by
  clear 5 z9 Oo c t fi r t' eq kk;clear 5(Af eq)ds t1 e1 eq;clear 5(Sc eq)S' e2 rfl rfl;refine⟨Oo,c,t,fi,ds,t1,e1,λvs H1 c1 f1 s1 rvs x dx hx hdx ne=>?_⟩;rw[uh9];have f2:=f1.laid (p:=dx) (o:=.own x) hdx;have s2:=f1.stp_laid (p:=dx) (o:=.own x) hdx;have hx2:upd H1 dx (.own x) x=none:=by rw[Ah (Ne.symm ne)];exact hx
  obtain⟨c3,f3,s3,e3⟩:=f2.newObj (o:=.ins n []) (u:=.ins C dx []) hx2 λc' H' ext hu=>⟨⟨hn,λp hp=>by cases hp⟩,C,dx,[],hC,hu,.nil⟩;refine⟨c3,.obj t1.S.length::ds,_,f3.s,.cons (.obj e3) ((rvs.mono s2.ext).mono s3.ext),.non,S',e2,λv H' c' si st ho rv=>?_⟩;clear 5(f3.after si st ho)f4 s4
  cases rv
  exact⟨rfl,kk _ H' c' f4 ((s1.trans s2).trans (s3.trans s4)) (.obj (st.ext.io _ _ e3))⟩
structure MAt(K:ib)(n m:Str)(C fa:ig):Prop where
 cl:n∈Lv
 at_:nsIn K mainGlobals n=some (some (.ref C))
 me:Meth K C m fa
 na:m∉atN
theorem IF{d:D}{t:T}{r:D}{t':T}(e:FM d (λ_ n' _=>if n'=n then bnd fl λds t=>match h (d::ds) t.S with|some (r,S')=>some (r,{t with S:=S'})|none=>none else fail) t=some (r,t')) :
 ∃k fs ds t1 S',d=.obj k/\t.S[k]?=some (.ins n fs)/\fl t=some (ds,t1)/\h (d::ds) t1.S=some (r,S')/\t' = {t1 with S:=S'}:=by
 clear 5(Iq e)k n' fs rfl es q
 by_cases hn:n'=n
 .subst hn;rw[lJ rfl] at q;clear 5(Af q)ds t1 e1 q;clear 5(GC q)S' e2 rfl;exact⟨k,fs,ds,t1,S',rfl,es,e1,e2,rfl⟩
 .rw[lK hn] at q;cases q
section
variable{k:Nat}{fa:ig}{fd:iu}{ps:List Str}{h:Fn}{n m:Str}{qx:Bool}{E:L2.St->XK}
theorem Wi(cm:CM X.K)(ma:MAt X.K n m C fa)(F:FnOk X.prog X.w X.K X.mg X.base CX0 k fa fd ps (spF X.K h))(hr:Room k X.A)(hb:Binds X.K fd ps [])(he:PE X o (RE X.K g))(ha:PA X (e::es) (RA X.K fl))
 (h1:Ba e=false:=by rfl) (h2:Bg es=true:=by rfl) (ht:Fk X o m (e::es) apos pos pl:=by rfl):PE X (.Call (.Attribute o m apos) (e::es) [] pos) (RE X.K (AR n h g fl)):=
 AH (Xc (pl:=pl) he (cm n ma.cl C ma.at_).1 ma.me F hr hb .nil Jl ha (A6 h1) (AY h2).1 ht) λσ H Q z9=>by
  clear 5 z9 Oo c t fi r t' eq kk;clear 5(Af eq)d t1 e1 eq;clear 5(IF eq)j fs ds t2 S' rfl es e2 e3 rfl;refine⟨Oo,c,t,fi,.obj j,t1,e1,λv H1 c1 f1 s1 rv=>?_⟩;clear 5(Hf rv)b rfl hk;obtain⟨⟨_,hat⟩,C',dx,us,g1,g2,g3⟩:=f1.s.obs j b _ hk es;rw[ma.at_] at g1
  cases g1
  refine⟨b,dx,us,rfl,g2,g3.none λp hp z=>ma.na (z ▸ hat p hp),Oo,c1,t1,f1,ds,t2,e2,λvs H2 c2 f2 s2 rvs=>?_⟩;show spF X.K h (V.ref b::(vs++[])) H2 Q E0;rw[uh9];refine⟨c2,.obj j::ds,t2.S,f2.s,.cons (.obj (s2.ext.io _ _ hk)) rvs,r,S',e3,λv H' c' si st ho rv=>?_⟩;clear 5(f2.after si st ho)f3 s3;exact kk v H' c' f3 ((s1.trans s2).trans s3) rv
theorem JP(cm:CM X.K)(ma:MAt X.K n m C fa)(F:FnOk X.prog X.w X.K X.mg X.base CX0 k fa fd ps (spF X.K h))(hr:Room k X.A)(hb:Binds X.K fd ps [])(he:PE X o (RE X.K g))(ht:Fk X o m [] apos pos pl:=by rfl) :
 PE X (.Call (.Attribute o m apos) [] [] pos) (RE X.K (AR n h g (ret []))):=
 AH (UL (pl:=pl) he (cm n ma.cl C ma.at_).1 ma.me F hr hb .nil Jl ht) λσ H Q z9=>by
  clear 5 z9 Oo c t fi r t' eq kk;clear 5(Af eq)d t1 e1 eq;clear 5(IF eq)j fs ds t2 S' rfl es e2 e3 rfl
  cases e2
  refine⟨Oo,c,t,fi,.obj j,t1,e1,λv H1 c1 f1 s1 rv=>?_⟩;clear 5(Hf rv)b rfl hk;obtain⟨⟨_,hat⟩,C',dx,us,g1,g2,g3⟩:=f1.s.obs j b _ hk es;rw[ma.at_] at g1
  cases g1
  refine⟨b,dx,us,rfl,g2,g3.none λp hp z=>ma.na (z ▸ hat p hp),?_⟩;refine⟨c1,[.obj j],t1.S,f1.s,.cons (.obj hk) .nil,r,S',e3,λv H' c' si st ho rv=>?_⟩;clear 5(f1.after si st ho)f3 s3;exact kk v H' c' f3 (s1.trans s3) rv
theorem Dq(cm:CM X.K)(ma:MAt X.K n m C fa)(F:FnOk X.prog X.w X.K X.mg X.base (CX1 qx X.prog X.w) k fa fd ps (spX X.K h))(hr:Room k X.A)(hb:Binds X.K fd ps [])(hx:C1 (CX1 qx X.prog X.w) X E)(he:PE X o (RE X.K g))(ha:PA X (e::es) (RA X.K fl))
 (h1:Ba e=false:=by rfl) (h2:Bg es=true:=by rfl) (ht:Fk X o m (e::es) apos pos pl:=by rfl):PE X (.Call (.Attribute o m apos) (e::es) [] pos) (RX X.K E (AR n h g fl)):=
 AH (UM (pl:=pl) he (cm n ma.cl C ma.at_).1 ma.me F hr hb hx ha (A6 h1) (AY h2).1 ht) λσ H Q z9=>by
  clear 5 z9 Oo c t fi r t' eq kk;clear 5(Af eq)d t1 e1 eq;clear 5(IF eq)j fs ds t2 S' rfl es e2 e3 rfl;refine⟨Oo,c,t,fi,.obj j,t1,e1,λv H1 c1 f1 s1 rv=>?_⟩;clear 5(Hf rv)b rfl hk;obtain⟨⟨_,hat⟩,C',dx,us,g1,g2,g3⟩:=f1.s.obs j b _ hk es;rw[ma.at_] at g1
  cases g1
  refine⟨b,dx,us,rfl,g2,g3.none λp hp z=>ma.na (z ▸ hat p hp),Oo,c1,t1,f1,ds,t2,e2,λvs H2 c2 f2 s2 rvs=>?_⟩;refine⟨c2,.obj j::ds,t2.S,f2.s,.cons (.obj (s2.ext.io _ _ hk)) rvs,r,S',e3,λv H' c' si st ho rv=>?_⟩;clear 5(f2.after si st ho)f3 s3;exact kk v H' c' f3 ((s1.trans s2).trans s3) rv
theorem Nw{x:Str}(F:FnOk X.prog X.w X.K X.mg X.base CX0 k fa fd ps (spF X.K h))(hr:Room k X.A)(hg:Gl X x)(hm:X.mg x=some (.ref C))(bc:ByCls X.K C m fa)(hb:Binds X.K fd ps [])(ha:PA X (e::es) (RA X.K fl))
 (hdb:(x==("__debug__":Str))=false:=by decide) (h1:Ba e=false:=by rfl) (h2:Bg es=true:=by rfl) (ht:Fk X (.Name x p) m (e::es) apos pos pl:=by rfl):PE X (.Call (.Attribute (.Name x p) m apos) (e::es) [] pos) (RE X.K (Aj h fl)):=
 AH (UG (pl:=pl) (E:=λ_=>E0) F hr hg hm bc hb (λic σ H s e s'=>Jl ic σ H s e s') ha hdb (A6 h1) (AY h2).1 ht) λσ H Q z9=>by
  clear 5 z9 Oo c t fi r t' eq kk;clear 5(Af eq)ds t1 e1 eq;clear 5(GC eq)S' e2 rfl;refine⟨Oo,c,t,fi,ds,t1,e1,λvs H1 c1 f1 s1 rvs=>?_⟩;refine⟨c1,ds,t1.S,f1.s,rvs,r,S',e2,λv H' c' si st ho rv=>?_⟩;clear 5(f1.after si st ho)f2 s2;exact kk v H' c' f2 (s1.trans s2) rv
end
end
variable{K:ib}
theorem Zz{k:Kd}{P:im}{w:ir}{mg:Str->Option ie}{base:Heap}{n:Nat}{fa:ig}{fd:iu}{ps:List Str}{f:Fn}(h:okK k P w K mg base n fa fd ps f):okK k P w K mg base (n+1) fa fd ps f:=by
 cases k<;>exact FnOk.mono h (ul6 _)
def Np(K:ib)(C:ig):Bool:=plainGet K C Str.empty&&hasDictIn K C&&plainOver K C&&findIn K (.ref C) "__setattr__" == some (some (.builtin "object.__setattr__"))&&atN.all λf=>findIn K (.ref C) f==some none
variable{C:ig}
theorem V6(h:Np K C=true):Cls K C/\∀f∈atN,NoAttr K C f:=by
 unfold Np at h;simp only[ug8,lv,uh0] at h;obtain⟨⟨⟨⟨a,b⟩,c⟩,d⟩,e⟩:=h;exact⟨⟨a,b,c,d⟩,λf hf=>e f hf⟩
theorem bi(h:∀n∈Lv,nsIn K mainGlobals n=some none\/∃C,nsIn K mainGlobals n=some (some (.ref C))/\Np K C=true):CM K:=λn hn C e=>by
 rcases h n hn with q|⟨C',q,b⟩
 .rw[e] at q;cases q
 .rw[e] at q;cases q;exact V6 b
noncomputable def MU(K:ib)(C:ig):Bool:=makesIn K C&&keepIn K (.ref C)
theorem VJ{f:ig}(h:MU K C=true)(i:findIn K (.ref C) "__init__" = some (some (.ref f)))(hf:isFn K (.ref f)=true):Mk K C f:=by
 unfold MU at h;simp only[ug8] at h;exact⟨h.1,i,hf,h.2⟩
noncomputable def byB(K:ib)(C:ig)(m:Str):Bool:=specialIn K (.ref C) "__getattribute__" == some (some (.builtin "type.__getattribute__"))&&readsIn K C (.type "type")&&match findCls K (.ref C) (.type "type") m,findIn K (.ref C) m with|some (.val (.ref g)),some (some (.ref f))=>g==f|_,_=>false
set_option tactic.hygienic true in
theorem Vy{f:ig}{m:Str}(h:byB K C m=true)(i:findIn K (.ref C) m=some (some (.ref f)))(k:keepIn K (.ref f)=true):ByCls K C m f:=by
 unfold byB at h;simp only[ug8,lv] at h;obtain⟨⟨a,b⟩,c⟩:=h;refine⟨a,b,?_,k⟩;rw[i] at c
 split at c
 .next g f' e1 e2=>
  cases e2
  rw[e1];exact c
 .cases c
end
section
variable{K:ib}
def LV:D->Option Int->Option Int->M D
 |.obj k,lo,hi=>λt=>match t.S[k]? with
   |some (.lst ds)=>some (.lst (BZ ds lo hi),t)
   |_=>none
 |x,lo,hi=>FS x lo hi
set_option tactic.hygienic true in
theorem U6:Pz K (UU K) LV:=λ{Oo c t σ H x dx r lo hi t' Q} f rx eq k=>by
 unfold LV at eq
 split at eq
 .next kk=>
  obtain⟨a,rfl,h1⟩:=rx.rv
  split at eq
  .next ds es=>
   cases eq
   clear 5(f.s.obs kk a _ h1 es)vs g1 g2;exact⟨a,vs,rfl,SqL.of g1,λq hq=>k _ _ c (f.laid hq) (f.stp_laid hq) (.lst Ak (f.s.free hq) ((HG g2 lo hi).mono (Ext.laid f.s hq)))⟩
  .cases eq
 .exact Pi f rx eq k
end
abbrev Gd:=Option (Nat×List D)
def Gon(g:Gd)(S:List Ob):Prop:=∀k xs,g=some (k,xs)->S[k]?=some (.lst xs)
def chk(g:Gd):M Unit:=λt=>@ite _ (Gon g t.S) (Classical.propDecidable _) (some ((),t)) none
set_option tactic.hygienic true in
theorem Ho{g:Gd}{t t':T}{u:Unit}(h:chk g t=some (u,t')):Gon g t.S/\t'=t:=by
 unfold chk at h
 split at h
 .next q=>cases h;exact⟨q,rfl⟩
 .cases h
theorem Kv{g:Gd}{t:T}(h:Gon g t.S):chk g t=some ((),t):=by unfold chk;rw[lJ h]
def compG(g:Gd)(st:D->M Unit)(tst:M Bool)(elt:M D):List D->M (List D)
 |[]=>bnd (chk g) λ_=>ret []
 |d::r=>bnd (chk g) λ_=>bnd (st d) λ_=>bnd tst λk=>if k=true then bnd elt λx=>bnd (compG g st tst elt r) λxs=>ret (x::xs) else compG g st tst elt r
def Ga(n:Nat)(fr:List Nat)(f:M (Gd×List D))(st:D->M Unit)(tst:M Bool)(elt:M D):M (List D):=bnd f λp t=>match compG p.1 st tst elt p.2 ⟨cenv n fr t.env,t.S⟩ with
 |some (xs,t')=>if xs.length<=LIM then some (xs,{t with S:=t'.S}) else none
 |none=>none
structure ItOk3(K:ib)(J:It)(g:Gd)(c:Cf)(H:Hp)(ds:List D):Prop where
 go:∀c' H' S' (i:Nat),Ext c H c' H'->SInv K c' S' H'->Gon g S'->i<ds.length->J.go i H'
 yld:∀c' H' S' (i:Nat) x H'' d,Ext c H c' H'->SInv K c' S' H'->Gon g S'->ds[i]?=some d->J.yld i H' x H''->∃p vs es,x=.ref p/\H' p=none/\H''=upd H' p (.tup vs)/\d=.tup es/\Reps K c' H' vs es
 stop:∀c' H' S',Ext c H c' H'->SInv K c' S' H'->Gon g S'->J.stop ds.length H'
inductive RI3(K:ib)(f:M (Gd×List D))(σ:L2.St)(H:Hp)(R:It->Hp->Prop):Prop where
 |mk (Oo:ig->Prop) (c:Cf) (t:T) (fi:FInv K Oo c t σ H) (p:Gd×List D) (t':T) (e:f t=some (p,t')) (k:∀J H' c',FInv K Oo c' t' σ H'->Stp Oo c H c' H'->ItOk3 K J p.1 c' H' p.2->R J H'):RI3 K f σ H R
section
variable{X:Cx}{e a b tg iter elt:Expr}{ifs:List Expr}{pos:Pos}{scope:Scope}{N':List Str}{n:Nat}{fr:List Nat}{st:D->M Unit}{tst:M Bool}{el:M D}
end
structure ItOkG(K:ib)(J:It)(g:Gd)(c:Cf)(H:Hp)(ds:List D):Prop where
 go:∀c' H' S' (i:Nat),Ext c H c' H'->SInv K c' S' H'->Gon g S'->i<ds.length->J.go i H'
 yld:∀c' H' S' (i:Nat) x H'' d,Ext c H c' H'->SInv K c' S' H'->Gon g S'->ds[i]?=some d->J.yld i H' x H''->H''=H'/\Rep K c' H' x d
 stop:∀c' H' S',Ext c H c' H'->SInv K c' S' H'->Gon g S'->J.stop ds.length H'
theorem ItOk.toG{K:ib}{J:It}{g:Gd}{c:Cf}{H:Hp}{ds:List D}(h:ItOk K J c H ds):ItOkG K J g c H ds:=
 ⟨λc' H' _ i e _ _=>h.go c' H' i e,λc' H' _ i x H'' d e _ _=>h.yld c' H' i x H'' d e,λc' H' _ e _ _=>h.stop c' H' e⟩
def RIG(K:ib)(f:M (Gd×List D)):TI:=λσ H R=>∃Oo c t,FInv K Oo c t σ H/\∃p t',f t=some (p,t')/\∀J H' c',FInv K Oo c' t' σ H'->Stp Oo c H c' H'->ItOkG K J p.1 c' H' p.2->R J H'
set_option tactic.hygienic true in
def forG(g:Gd)(st:D->M Unit)(b:M Out):List D->M Out
 |[]=>bnd (chk g) λ_=>ret .next
 |d::r=>bnd (chk g) λ_=>bnd (st d) λ_=>bnd b λo=>match o with
   |.next=>forG g st b r
   |.cont=>forG g st b r
   |.brk=>ret .next
   |.ret x=>ret (.ret x)
def KD(f:M (Gd×List D))(st:D->M Unit)(b:M Out):M Out:=bnd f λp=>forG p.1 st b p.2
theorem RS.forG{μ:Cf->Hp->D->(V->Hp->Prop)->Prop}{K:ib}{f:M (Gd×List D)}{st:D->M Unit}{b:M Out}{E:Ends}{σ:L2.St}{H:Hp}(q:RSg K μ (KD f st b) E σ H):Vh (RIG K f) (RG K st) (RSg K μ b) E σ H:=by
 clear 5 q Oo c t fi o t' eq k;clear 5(Af eq)pg t1 e1 eq;refine⟨Oo,c,t,fi,pg,t1,e1,λJ H1 c1 f1 s1 it=>?_⟩;clear 5 pg g ds;dsimp only at eq it;refine⟨λi m σ' H'=>m=ds.length-i/\i<=ds.length/\∃c' t2,FInv K Oo c' t2 σ' H'/\Stp Oo c1 H1 c' H'/\L2.forG g st b (ds.drop i) t2=some (o,t'),⟨_,rfl,ul5 _,c1,t1,f1,.refl,by rw[uj3];exact eq⟩,?_⟩;rintro i m σ' H' ⟨rfl,hi,c',t2,f2,s2,e2⟩
 by_cases hlt:i<ds.length
 .rw[ub1 hlt] at e2;unfold L2.forG at e2;clear 5(Af e2)u0 t0 e0 e2;clear 5(Ho e0)hon ht0;rw[ht0] at e2;clear e0 ht0;refine .inr ⟨it.go c' H' _ i s2.ext f2.s hon hlt,λσ3 H3=>∃c3 t3,FInv K Oo c3 t3 σ3 H3/\Stp Oo c1 H1 c3 H3/\L2.forG g st b (ds.drop (i+1)) t3=some (o,t'),λσ3 H3 h=>⟨ds.length-(i+1),by lia,rfl,hlt,h⟩,λx H'' hy=>?_⟩;clear 5(it.yld c' H' _ i x H'' _ s2.ext f2.s hon (ub3 hlt) hy)rfl rx;clear 5(Af e2)u t3 e3 e2;clear 5(Af e2)o4 t4 e4 e2;refine⟨Oo,c',t2,_,f2,rx,t3,e3,λσ3 H3 c3 f3 s3=>?_⟩;refine⟨Oo,c3,t3,f3,o4,t4,e4,λσ5 H5 c5 f5 s5=>?_⟩;have s':=(s2.trans s3).trans s5
  cases o4 with
  |next=>exact⟨c5,t4,f5,s',e2⟩
  |cont=>exact⟨c5,t4,f5,s',e2⟩
  |brk=>cases e2;exact k σ5 H5 c5 f5 (s1.trans s')
  |ret r=>cases e2;exact k σ5 H5 c5 f5 (s1.trans s')
 .have hi':i=ds.length:=by lia
  subst hi';rw[ug7] at e2;unfold L2.forG at e2;clear 5(Af e2)u0 t0 e0 e2;clear 5(Ho e0)hon ht0;rw[ht0] at e2;clear e0 ht0
  cases e2
  exact .inl ⟨it.stop c' H' _ s2.ext f2.s hon,k σ' H' c' f2 (s1.trans s2)⟩
set_option tactic.hygienic true in
theorem RF.compG{K:ib}{n:Nat}{fr:List Nat}{f:M (Gd×List D)}{st:D->M Unit}{tst:M Bool}{elt:M D}{σ:L2.St}{H:Hp}{Q:VK}(q:RF K (Ga n fr f st tst elt) σ H Q):K0 (RIG K f) (RG K st) (RT K tst) (RE K elt) (Fq n fr) σ H Q:=by
 clear 5 q Oo c t fi xs t' eq k;clear 5(Af eq)pg t1 e1 eq;refine⟨Oo,c,t,fi,pg,t1,e1,λJ H1 c1 f1 s1 it=>?_⟩;clear 5 pg g ds;dsimp only at eq it
 cases e3:L2.compG g st tst elt ds ⟨cenv n fr t1.env,t1.S⟩ with
 |none=>rw[e3] at eq;cases eq
 |some p=>
   clear 5 p ys t3;rw[e3] at eq;dsimp only at eq
   split at eq
   case isFalse=>cases eq
   next hl=>
   cases eq
   refine⟨λi m acc σ' H'=>m=ds.length-i/\i<=ds.length/\∃c' t2 zs rest,FInv K c1.O c' t2 σ' H'/\Stp c1.O c1 H1 c' H'/\Reps K c' H' acc zs/\L2.compG g st tst elt (ds.drop i) t2=some (rest,t3)/\xs=zs++rest,
    ⟨_,rfl,ul5 _,c1,_,[],xs,Hu f1,.refl,.nil,by rw[uj3];exact e3,rfl⟩,?_⟩
   rintro i m acc σ' H' ⟨rfl,hi,c',t2,zs,rest,f2,s2,ra,e2,ez⟩;have hacc:acc.length<=sizeLine:=by
    have:zs.length<=xs.length:=by rw[ez,ue5];exact ug9 _ _
    rw[ra.length];exact uk9 this (uk9 hl Dm)
   refine⟨hacc,?_⟩
   by_cases hlt:i<ds.length
   .rw[ub1 hlt] at e2;unfold L2.compG at e2;clear 5(Af e2)u0 t0 e0 e2;clear 5(Ho e0)hon ht0;rw[ht0] at e2;clear e0 ht0;refine .inr ⟨it.go c' H' _ i s2.ext f2.s hon hlt,λx H'' hy=>?_⟩;clear 5(it.yld c' H' _ i x H'' _ s2.ext f2.s hon (ub3 hlt) hy)rfl rx;clear 5(Af e2)u t4 e4 e2;clear 5(Af e2)kb t5 e5 e2;refine⟨c1.O,c',t2,_,f2,rx,t4,e4,λσ3 H3 c3 f3 s3=>⟨c1.O,c3,t4,f3,kb,t5,e5,λH4 c4 f4 s4=>?_⟩⟩
    cases kb with
    |false=>
      rw[lK ue2] at e2⊢;exact⟨ds.length-(i+1),by lia,rfl,hlt,c4,t5,zs,rest,f4,(s2.trans s3).trans s4,ra.mono (s3.trans s4).ext,e2,ez⟩
    |true=>
      rw[lJ rfl] at e2⊢;clear 5(Af e2)x6 t6 e6 e2;clear 5(Af e2)r7 t7 e7 e2
      cases e2
      refine⟨c1.O,c4,t5,f4,x6,t6,e6,λv H5 c5 f5 s5 rv=>?_⟩;exact⟨ds.length-(i+1),by lia,rfl,hlt,c5,t6,zs++[x6],r7,f5,((s2.trans s3).trans s4).trans s5,(ra.mono ((s3.trans s4).trans s5).ext).append (.cons rv .nil),e7,by rw[ez,uf5];rfl⟩
   .have hi':i=ds.length:=by lia
    subst hi';rw[ug7] at e2;unfold L2.compG at e2;clear 5(Af e2)u0 t0 e0 e2;clear 5(Ho e0)hon ht0;rw[ht0] at e2;clear e0 ht0
    cases e2
    refine .inl ⟨it.stop c' H' _ s2.ext f2.s hon,λp hp _=>?_⟩;clear 5 f2.leave si ext;clear 5(f1.after si ⟨s2.ext.trans ext,s2.oo⟩ (λ_=>lI))f6 s6;rw[uh9] at ez;subst ez;exact k p acc H' _ f6 (s1.trans s6) (ra.mono ext) hp
def Iw:D->M (Gd×List D)
 |.obj k=>λt=>match t.S[k]? with
   |some (.lst ds)=>some ((some (k,ds),ds),t)
   |_=>none
 |d=>bnd (Ec d) λds=>ret (none,ds)
def Lx(f:M D):M (Gd×List D):=bnd f Iw
theorem ItOkG.lst{K:ib}{g:Gd}{c:Cf}{H:Hp}{p:ig}{ds:List D}(r:∀c' H' S',Ext c H c' H'->SInv K c' S' H'->Gon g S'->∃vs,SqL K H' p vs/\Reps K c' H' vs ds):ItOkG K (Itl K p) g c H ds:=by
 refine⟨λc' H' S' i ex si on hi=>?_,λc' H' S' i x H'' d ex si on hd hy=>?_,λc' H' S' ex si on=>?_⟩
 .clear 5(r c' H' S' ex si on)vs h1 h2;obtain⟨v,e,_⟩:=h2.at (ub3 hi);exact⟨vs,v,h1,e⟩
 .clear 5(r c' H' S' ex si on)vs h1 h2;clear 5 hy rfl hx;exact⟨rfl,h2.get (hx vs h1) hd⟩
 .clear 5(r c' H' S' ex si on)vs h1 h2;exact⟨vs,h1,by rw[h2.length];exact ul4 _⟩
section
variable{X:Cx}{e a b tg iter elt:Expr}{ifs:List Expr}{pos:Pos}{scope:Scope}{N':List Str}{n:Nat}{fr:List Nat}{st:D->M Unit}{tst:M Bool}{el:M D}
theorem Wx{μ:Cf->Hp->D->(V->Hp->Prop)->Prop}{body:List Stmt}{f:M (Gd×List D)}{b:M Out}(hp:PassesOwn (model X.prog X.w) X.A X.env X.xe)(hc:X.calm=true)(hi:PI X tg iter (RIG X.K f))(hg:PG X tg (RG X.K st))(hb:PSs X body (RSg X.K μ b))
 (hs:∀x,foldedSetIterable iter X.env x=pure x:=by intro _;rfl):PS X (.For tg iter body [] pos) (RSg X.K μ (KD f st b)):=
 Br (SI hp hc hi hg hb hs) λ_ _ _ q=>RS.forG q
theorem Ny{f:M (Gd×List D)}(O:CmpOk X scope N' (Fq n fr))(hc:X.calm=true)(hi:PI X tg iter (RIG X.K f))
 (hg:∀cl C s2 H2 fp,PG (BY X N' scope cl C s2 H2 fp) tg (RG X.K st)) (ht:∀cl C s2 H2 fp,PIf (BY X N' scope cl C s2 H2 fp) ifs (RT X.K tst)) (he:∀cl C s2 H2 fp,PE (BY X N' scope cl C s2 H2 fp) elt (RE X.K el))
 (hs:∀x,foldedSetIterable iter X.env x=pure x:=by intro _;rfl):PE X (.ListComp elt [⟨tg,iter,ifs,0⟩] scope pos) (RF X.K (Ga n fr f st tst el)):=
 AH (LL O hc hi hg ht he hs) λ_ _ _ q=>RF.compG q
set_option tactic.hygienic true in
theorem Wl{f:M D}(h:PE X e (RE X.K f)):PI X tg e (RIG X.K (Lx f)):=
 HY (Sz h) λσ H R z=>by
  clear 5 z Oo c t fi ds t' eq k;clear 5(Af eq)d t1 e1 eq;refine⟨Oo,c,t,fi,d,t1,e1,λv H1 c1 f1 s1 rv=>?_⟩
  cases rv with
  |@obj a kk hk=>
    unfold Iw at eq;dsimp only at eq
    split at eq
    .next es hS=>
     cases eq
     clear 5(f1.s.obs kk a _ hk hS)ws g1 g3;refine .inl ⟨a,rfl,⟨ws,SqL.of g1⟩,k _ H1 c1 f1 s1 (ItOkG.lst λc' H' S' ex si on=>?_)⟩;clear 5(si.obs kk a _ (ex.io _ _ hk) (on kk es rfl))us q1 q2;exact⟨us,SqL.of q1,q2⟩
    .cases eq
  |@lst p vs ds' h1 h2 h3=>
    cases eq
    exact .inl ⟨p,rfl,⟨vs,SqL.of h1⟩,k _ H1 c1 f1 s1 (ItOk.toG (ItOk.lst λc' H' ex=>⟨vs,SqL.of (ex.keep _ _ h1 h2),h3.mono ex⟩))⟩
  |@scr p ns h1=>
    cases eq
    exact .inl ⟨p,rfl,⟨_,h1.sq⟩,k _ H1 c1 f1 s1 (ItOk.toG (ItOk.lst λc' H' ex=>⟨_,(h1.mono ex).sq,Reps.ints ns⟩))⟩
  |@tup p vs ds' h1 h2 h3=>
    cases eq
    exact .inr (.inl ⟨p,rfl,⟨vs,SqT.of h1⟩,k _ H1 c1 f1 s1 (ItOk.toG (ItOk.tup λc' H' ex=>⟨vs,SqT.of (ex.keep _ _ h1 h2),h3.mono ex⟩))⟩)
  |str x=>
    cases eq
    exact .inr (.inr ⟨x,rfl,k _ H1 c1 f1 s1 (ItOk.toG ItOk.str)⟩)
  |_=>cases eq
end
section
variable{X:Cx}{k:Nat}{f l I S:ig}{fd:iu}{ps:List Str}{sp:Sp}{ic:List (ig×Obj)}{σ:St}{H:Hp}{s:ij}{Q:VK}{oS oI oS' oI':Obj}{h':Heap}{t':Nat}
end
section
variable{K:ib}{g:Fn}
end
section
variable{X:Cx}{e:Expr}{pos:Pos}
def NR(f:M D):M D:=bnd f λo=>match o with
 |.obj k=>λt=>match t.S[k]? with
   |some (.lst _)=>some (.non,{t with S:=t.S.set k (.lst [])})
   |_=>none
 |_=>fail
set_option tactic.hygienic true
theorem Rl{o:Expr}{f:M D}{apos cpos:Pos}(ho:PE X o (RE X.K f))
 (hbase:attributeBase o "clear" X.env (eval o X.env)=eval o X.env:=by rfl) (hline:(apos.endLine==cpos.line)=true:=by rfl) :
 PE X (.Call (.Attribute o "clear" apos) [] [] cpos) (RE X.K (NR f)):=
 AH (ZQ ub6 PySem.F.slot_list_clear PySem.F.type_list_clear Uz ho hbase hline) λσ H Q z=>by
  clear 5 z Oo c t fi r t' eq k;clear 5(Af eq)d t1 e1 eq;refine⟨Oo,c,t,fi,d,t1,e1,λv H1 c1 f1 s1 rv=>?_⟩
  cases rv with
  |@obj a kk hk=>
    dsimp only at eq
    split at eq
    .next xs hS=>
     cases eq
     clear 5(f1.s.obs kk a _ hk hS)vs g1 g2;refine⟨.inl ⟨rfl,vs,SqL.of g1⟩,a,vs,rfl,rfl,g1,?_⟩;obtain⟨f2,s2⟩:=f1.wrObj (o:=.lst []) (u:=.lst []) hk λc' H' ext hu=>⟨[],hu,.nil⟩;exact k _ _ c1 f2 (s1.trans s2) .non
    .cases eq
  |_=>cases eq
def slF:D->Option Int->Option Int->M (List D)
 |.lst ds,lo,hi=>ret (BZ ds lo hi)
 |.scr ns,lo,hi=>ret ((BZ ns lo hi).map .int)
 |.obj k,lo,hi=>λt=>match t.S[k]? with
   |some (.lst ds)=>some (BZ ds lo hi,t)
   |_=>none
 |_,_,_=>fail
def Ly(f:M D)(l u:M (Option Int)):M (List D):=bnd f λd=>bnd l λa=>bnd u λb=>slF d a b
theorem T4{f:M D}{l u:M (Option Int)}{lo hi:Option Expr}{p2:Pos}(he:PE X e (RE X.K f))(hl:PO X lo (RO X.K l))(hu:PO X hi (RO X.K u)):PE X (.Subscript e (.Slice lo hi none p2) pos) (RF X.K (Ly f l u)):=
 AH (NV sl2 he hl hu) λσ H Q z9=>by
  clear 5 z9 Oo c t fi r t' eq k;clear 5(Af eq)d t1 e1 eq;clear 5(Af eq)ol t2 e2 eq;clear 5(Af eq)oh t3 e3 eq;refine⟨Oo,c,t,fi,d,t1,e1,λv H1 c1 f1 s1 rv=>⟨Oo,c1,t1,f1,ol,t2,e2,λH2 c2 f2 s2=>⟨Oo,c2,t2,f2,oh,t3,e3,λH3 c3 f3 s3=>?_⟩⟩⟩;have rv3:=rv.mono (s2.trans s3).ext;have st:=(s1.trans s2).trans s3
  cases rv3 with
  |@lst p vs ds h1 h2 h3=>
    cases eq
    exact⟨p,vs,rfl,SqL.of h1,λq hq=>k q _ _ c3 f3 st (HG h3 ol oh) hq⟩
  |@scr p ns h1=>
    cases eq
    refine⟨p,_,rfl,h1.sq,λq hq=>k q _ _ c3 f3 st ?_ hq⟩;rw[Mc];exact Reps.ints _
  |@obj a kk h1=>
    unfold slF at eq;dsimp only at eq
    split at eq
    .next ds es=>
     cases eq
     clear 5(f3.s.obs kk a _ h1 es)vs g1 g2;exact⟨a,vs,rfl,SqL.of g1,λq hq=>k q _ _ c3 f3 st (HG g2 ol oh) hq⟩
    .cases eq
  |_=>cases eq
def objX(f:M D)(g:M (List D)):M D:=bnd f λo=>match o with
 |.obj k=>λt=>match t.S[k]? with
   | some (.lst _)=>bnd g (λds t1=>match t1.S[k]?,ds with
     |some (.lst xs),[.obj j]=>match t1.S[j]? with
       |some (.lst ys)=>if xs.length+ys.length<=LIM then some (.non,{t1 with S:=t1.S.set k (.lst (xs++ys))}) else none
       |_=>none
     |_,_=>none) t
   |_=>none
 |_=>fail
theorem RE.objX{K:ib}{f:M D}{g:M (List D)}{σ:L2.St}{H:Hp}{Q:VK}(q:RE K (L2.objX f g) σ H Q):tBM K "list" (Qu K) (RE K f) (RA K g) σ H Q:=by
 clear 5 q Oo c t fi r t' eq k;clear 5(Af eq)o t0 e0 eq;refine⟨Oo,c,t,fi,o,t0,e0,λx H0 c0 f0 s0 rx=>?_⟩
 cases rx with
 |@obj a kk hk=>
   dsimp only at eq
   split at eq
   .next xs0 ex0=>
    clear 5(Af eq)ds t1 e1 eq;clear 5(f0.s.obs kk a _ hk ex0)vs0 g0 g0';refine⟨.inl ⟨rfl,vs0,SqL.of g0⟩,Oo,c0,t0,f0,ds,t1,e1,λus H1 c1 f1 s1 rus=>?_⟩
    split at eq
    .next xs j ex=>
     split at eq
     .next ys ey=>
      split at eq
      .next hl=>
       cases eq
       have hk1:=s1.ext.io _ _ hk;clear 5(f1.s.obs kk a _ hk1 ex)vs g1 g2;clear 5(FD rus)v rfl rv
       obtain⟨b,rfl,hj⟩:=rv.rv
       clear 5(f1.s.obs _ b _ hj ey)ws w1 w2;obtain⟨f2,s2⟩:=f1.wrObj (o:=.lst (xs++ys)) (u:=.lst (vs++ws)) hk1 λc' H' ext hu=>⟨_,hu,(g2.append w2).mono ext⟩;exact⟨a,b,vs,ws,rfl,rfl,g1,w1,by rw[g2.length,w2.length];exact uk9 hl Dm,k _ _ c1 f2 ((s0.trans s1).trans s2) .non⟩
      .cases eq
     .cases eq
    .cases eq
   .cases eq
 |_=>cases eq
set_option tactic.hygienic false
theorem PU{o:Expr}{es:List Expr}{f:M D}{g:M (List D)}{apos cpos:Pos}(ho:PE X o (RE X.K f))(ha:PA X (e::es) (RA X.K g))
 (hbase:attributeBase o "extend" X.env (eval o X.env)=eval o X.env:=by rfl)
 (hfew:((backTo cpos (starEach (e::es) X.env)).all (λx=>!x.1)&&(backToKw cpos (keywordEach [] X.env)).all (λx=>x.1.isSome)&&decide ((e::es).length+([]:List Keyword).length+(if ([]:List Keyword).isEmpty then 0 else 1)<30))=true:=by rfl)
 (hline:(apos.endLine==cpos.line)=true:=by rfl) (hs:starEach (e::es) X.env=(false,eval e X.env)::starEach es X.env:=by rfl) (hplain:(backTo cpos (starEach es X.env)).any (·.1)=false:=by rfl) :
 PE X (.Call (.Attribute o "extend" apos) (e::es) [] cpos) (RE X.K (objX f g)):=
 AH (KQ ub6 ji jk O2 ho ha hbase hfew hline hs hplain) λ_ _ _ q=>RE.objX q
end
section
variable{X:Cx}{e elt tg iter:Expr}{pos:Pos}{scope:Scope}{N':List Str}{ifs:List Expr}{n:Nat}{fr:List Nat}{f:M (List D)}{st:D->M Unit}{tst:M Bool}{el:M D}
theorem RF.ofObj{K:ib}{f:M (List D)}{σ:L2.St}{H:Hp}{Q:VK}(q:RE K (B5 f) σ H Q):RF K f σ H Q:=by
 clear 5 q Oo c t fi r t' eq k;clear 5(Af eq)ds t1 e1 eq
 cases eq
 refine⟨Oo,c,t,fi,ds,_,e1,λp xs H1 c1 f1 s1 rxs hp=>?_⟩;obtain⟨c2,f2,s2,e2⟩:=f1.newObj (o:=.lst ds) (u:=.lst xs) hp λc' H' ex hu=>⟨xs,hu,rxs.mono ex⟩;exact k _ _ c2 f2 (s1.trans s2) (.obj e2)
theorem T9{μ:Cf->Hp->D->(V->Hp->Prop)->Prop}{i:Nat}{y:Str}{py spos:Pos}(O:CmpOk X scope N' (Fq n fr))(hc:X.calm=true)(hN:X.N.Nodup)(hiN:X.N[i]?=some y)(hx:X.env.scope.names.lookup y=some .local)(hi:PI X tg iter (RI X.K f))
 (hg:∀cl C s2 H2 fp,PG (BY X N' scope cl C s2 H2 fp) tg (RG X.K st)) (ht:∀cl C s2 H2 fp,PIf (BY X N' scope cl C s2 H2 fp) ifs (RT X.K tst)) (he:∀cl C s2 H2 fp,PE (BY X N' scope cl C s2 H2 fp) elt (RE X.K el))
 (hsw:swapsWith (.ListComp elt [⟨tg,iter,ifs,0⟩] scope pos) (some (.Name y py)) spos.line X.env=pure true:=by rfl)
 (hs:∀x,foldedSetIterable iter X.env x=pure x:=by intro _;rfl):PS X (.Assign [.Name y py] (.ListComp elt [⟨tg,iter,ifs,0⟩] scope pos) spos) (RSg X.K μ (Ar i (B5 (Ca n fr f st tst el)))):=
 Br (Xo O hc hN hiN hx hi hg ht he hsw hs) λE σ H q=>RF.comp (RF.ofObj (RS.set q))
end
section
variable{X:Cx}{e:Expr}
noncomputable def FL(f g:M D):M D:=λt=>match f t with
 |some r=>some r
 |none=>g t
set_option tactic.hygienic true in
theorem Rh{f g:M D}{t:T}{r:D×T}(h:FL f g t=some r):f t=some r\/g t=some r:=by
 unfold FL at h
 split at h
 .next x e=>exact .inl (by rw[e,h])
 .exact .inr h
theorem Y8{E:L2.St->XK}{f g:M D}(h1:PE X e (RX X.K E f))(h2:PE X e (RX X.K E g)):PE X e (RX X.K E (FL f g)):=λic s σ H Q I q=>by
 clear 5 q Oo c t fi r t' eq k;rcases Rh eq with eq|eq
 .exact h1 ic s σ H Q I ⟨Oo,c,t,fi,r,t',eq,k⟩
 .exact h2 ic s σ H Q I ⟨Oo,c,t,fi,r,t',eq,k⟩
end
section
variable{X:Cx}{e el eu ek:Expr}{p2 pos:Pos}{te:TE}{tl tu tk:TO}
end
section
variable{X:Cx}{elt tg iter:Expr}{pos:Pos}{scope:Scope}{N':List Str}{ifs:List Expr}{n:Nat}{fr:List Nat}{st:D->M Unit}{tst:M Bool}{el:M D}
end
abbrev EnO(h:Heap)(e it:ig)(i:Int)(x:ie)(a:ig)(q:Bool):Prop:=h.get? e=some {cls:=.type "enumerate",dict:=none,data:=.fields #[rawInt a,.bool q,.ref it,rawInt i,.none,x],slots:=#[]}
section
variable{prog:im}{w:ir}{A:Around}{E:ie->ij->Prop}{s:ij}
end
inductive EnS(h:Heap)(e it:ig)(i:Nat):Prop where
 |new (old:ie) (z:i=0) (h1:IsEnum h e it i old)
 |out (old:ie) (a0:ig) (q:Bool) (h1:EnO h e it i old a0 q)
section
variable{A:Around}{s:ij}
end
end L2
namespace PySem
open Sem (wp)
section
variable{prog:im}{w:ir}{A:Around}{E:ie->ij->Prop}{s:ij}
end
end PySem
namespace L2
open PySem PySem.Spec PyProof.Rows
section
variable{X:Cx}{e:Expr}{ta:TA}{p p2 pos2 pos:Pos}
end
section
variable{X:Cx}{K:ib}{e:Expr}{p p2 pos2 pos:Pos}
end
abbrev vw(d:L2.D):Option L2.Sl:=some (.val d)
abbrev ia(i:Int):L2.M L2.D:=L2.fC (.int i)
end L2
namespace LW
open PySem L2
def GU:M Out:=
 (Al (Fa (fB (Ab (Aa 0) (Ab (fC (.ty "int")) Ad)) CY) (Hr (fB (Ab (Aa 0) (Ab (fC (.ty "bool")) Ad)) CY))))
def Ee(Ni:Fn):M Out:=
 (Al (Fa (Aj Ni (Ab (Aa 0) Ad)) (FE (Aa 1) (Aa 0) (Aa 2) leA leA)))
def NN(Lq Ng Nf Nh Cb:Fn):M Out:=
 (Ag (Ar 2 (Ac (Aa 0) (ia 0) ixD))
 (Ag (ifS (Ai (Ac (Aa 2) (fC (.str "nothing")) (eqS id)))
   (Al (Ac (Aa 1) (fC .non) isC))
   Aq)
 (Ag (ifS (Ai (Ac (Aa 2) (fC (.str "number")) (eqS id)))
   (Al (Aj Cb (Ab (Aa 1) (Ab (Ac (Aa 0) (ia 1) ixD) (Ab (Ac (Aa 0) (ia 2) ixD) Ad)))))
   Aq)
 (Ag (ifS (Ai (Ac (Aa 2) (fC (.str "text")) (eqS id)))
   (Al (Aj Nh (Ab (Aa 0) (Ab (Aa 1) Ad))))
   Aq)
 (Ag (ifS (Ai (Ac (Aa 2) (fC (.str "list")) (eqS id)))
   (Al (Aj Nf (Ab (Aa 0) (Ab (Aa 1) Ad))))
   Aq)
 (Ag (ifS (Ai (Ac (Aa 2) (fC (.str "pair")) (eqS id)))
   (Al (Aj Ng (Ab (Aa 0) (Ab (Aa 1) Ad))))
   Aq)
 (Al (Aj Lq (Ab (Aa 0) (Ab (Aa 1) Ad))))))))))
def GR(Hm:Fn):M Out:=
 (Ag (ifS (fOr (CK (Ai (fB (Ab (Aa 1) (Ab (fC (.ty "str")) Ad)) CY))) (Ai (Ac (fB (Ab (Aa 1) Ad) A4) (Ac (Aa 0) (ia 1) ixD) gtA)))
   (Al (fC (.bl false)))
   Aq)
 (Ag (Dh (EA (Aa 1)) (Au 2)
   (ifS (CK (Ai (Aj Hm (Ab (fB (Ab (Aa 2) Ad) JY) Ad))))
   (Al (fC (.bl false)))
   Aq))
 (Al (fC (.bl true)))))
def IB:M Out:=
 (Al (Fa (FE (ia 32) (Aa 0) (ia 126) leA leA) (Ac (Aa 0) (ia 37) (eqS λb=>!b))))
def GP(EX:Fn):M Out:=
 (Ag (ifS (fOr (CK (Ai (fB (Ab (Aa 1) (Ab (fC (.ty "list")) Ad)) CY))) (Ai (Ac (fB (Ab (Aa 1) Ad) A4) (Ac (Aa 0) (ia 2) ixD) gtA)))
   (Al (fC (.bl false)))
   Aq)
 (Ag (Dh (EA (Aa 1)) (Au 2)
   (ifS (CK (Ai (Aj EX (Ab (Ac (Aa 0) (ia 1) ixD) (Ab (Aa 2) Ad)))))
   (Al (fC (.bl false)))
   Aq))
 (Al (fC (.bl true)))))
def GQ(EX:Fn):M Out:=
 (Ag (ifS (fOr (CK (Ai (fB (Ab (Aa 1) (Ab (fC (.ty "tuple")) Ad)) CY))) (Ai (Ac (fB (Ab (Aa 1) Ad) A4) (ia 2) (eqS λb=>!b))))
   (Al (fC (.bl false)))
   Aq)
 (Al (Fa (Aj EX (Ab (Ac (Aa 0) (ia 1) ixD) (Ab (Ac (Aa 1) (ia 0) ixD) Ad))) (Aj EX (Ab (Ac (Aa 0) (ia 2) ixD) (Ab (Ac (Aa 1) (ia 1) ixD) Ad))))))
def FN(EX Cb:Fn):M Out:=
 (Ag (ifS (fOr (CK (Ai (fB (Ab (Aa 1) (Ab (fC (.ty "tuple")) Ad)) CY))) (Ai (Ac (fB (Ab (Aa 1) Ad) A4) (ia 3) (eqS λb=>!b))))
   (Al (fC (.bl false)))
   Aq)
 (Ag (ifS (fOr (CK (Ai (fB (Ab (Ac (Aa 1) (ia 0) ixD) (Ab (fC (.ty "str")) Ad)) CY))) (Ai (Ac (Ac (Aa 1) (ia 0) ixD) (fC (.str "of")) (eqS λb=>!b))))
   (Al (fC (.bl false)))
   Aq)
 (Ag (ifS (CK (Ai (Aj Cb (Ab (Ac (Aa 1) (ia 1) ixD) (Ab (ia 0) (Ab (Ac (fB (Ab (Ac (Aa 0) (ia 1) ixD) Ad) A4) (ia 1) Di) Ad))))))
   (Al (fC (.bl false)))
   Aq)
 (Al (Aj EX (Ab (Ac (Ac (Aa 0) (ia 1) ixD) (Ac (Aa 1) (ia 1) ixD) ixD) (Ab (Ac (Aa 1) (ia 2) ixD) Ad)))))))
def C7:M Out:=
 (Al (Fa (fB (Ab (Aa 0) (Ab (fC (.ty "int")) Ad)) CY) (Hr (fB (Ab (Aa 0) (Ab (fC (.ty "bool")) Ad)) CY))))
def Gk:M Out:=
 (Al (Ac (Ac (Ac (Ac (Aa 0) (Ac (Aa 1) (ia 0) ixD) ixD) (ia 1) ixD) (Ac (Aa 1) (ia 1) ixD) ixD) (ia 2) ixD))
def Eg(EX Lr:Fn):M Out:=
 (Ag (ifS (fOr (CK (Ai (fB (Ab (Aa 1) (Ab (fC (.ty "tuple")) Ad)) CY))) (Ai (Ac (fB (Ab (Aa 1) Ad) A4) (ia 3) (eqS λb=>!b))))
   (Al (fC .non))
   Aq)
 (Ag (ifS (fOr (CK (Ai (fB (Ab (Ac (Aa 1) (ia 0) ixD) (Ab (fC (.ty "str")) Ad)) CY))) (Ai (Ac (Ac (Aa 1) (ia 0) ixD) (Ac (Aa 0) (ia 0) ixD) (eqS λb=>!b))))
   (Al (fC .non))
   Aq)
 (Ag (Ar 2 (Aj Lr (Ab (Aa 0) (Ab (Ac (Aa 1) (ia 1) ixD) Ad))))
 (Ag (ifS (fOr (Ai (Ac (Aa 2) (fC .non) isC)) (CK (Ai (Aj EX (Ab (Ac (Ac (Ac (Aa 0) (ia 1) ixD) (Aa 2) ixD) (ia 1) ixD) (Ab (Ac (Aa 1) (ia 2) ixD) Ad))))))
   (Al (fC .non))
   Aq)
 (Al (Aa 2))))))
def FO(Oq:Fn):M Out:=
 (Ag (ifS (CK (Ai (fB (Ab (Aa 1) (Ab (fC (.ty "str")) Ad)) CY)))
   (Al (fC .non))
   Aq)
 (Ag (Ar 2 (Aj Oq (Ab (Aa 0) Ad)))
 (Ag (Dh (DY (Ab (fB (Ab (Aa 2) Ad) A4) Ad)) (Au 3)
   (ifS (Ai (Ac (Ac (Ac (Aa 2) (Aa 3) ixD) (ia 0) ixD) (Aa 1) (eqS id)))
   (Al (Aa 3))
   Aq))
 (Al (fC .non)))))
def HB(Ic:Fn):M Out:=
 (Al (fIf (Ai (Aj Ic (Ab (Aa 0) Ad))) (AE Ad) (Ac (Aa 0) (ia 1) ixD)))
def Cg:M Out:=
 (Al (Ac (Ac (Aa 0) (ia 0) ixD) (fC (.str "end")) (eqS id)))
def Fh(Cc Fp Ks:Fn):M Out:=
 (Ag (Ar 2 (Ac (Aa 0) (ia 0) ixD))
 (Ag (ifS (Ai (Ac (Aa 2) (fC (.str "nothing")) (eqS id)))
   (GV (Bc Ad))
   Aq)
 (Ag (ifS (Ai (Ac (Aa 2) (fC (.str "number")) (eqS id)))
   (GV (D8 Ks (Ab (Ac (Aa 1) (Ac (Aa 0) (ia 1) ixD) Di) (Ab (Aj Fp (Ab (Ac (Ac (Aa 0) (ia 2) ixD) (Ac (Aa 0) (ia 1) ixD) Di) Ad)) Ad))))
   Aq)
 (Ag (ifS (Ai (Ac (Aa 2) (fC (.str "text")) (eqS id)))
   (GV (bnd (AL (Bc (Ab (fB (Ab (Aa 1) Ad) A4) Ad))) λx=>bnd (AL (Ca 1 [] (EA (Aa 1)) (Au 0) EU (fB (Ab (Aa 0) Ad) JY))) λy=>Ig x y))
   Aq)
 (Ag (ifS (Ai (Ac (Aa 2) (fC (.str "list")) (eqS id)))
   (Ag (Gp 3 (Bc (Ab (fB (Ab (Aa 1) Ad) A4) Ad)))
 (Ag (Dh (EA (Aa 1)) (Au 4)
   (ownM 3 Il (Ab (AL (D8 Cc (Ab (Ac (Aa 0) (ia 1) ixD) (Ab (Aa 4) Ad)))) Ad)))
 (Hg 3)))
   Aq)
 (Ag (ifS (Ai (Ac (Aa 2) (fC (.str "pair")) (eqS id)))
   (GV (bnd (AL (D8 Cc (Ab (Ac (Aa 0) (ia 1) ixD) (Ab (Ac (Aa 1) (ia 0) ixD) Ad)))) λx=>bnd (AL (D8 Cc (Ab (Ac (Aa 0) (ia 2) ixD) (Ab (Ac (Aa 1) (ia 1) ixD) Ad)))) λy=>Ig x y))
   Aq)
 (GV (bnd (AL (Bc (Ab (Ac (Aa 1) (ia 1) ixD) Ad))) λx=>bnd (AL (D8 Cc (Ab (Ac (Ac (Aa 0) (ia 1) ixD) (Ac (Aa 1) (ia 1) ixD) ixD) (Ab (Ac (Aa 1) (ia 2) ixD) Ad)))) λy=>Ig x y))))))))
def FP:M Out:=
 (Al (Ac (Ac (fUn (Aa 0) Kl) (ia 7) AZ) (ia 8) A9))
def Fy(Hn:Fn):M Out:=
 (GV (Ca 1 [0,1] (Hs (Ab (ia 1) (Ab (Ac (Aa 1) (ia 1) AZ) Ad))) (Au 0) EU (Ac (Aj Hn (Ab (Aa 1) (Ab (Ac (Aa 2) (Aa 0) Di) Ad))) (ia 256) Bf)))
def ID:M Out:=
 (Al (Ac (Aa 0) (Ac (ia 8) (Aa 1) EC) N8))
def D0(Ls Nk Nj Nl Lu:Fn):M Out:=
 (Ag (Ar 3 (Ac (Aa 0) (ia 0) ixD))
 (Ag (ifS (Ai (Ac (Aa 3) (fC (.str "nothing")) (eqS id)))
   (Al (nxD (AE (Ab (fC .non) (Ab (Aa 2) Ad)))))
   Aq)
 (Ag (ifS (Ai (Ac (Aa 3) (fC (.str "number")) (eqS id)))
   (Al (Aj Lu (Ab (Aa 0) (Ab (Aa 1) (Ab (Aa 2) Ad)))))
   Aq)
 (Ag (ifS (Ai (Ac (Aa 3) (fC (.str "text")) (eqS id)))
   (Al (Aj Nl (Ab (Aa 0) (Ab (Aa 1) (Ab (Aa 2) Ad)))))
   Aq)
 (Ag (ifS (Ai (Ac (Aa 3) (fC (.str "list")) (eqS id)))
   (Al (Aj Nj (Ab (Aa 0) (Ab (Aa 1) (Ab (Aa 2) Ad)))))
   Aq)
 (Ag (ifS (Ai (Ac (Aa 3) (fC (.str "pair")) (eqS id)))
   (Al (Aj Nk (Ab (Aa 0) (Ab (Aa 1) (Ab (Aa 2) Ad)))))
   Aq)
 (Al (Aj Ls (Ab (Aa 0) (Ab (Aa 1) (Ab (Aa 2) Ad)))))))))))
def Gg:M Out:=
 (Ag (ifS (Ai (Ac (Aa 1) (fB (Ab (Aa 0) Ad) A4) geA))
   (Gs "Short" (Ab (fC (.str "the bytes end within a value")) Ad))
   Aq)
 (Al (nxD (Ac (Aa 0) (Aa 1) ixD))))
def Ff(E7:Fn):M Out:=
 (Ag (CD 3 (Aj E7 (Ab (Aa 1) (Ab (Aa 2) Ad))))
 (Ag (ifS (Ai (Ac (Aa 3) (Aa 0) gtA))
   (Eh "Broken" (Ab (Aa 2) (Ab (fC .non) Ad)))
   Aq)
 (Al (nxD (Aa 3)))))
def DH(Hn E7 Fp:Fn):M Out:=
 (Ag (Ar 3 (Ac (Ac (Aa 0) (ia 2) ixD) (Ac (Aa 0) (ia 1) ixD) Di))
 (Ag (Ar 4 (Aj Fp (Ab (Aa 3) Ad)))
 (Ag (Ar 5 (ia 0))
 (Ag (Dh (DY (Ab (Aa 4) Ad)) (Au 6)
   (Ag (CD 5 (Je (Ac (Aa 5) (ia 256) EC) (Aj E7 (Ab (Aa 1) (Ab (Ac (Aa 2) (Aa 6) AZ) Ad))) AZ))
 (ifS (Ai (Ac (Aa 5) (Aj Hn (Ab (Aa 3) (Ab (Ac (Ac (Aa 4) (ia 1) Di) (Aa 6) Di) Ad))) gtA))
   (Eh "Broken" (Ab (Ac (Aa 2) (Aa 6) AZ) (Ab (fC .non) Ad)))
   Aq)))
 (Al (nxD (AE (Ab (Ac (Ac (Aa 0) (ia 1) ixD) (Aa 5) AZ) (Ab (Ac (Aa 2) (Aa 4) AZ) Ad)))))))))
def Ev(PL DP:Fn):M Out:=
 (Ag (CD 3 (Aj DP (Ab (Ac (Aa 0) (ia 1) ixD) (Ab (Aa 1) (Ab (Aa 2) Ad)))))
 (Ag (Ar 4 (Ac (Aa 2) (ia 1) AZ))
 (Ag (Ar 5 (fC (.str "")))
 (Ag (Dh (DY (Ab (Aa 3) Ad)) (Au 6)
   (CD 5 (Je (Aa 5) (Aj PL (Ab (Aa 1) (Ab (Ac (Aa 4) (Aa 6) AZ) Ad))) AZ)))
 (Al (nxD (AE (Ab (Aa 5) (Ab (Ac (Aa 4) (Aa 3) AZ) Ad)))))))))
def Gj(Hm E7:Fn):M Out:=
 (Ag (CD 2 (Aj E7 (Ab (Aa 0) (Ab (Aa 1) Ad))))
 (Ag (ifS (CK (Ai (Aj Hm (Ab (Aa 2) Ad))))
   (Eh "Broken" (Ab (Aa 1) (Ab (fC .non) Ad)))
   Aq)
 (Al (nxD (Ac (fC (.str " !\"#$ &'()*+,-./0123456789:;<=>?@ABCDEFGHIJKLMNOPQRSTUVWXYZ[\\]^_`abcdefghijklmnopqrstuvwxyz{|}~")) (Ac (Aa 2) (ia 32) Di) ixD)))))
def Et(BT DP:Fn):M Out:=
 (Ag (CD 3 (Aj DP (Ab (Ac (Aa 0) (ia 2) ixD) (Ab (Aa 1) (Ab (Aa 2) Ad)))))
 (Ag (Ar 4 (Ac (Aa 2) (ia 1) AZ))
 (Ag (Gp 5 (Bc Ad))
 (Ag (Dh (DY (Ab (Aa 3) Ad)) (Au 6)
   (Ag (CD 7 (Aj BT (Ab (Ac (Aa 0) (ia 1) ixD) (Ab (Aa 1) (Ab (Aa 4) Ad)))))
 (Ag (ownM 5 Cu (Ab (Ac (Aa 7) (ia 0) ixD) Ad))
 (Ar 4 (Ac (Aa 7) (ia 1) ixD)))))
 (Al (nxD (AE (Ab (Aa 5) (Ab (Aa 4) Ad)))))))))
def Eu(BT:Fn):M Out:=
 (Ag (CD 3 (Aj BT (Ab (Ac (Aa 0) (ia 1) ixD) (Ab (Aa 1) (Ab (Aa 2) Ad)))))
 (Ag (CD 4 (Aj BT (Ab (Ac (Aa 0) (ia 2) ixD) (Ab (Aa 1) (Ab (Ac (Aa 3) (ia 1) ixD) Ad)))))
 (Al (nxD (AE (Ab (AE (Ab (Ac (Aa 3) (ia 0) ixD) (Ab (Ac (Aa 4) (ia 0) ixD) Ad))) (Ab (Ac (Aa 4) (ia 1) ixD) Ad)))))))
def DG(BT DP:Fn):M Out:=
 (Ag (CD 3 (Aj DP (Ab (Ac (fB (Ab (Ac (Aa 0) (ia 1) ixD) Ad) A4) (ia 1) Di) (Ab (Aa 1) (Ab (Aa 2) Ad)))))
 (Ag (CD 4 (Aj BT (Ab (Ac (Ac (Aa 0) (ia 1) ixD) (Aa 3) ixD) (Ab (Aa 1) (Ab (Ac (Aa 2) (ia 1) AZ) Ad)))))
 (Al (nxD (AE (Ab (AE (Ab (fC (.str "of")) (Ab (Aa 3) (Ab (Ac (Aa 4) (ia 0) ixD) Ad)))) (Ab (Ac (Aa 4) (ia 1) ixD) Ad)))))))
def DZ:M Out:=
 (Ag (ifS (Ai (Ac (Aa 1) (fB (Ab (Aa 0) Ad) A4) ltA))
   (Al (Ac (Aa 0) (Aa 1) ixD))
   Aq)
 (Al (ia 0)))
def Fz(BT:Fn):M Out:=
 (Ag (ifS (Ai (Ac (Aa 2) (fB (Ab (Aa 1) Ad) A4) geA))
   (Al (nxD (fC .non)))
   Aq)
 (Ag (ifS (Ai (Ac (Ac (Aa 1) (Aa 2) ixD) (fB (Ab (Ac (Aa 0) (ia 1) ixD) Ad) A4) geA))
   (Eh "Broken" (Ab (Aa 2) (Ab (Ac (Aa 0) (ia 0) ixD) Ad)))
   Aq)
 (Ag (Ar 3 (Ac (Ac (Aa 0) (ia 1) ixD) (Ac (Aa 1) (Aa 2) ixD) ixD))
 (Ag (EF (CD 4 (Aj BT (Ab (Ac (Aa 3) (ia 1) ixD) (Ab (Aa 1) (Ab (Ac (Aa 2) (ia 1) AZ) Ad))))) (hNo "Short" (Al (nxD (fC .non))) (hAs "Broken" 5 (Eh "Broken" (Ab (bnd (Aa 5) (FH "at")) (Ab (Ac (Aa 0) (ia 0) ixD) Ad))) NJ)))
 (Al (nxD (AE (Ab (AE (Ab (Ac (Aa 0) (ia 0) ixD) (Ab (Ac (Aa 3) (ia 0) ixD) (Ab (Ac (Aa 4) (ia 0) ixD) Ad)))) (Ab (Ac (Aa 3) (ia 2) ixD) (Ab (Ac (Aa 4) (ia 1) ixD) Ad))))))))))
def Da(Kr:Fn):M Out:=
 (Ag (CB "grammar" (Aj Kr (Ab (Aa 1) Ad)) (Aa 0))
 (Ag (CB "standing" (ia 0) (Aa 0))
 (Ag (CB "wires" (FF []) (Aa 0))
 (Ag (CB "places" (FF []) (Aa 0))
 (Dh (EA (Aa 2)) (Au 3)
   (Ag (Bw (B5 (Bc Ad)) (CG (Cv "wires" (Aa 0)) (Aa 3)))
 (Bw (ia 0) (CG (Cv "places" (Aa 0)) (Aa 3)))))))))
def Be:M Out:=
 (Al (Cv "standing" (Aa 0)))
def Gi(Kt:Fn):M Out:=
 (Ag (Ar 4 (B5 (Bc Ad)))
 (Ag (Ar 5 (Aa 1))
 (Ag (Ar 6 (fB (Ab (Aa 3) Ad) Jd))
 (Ag (IZ (Ai (Ac (Ac (Ac (Aa 0) (Aa 5) ixD) (ia 0) ixD) (Aa 2) (inS false)))
   (Ag (Ar 7 (Ac (Ac (Aa 0) (Aa 5) ixD) (ia 0) ixD))
 (Ag (CD 8 (Aj Kt (Ab (Ac (Aa 0) (Aa 5) ixD) (Ab (Ac (Aa 2) (Aa 7) Az) (Ab (Ac (Aa 6) (Aa 7) Az) Ad)))))
 (Ag (ifS (Ai (Ac (Aa 8) (fC .non) isC))
   (ret .brk)
   Aq)
 (Ag (B9 (objM Cu (Aa 4) (Ab (Ac (Aa 8) (ia 0) ixD) Ad)))
 (Ag (Ar 5 (Ac (Aa 8) (ia 1) ixD))
 (Bw (Ac (Aa 8) (ia 2) ixD) (CG (Aa 6) (Aa 7)))))))))
 (Al (nxD (AE (Ab (Aa 4) (Ab (Aa 5) (Ab (Aa 6) Ad))))))))))
def Ut:M Out:=
 (IZ (Ai (fC (.bl true)))
   Aq)
def Gh:M Out:=
 (Al (fIf (Ai (Ac (Aa 0) (fC (.str "left")) (eqS id))) (fC (.str "right")) (fC (.str "left"))))
def EQ:M Out:=
 (Ag (ifS (Ai (Ac (Aa 0) (Ac (ia 10) (ia 18) NX) geA))
   (Al (Aa 0))
   Aq)
 (Ag (Ar 2 (Ac (Ac (Ac (Ac (Ac (Aa 0) (ia 48271) EC) (Ac (Ac (ia 7919) (Aa 1) EC) (Aa 1) EC) AZ) (Ac (ia 104729) (Aa 1) EC) AZ) (ia 13) AZ) (ia 2147483647) Bf))
 (Ag (Ar 2 (Ac (Ac (Aa 2) (Aa 2) EC) (ia 2147483629) Bf))
 (Al (Ac (Ac (Ac (Ac (Aa 2) (Aa 2) EC) (Aa 2) EC) (Ac (ia 1000003) (Aa 2) EC) AZ) (Aa 0) AZ)))))
def CQ(C3:Fn):M Out:=
 (Ag (Ar 2 (Ac (Aa 0) (ia 7) Bf))
 (Ag (Ar 3 (Ac (Aa 0) (ia 7) A9))
 (Ag (ifS (Ai (Ac (Aa 2) (ia 0) (eqS id)))
   (Al (AE (Ab (AE (Ab (fC (.str "nothing")) Ad)) (Ab (Aa 3) Ad))))
   Aq)
 (Ag (ifS (fOr (Ai (Ac (Aa 2) (ia 3) ltA)) (Hq (Ai (Ac (Aa 2) (ia 3) gtA)) (Ai (Ac (Aa 1) (ia 0) (eqS id)))))
   (Ag (Ar 4 (Ac (Ac (Aa 3) (ia 9) Bf) (ia 4) Di))
 (Al (AE (Ab (AE (Ab (fC (.str "number")) (Ab (Aa 4) (Ab (Ac (Aa 4) (Ac (AL (Bc (Ab (ia 0) (Ab (ia 3) (Ab (ia 255) (Ab (ia 256) (Ab (ia 70000) Ad))))))) (Ac (Ac (Aa 3) (ia 9) A9) (ia 5) Bf) ixD) AZ) Ad)))) (Ab (Ac (Aa 3) (ia 45) A9) Ad)))))
   Aq)
 (Ag (ifS (Ai (Ac (Aa 2) (ia 3) (eqS id)))
   (Al (AE (Ab (AE (Ab (fC (.str "text")) (Ab (Ac (Aa 3) (ia 4) Bf) Ad))) (Ab (Ac (Aa 3) (ia 4) A9) Ad))))
   Aq)
 (Ag (Bw (Aj C3 (Ab (Aa 3) (Ab (Ac (Aa 1) (ia 1) Di) Ad))) (unS 2 (AA (Au 5) (AA (Au 3) BL))))
 (Ag (ifS (Ai (Ac (Aa 2) (ia 4) (eqS id)))
   (Al (AE (Ab (AE (Ab (fC (.str "list")) (Ab (Aa 5) (Ab (Ac (Aa 3) (ia 4) Bf) Ad)))) (Ab (Ac (Aa 3) (ia 4) A9) Ad))))
   Aq)
 (Ag (Bw (Aj C3 (Ab (Aa 3) (Ab (Ac (Aa 1) (ia 1) Di) Ad))) (unS 2 (AA (Au 6) (AA (Au 3) BL))))
 (Al (AE (Ab (Ac (AL (Bc (Ab (AE (Ab (fC (.str "pair")) (Ab (Aa 5) (Ab (Aa 6) Ad)))) (Ab (AE (Ab (fC (.str "choice")) (Ab (AE (Ab (Aa 5) (Ab (Aa 6) Ad))) Ad))) Ad)))) (Ac (Aa 2) (ia 2) Bf) ixD) (Ab (Aa 3) Ad))))))))))))
def ES(C5:Fn):M Out:=
 (Ag (Ar 2 (Ac (Aa 0) (ia 0) ixD))
 (Ag (ifS (Ai (Ac (Aa 2) (fC (.str "nothing")) (eqS id)))
   (Al (AE (Ab (fC .non) (Ab (Aa 1) Ad))))
   Aq)
 (Ag (ifS (Ai (Ac (Aa 2) (fC (.str "number")) (eqS id)))
   (Al (AE (Ab (Ac (Ac (Aa 0) (ia 1) ixD) (Ac (Aa 1) (Ac (Ac (Ac (Aa 0) (ia 2) ixD) (Ac (Aa 0) (ia 1) ixD) Di) (ia 1) AZ) Bf) AZ) (Ab (Ac (Aa 1) (Ac (Ac (Ac (Aa 0) (ia 2) ixD) (Ac (Aa 0) (ia 1) ixD) Di) (ia 1) AZ) A9) Ad))))
   Aq)
 (Ag (ifS (Ai (Ac (Aa 2) (fC (.str "text")) (eqS id)))
   (Ag (Ar 3 (Ac (Aa 1) (Ac (Ac (Aa 0) (ia 1) ixD) (ia 1) AZ) Bf))
 (Ag (Ar 4 (Ac (Aa 1) (Ac (Ac (Aa 0) (ia 1) ixD) (ia 1) AZ) A9))
 (Al (AE (Ab (joinM (fC (.str "")) (Ab (AL (Ca 1 [4] (DY (Ab (Aa 3) Ad)) (Au 0) EU (Ac (fC (.str " a~z")) (Ac (Ac (Aa 1) (Ac (AL (Bc (Ab (ia 1) (Ab (ia 4) (Ab (ia 16) Ad))))) (Aa 0) ixD) A9) (ia 4) Bf) ixD))) Ad)) (Ab (Ac (Aa 4) (ia 64) A9) Ad))))))
   Aq)
 (Ag (ifS (Ai (Ac (Aa 2) (fC (.str "list")) (eqS id)))
   (Ag (Ar 3 (Ac (Aa 1) (Ac (Ac (Aa 0) (ia 2) ixD) (ia 1) AZ) Bf))
 (Ag (Ar 4 (Ac (Aa 1) (Ac (Ac (Aa 0) (ia 2) ixD) (ia 1) AZ) A9))
 (Ag (Gp 5 (Bc Ad))
 (Ag (Dh (DY (Ab (Aa 3) Ad)) (Au 6)
   (Ag (Bw (Aj C5 (Ab (Ac (Aa 0) (ia 1) ixD) (Ab (Aa 4) Ad))) (unS 2 (AA (Au 7) (AA (Au 4) BL))))
 (ownM 5 Cu (Ab (Aa 7) Ad))))
 (Al (AE (Ab (Aa 5) (Ab (Aa 4) Ad))))))))
   Aq)
 (Ag (ifS (Ai (Ac (Aa 2) (fC (.str "pair")) (eqS id)))
   (Ag (Bw (Aj C5 (Ab (Ac (Aa 0) (ia 1) ixD) (Ab (Aa 1) Ad))) (unS 2 (AA (Au 7) (AA (Au 4) BL))))
 (Ag (Bw (Aj C5 (Ab (Ac (Aa 0) (ia 2) ixD) (Ab (Aa 4) Ad))) (unS 2 (AA (Au 8) (AA (Au 4) BL))))
 (Al (AE (Ab (AE (Ab (Aa 7) (Ab (Aa 8) Ad))) (Ab (Aa 4) Ad))))))
   Aq)
 (Ag (Ar 9 (Ac (Aa 1) (fB (Ab (Ac (Aa 0) (ia 1) ixD) Ad) A4) Bf))
 (Ag (Bw (Aj C5 (Ab (Ac (Ac (Aa 0) (ia 1) ixD) (Aa 9) ixD) (Ab (Ac (Aa 1) (fB (Ab (Ac (Aa 0) (ia 1) ixD) Ad) A4) A9) Ad))) (unS 2 (AA (Au 7) (AA (Au 4) BL))))
 (Al (AE (Ab (AE (Ab (fC (.str "of")) (Ab (Aa 9) (Ab (Aa 7) Ad)))) (Ab (Aa 4) Ad))))))))))))
def ER(C3 MG:Fn):M Out:=
 (Ag (Ar 3 (Aj MG (Ab (Aa 0) (Ab (Aa 1) Ad))))
 (Ag (ifS (Hq (Ai (Ac (Ac (Aa 3) (ia 5) Bf) (ia 0) (eqS id))) (fOr (Ai (Ac (Aa 1) (ia 0) gtA)) (Ai (Ac (Ac (Ac (Aa 3) (ia 5) A9) (ia 4) Bf) (ia 0) (eqS id)))))
   (Al (AE (Ab (fC (.str "end")) Ad)))
   Aq)
 (Ag (Gp 4 (Bc Ad))
 (Ag (Ar 5 (Ac (AL (Bc (Ab (fC (.str "left")) (Ab (fC (.str "right")) Ad)))) (Ac (Ac (Aa 3) (ia 5) A9) (ia 2) Bf) ixD))
 (Ag (Ar 6 (Ac (ia 1) (Ac (Ac (Aa 3) (ia 10) A9) (ia 3) Bf) AZ))
 (Ag (Ar 3 (Ac (Aa 3) (ia 30) A9))
 (Ag (Dh (EA (fSl (AL (Bc (Ab (fC (.str "go")) (Ab (fC (.str "no")) (Ab (fC (.str "ask")) Ad))))) fNo (DX (Aa 6)) FS)) (Au 7)
   (Ag (Bw (Aj C3 (Ab (Aa 3) (Ab (ia 2) Ad))) (unS 2 (AA (Au 8) (AA (Au 3) BL))))
 (Ag (ownM 4 Cu (Ab (AE (Ab (Aa 7) (Ab (Aa 8) (Ab (Ac (Aa 3) (Aa 2) Bf) Ad)))) Ad))
 (Ar 3 (Ac (Aa 3) (Aa 2) A9)))))
 (Al (AE (Ab (Aa 5) (Ab (Aa 4) Ad)))))))))))
def Ed(MH:Fn):M Out:=
 (Al (AL (Ca 2 [0] (PQ (Ab (Aa 0) Ad)) (unS 2 (AA (Au 0) (AA (Au 1) BL))) EU (Aj MH (Ab (Aa 1) (Ab (Aa 0) (Ab (fB (Ab (Aa 2) Ad) A4) Ad)))))))
def Ha(Dx:Fn):M Out:=
 (B9 (Aj Dx (Ab (ia 0) Ad)))
def EL(EJ Ia:Fn):M Out:=
 (Ag (B9 (Aj Ia (Ab (Aa 0) (Ab (Aa 1) (Ab (AE (Ab (Aj EJ (Ab (Aa 2) Ad)) Ad)) Ad)))))
 (CB "side" (Aa 2) (Aa 0)))
def LI(Dx:Fn):M Out:=
 (B9 (Aj Dx (Ab (ia 1) Ad)))
def LH(Dx:Fn):M Out:=
 (B9 (Aj Dx (Ab (ia 2) Ad)))
def HW(Dx:Fn):M Out:=
 (B9 (Aj Dx (Ab (ia 3) Ad)))
def JV(Dx:Fn):M Out:=
 (B9 (Aj Dx (Ab (ia 4) Ad)))
def Ce(Dw:Fn):M Out:=
 (Ag (B9 (Aj Dw (Ab (Aa 0) (Ab (Aa 1) (Ab (Aa 2) Ad)))))
 (Ag (CB "said" (B5 (Bc Ad)) (Aa 0))
 (Ag (CB "taken" (ia 0) (Aa 0))
 (CB "handed" (ia 0) (Aa 0)))))
def Fv(Fo:Fn):M Out:=
 (Ag (CD 2 (AR "Lasting" Fo (Aa 0) (Ab (Aa 1) Ad)))
 (Ag (CB "taken" (Ac (Cv "taken" (Aa 0)) (fB (Ab (Aa 1) Ad) A4) AZ) (Aa 0))
 (Al (nxD (Aa 2)))))
def BA:M Out:=
 (Al (Cv "taken" (Aa 0)))
def Bl(Ic:Fn):M Out:=
 (Al (AL (Ga 1 [] (Lx (Aa 0)) (Au 0) EU (fIf (Ai (Aj Ic (Ab (Aa 0) Ad))) (Aa 0) (AE (Ab (Ac (Aa 0) (ia 0) ixD) (Ab (AL (fBF (Ab (Ac (Aa 0) (ia 1) ixD) Ad) Ds)) Ad)))))))
def EN(PK:Fn):M Out:=
 (Ag (B9 (objX (Ac (Cv "wires" (Aa 0)) (Aa 1) Az) (Ab (Aa 2) Ad)))
 (Ag (CD 3 (Aj PK (Ab (Cv "grammar" (Aa 0)) (Ab (Cv "standing" (Aa 0)) (Ab (Cv "wires" (Aa 0)) (Ab (Cv "places" (Aa 0)) Ad))))))
 (Ag (CB "standing" (Ac (Aa 3) (ia 1) ixD) (Aa 0))
 (Ag (CB "places" (Ac (Aa 3) (ia 2) ixD) (Aa 0))
 (Al (nxD (Ac (Aa 3) (ia 0) ixD)))))))
def Ef(Cc:Fn):M Out:=
 (GV (bnd (AL (Bc (Ab (Aa 1) Ad))) λx=>bnd (AL (D8 Cc (Ab (Ac (Ac (Ac (Aa 0) (ia 1) ixD) (Aa 1) ixD) (ia 1) ixD) (Ab (Aa 2) Ad)))) λy=>Ig x y))
def BV(FJ:Fn):M Out:=
 (Al (AR "Side" FJ (Aa 0) (Ab (Aa 1) (Ab (Aa 2) Ad))))
def Fw(Fo:Fn):M Out:=
 (Al (AR "Side" Fo (Aa 0) (Ab (Aa 1) Ad)))
def Db(JK MK MJ:Fn):M Out:=
 (Ag (Ar 3 (Ac (Cv "grammar" (Aa 0)) (Cv "standing" (Aa 0)) ixD))
 (Ag (Ar 4 (Aj MJ (Ab (Aa 3) (Ab (AE (Ab (Cv "side" (Aa 0)) (Ab (Aa 1) (Ab (Aa 2) Ad)))) Ad))))
 (Ag (ifS (Ai (Ac (Aa 4) (fC .non) isC))
   (IS "NoTalk" (Ab (ia 0) Ad))
   Aq)
 (Ag (CB "standing" (Aj MK (Ab (Cv "grammar" (Aa 0)) (Ab (AE (Ab (Cv "standing" (Aa 0)) (Ab (Aa 4) Ad))) Ad))) (Aa 0))
 (Al (nxD (B5 (D8 JK (Ab (Aa 3) (Ab (Aa 4) (Ab (Aa 2) Ad)))))))))))
def EO(EJ G0:Fn):M Out:=
 (Al (FL (AR "Lasting" G0 (Aa 0) (Ab (Aj EJ (Ab (Cv "side" (Aa 0)) Ad)) (Ab (Aa 1) Ad))) (AR "Side" G0 (Aa 0) (Ab (Aj EJ (Ab (Cv "side" (Aa 0)) Ad)) (Ab (Aa 1) Ad)))))
def Bz(FJ:Fn):M Out:=
 (Ag (CD 3 (AR "Lasting" FJ (Aa 0) (Ab (Aa 1) (Ab (Aa 2) Ad))))
 (Ag (B9 (objX (Cv "said" (Aa 0)) (Ab (Aa 3) Ad)))
 (Al (nxD (Aa 3)))))
def By(Cb:Fn):M Out:=
 (Ag (ifS (CK (Ai (Aj Cb (Ab (Aa 1) (Ab (Cv "handed" (Aa 0)) (Ab (fB (Ab (Cv "said" (Aa 0)) Ad) A4) Ad))))))
   (Gs "NoName" (Ab (fC (.str "no such ticket can be handed now")) Ad))
   Aq)
 (Ag (CB "handed" (Aa 1) (Aa 0))
 (Al (nxD (B5 (Ly (Cv "said" (Aa 0)) (DX (Aa 1)) fNo))))))
def Cs(Ln On:Fn):M Out:=
 (Ag (Ar 3 (fC .non))
 (Ag (Ar 4 (fC .non))
 (Ag (EF (CD 3 (FL (AR "Lasting" Ln (Aa 0) (Ab (Aa 1) (Ab (Aa 2) Ad))) (AR "Side" On (Aa 0) (Ab (Aa 1) (Ab (Aa 2) Ad))))) (hAs "NoTalk" 5 (Ar 4 (Aa 5)) NJ))
 (Ag (ifS (Ai (Ac (Aa 4) (fC .non) isC))
   (Al (AE (Ab (Aa 3) (Ab (fC .non) Ad))))
   Aq)
 (Al (AE (Ab (fC .non) (Ab (bnd (Aa 4) (FH "at")) Ad))))))))
def CJ(C5:Fn):M Out:=
 (Ag (ifS (Ai (Ac (Ac (Ac (Aa 0) (Aa 1) ixD) (ia 0) ixD) (Aa 2) (eqS λb=>!b)))
   (Al (AE (Ab (fC (.str "go")) (Ab (fC .non) Ad))))
   Aq)
 (Ag (Ar 4 (Ac (Ac (Aa 0) (Aa 1) ixD) (ia 1) ixD))
 (Ag (Bw (Ac (Aa 4) (Ac (Ac (Aa 3) (ia 4) A9) (fB (Ab (Aa 4) Ad) A4) Bf) ixD) (unS 3 (AA (Au 5) (AA (Au 6) (AA (Au 7) BL)))))
 (Ag (Ar 8 (Ac (Aj C5 (Ab (Aa 6) (Ab (Ac (Aa 3) (ia 16) A9) Ad))) (ia 0) ixD))
 (Ag (ifS (Ai (Ac (Ac (Aa 3) (ia 13) Bf) (ia 0) (eqS id)))
   (Al (AE (Ab (fC (.str "other")) (Ab (Aa 8) Ad))))
   Aq)
 (Ag (ifS (Ai (Ac (Ac (Aa 3) (ia 13) Bf) (ia 1) (eqS id)))
   (Al (AE (Ab (Aa 5) (Ab (fC (.str "abcdefgh")) Ad))))
   Aq)
 (Al (AE (Ab (Aa 5) (Ab (Aa 8) Ad))))))))))
def CP(Ib DW Lo:Fn):M Out:=
 (Ag (Bw (Aa 0) (unS 2 (AA (Au 5) (AA (Au 6) BL))))
 (Ag (Bw (Aj Lo (Ab (Aa 1) (Ab (AR "Side" DW (Aa 6) (ret [])) (Ab (Aa 2) (Ab (Aa 3) Ad))))) (unS 2 (AA (Au 7) (AA (Au 8) BL))))
 (Ag (Ar 9 (Aj Ib (Ab (Aa 5) (Ab (Aa 7) (Ab (Aa 8) Ad)))))
 (Ag (Ar 10 (Aj Ib (Ab (Aa 6) (Ab (Aa 7) (Ab (Aa 8) Ad)))))
 (Ag (ifS (fOr (Ai (Ac (Aa 9) (Aa 10) (eqT λb=>!b))) (Hq (CK (Ai (fB (Ab (Ac (Aa 9) (ia 0) ixD) (Ab (fC (.ty "list")) Ad)) JU))) (Ai (Ac (Aa 9) (AE (Ab (fC .non) (Ab (ia 0) Ad))) (eqS λb=>!b)))))
   (Al (fC (.bl false)))
   Aq)
 (Ag (ifS (Ai (Ac (Ac (Aa 9) (ia 0) ixD) (fC .non) Fd))
   (Ag (B9 (objX (Aa 4) (Ab (Ac (Aa 9) (ia 0) ixD) Ad)))
 (B9 (objM Cu (Ac (Aa 9) (ia 0) ixD) (Ab (ia 7) Ad))))
   Aq)
 (Al (fC (.bl true)))))))))
def Bm(Kn Nc:Fn):M Out:=
 (Ag (Ar 2 (fC .non))
 (Ag (Ar 3 (fC .non))
 (Ag (EF (CD 2 (FL (AR "Lasting" Kn (Aa 0) (Ab (Aa 1) Ad)) (AR "Side" Nc (Aa 0) (Ab (Aa 1) Ad)))) (hAs "ParleyError" 4 (Ar 3 (Aa 4)) NJ))
 (Ag (ifS (Ai (Ac (Aa 3) (fC .non) isC))
   (Al (AE (Ab (Aa 2) (Ab (fC .non) Ad))))
   Aq)
 (Al (AE (Ab (fC .non) (Ab (AL (Ca 1 [] (EA (AL (Bc (Ab (Aa 3) Ad)))) (Au 0) (Ai (bnd (Aa 0) (Iv "Broken"))) (AE (Ab (bnd (Aa 0) (FH "at")) (Ab (bnd (Aa 0) (FH "side")) Ad))))) Ad))))))))
def Cz(C4:Fn):M Out:=
 (Ag (Bw (Aa 0) (unS 2 (AA (Au 5) (AA (Au 6) BL))))
 (Ag (Ar 7 (Ac (AL (Bc (Ab (fB (Ab (Aa 2) Ad) A4) (Ab (ia 1) (Ab (Ac (Ac (Aa 1) (ia 12) A9) (Ac (fB (Ab (Aa 2) Ad) A4) (ia 1) AZ) Bf) Ad))))) (Ac (Ac (Aa 1) (ia 4) A9) (ia 3) Bf) ixD))
 (Ag (Ar 8 (B5 (Ly (Aa 2) fNo (DX (Aa 7)))))
 (Ag (ifS (Hq (Ai (Ac (Ac (Aa 1) (ia 8) Bf) (ia 7) (eqS id))) (Ai (Ac (Aa 8) (AL (Bc Ad)) (eqT λb=>!b))))
   (Bw (Ac (AL (Bc (Ab (ia 255) (Ab (ia 0) (Ab (Ac (Ac (Aa 1) (ia 72) A9) (ia 256) Bf) Ad))))) (Ac (Ac (Aa 1) (ia 8) A9) (ia 3) Bf) ixD) (stD (Aa 8) (Ac (Ac (Aa 1) (ia 24) A9) (fB (Ab (Aa 8) Ad) A4) Bf)))
   Aq)
 (Ag (Ar 9 (B5 (fBF (Ab (Aa 8) Ad) Ds)))
 (Ag (Bw (Aj C4 (Ab (Aa 5) (Ab (Aa 9) Ad))) (unS 2 (AA (Au 10) (AA (Au 11) BL))))
 (Ag (ifS (fOr (Ai (Ac (Aa 9) (Aa 8) (eqT λb=>!b))) (fOr (Ai (Ac (AE (Ab (Aa 10) (Ab (Aa 11) Ad))) (Aj C4 (Ab (Aa 6) (Ab (B5 (fBF (Ab (Aa 8) Ad) Ds)) Ad))) (eqT λb=>!b))) (Ai (Ac (Aa 11) (AL (Bc Ad)) (eqS id)))))
   (Al (fC .non))
   Aq)
 (Ag (B9 (objM Cu (Aa 9) (Ab (ia 7) Ad)))
 (Ag (ifS (Ai (Ac (Aa 10) (fC .non) isC))
   (Al (fUn (ia 1) IG))
   Aq)
 (Ag (B9 (objM Cu (Aa 10) (Ab (fC (.str "told")) Ad)))
 (Ag (B9 (objM Cu (Aa 4) (Ab (AE (Ab (Aa 10) (Ab (AL (fBF (Ab (Aa 10) Ad) Ds)) Ad))) Ad)))
 (Al (Ac (Aa 3) (fB (Ab (Aa 8) Ad) A4) AZ)))))))))))))
def BH(Cl:Fn):M Out:=
 (Ag (Ar 4 (fB (Ab (Aa 1) Ad) A4))
 (Ag (Ar 5 (Ac (AL (Bc (Ab (Aa 2) (Ab (Ac (Aa 2) (Ac (Ac (Aa 3) (ia 5) A9) (Ac (Ac (Aa 4) (Aa 2) Di) (ia 1) AZ) Bf) AZ) (Ab (Aa 4) (Ab (Ac (Aa 2) (ia 1) Di) (Ab (Ac (Aa 4) (ia 1) AZ) Ad))))))) (Ac (Aa 3) (ia 5) Bf) ixD))
 (Ag (Ar 6 (fC .non))
 (Ag (EF (CD 6 (AR "Lasting" Cl (Aa 0) (Ab (Aa 5) Ad))) (hNo "NoName" (Ar 6 (fC .non)) NJ))
 (Ag (ifS (fOr (Ai (Ac (Aa 5) (Aa 2) ltA)) (Ai (Ac (Aa 5) (Aa 4) gtA)))
   (Al (Ac (AL (Bc (Ab (Aa 2) (Ab (fC .non) Ad)))) (fB (Ab (Ac (Aa 6) (fC .non) Fd) Ad) LB) ixD))
   Aq)
 (Ag (ifS (Ai (Ac (Aa 6) (fSl (Aa 1) (DX (Aa 5)) fNo FS) (eqT λb=>!b)))
   (Al (fC .non))
   Aq)
 (Al (Aa 5))))))))
def CW(C4 Cl Dj:Fn):M Out:=
 (Ag (Bw (Aj C4 (Ab (Aa 0) (Ab (B5 (Bc Ad)) Ad))) (unS 2 (AA (Au 4) (AA (Au 5) BL))))
 (Ag (ifS (fOr (Ai (Ac (Aa 4) (fC .non) Fd)) (Ai (Ac (Aa 5) (AL (Bc Ad)) (eqS id))))
   (Al (fC (.bl false)))
   Aq)
 (Ag (ifS (fOr (Ai (Ac (AR "Lasting" Dj (Aa 0) (ret [])) (Aa 3) (eqS λb=>!b))) (Ai (Ac (AR "Lasting" (II Cl) (Aa 0) (Ab (Aa 2) Ad)) (fSl (Aa 1) (DX (Aa 2)) fNo FS) (eqT λb=>!b))))
   (Al (fC (.bl false)))
   Aq)
 (Ag (ifS (fOr (Ai (Ac (AR "Lasting" (II Cl) (Aa 0) (Ab (fB (Ab (Aa 1) Ad) A4) Ad)) (AL (Bc Ad)) (eqT λb=>!b))) (Ai (Ac (AR "Lasting" Dj (Aa 0) (ret [])) (Aa 3) (eqS λb=>!b))))
   (Al (fC (.bl false)))
   Aq)
 (Al (Fa (Ac (Aj C4 (Ab (Aa 0) (Ab (B5 (Bc Ad)) Ad))) (AE (Ab (fC .non) (Ab (Aa 5) Ad))) (eqS id)) (Ac (Aj C4 (Ab (Aa 0) (Ab (B5 (Bc (Ab (ia 0) Ad))) Ad))) (AE (Ab (fC .non) (Ab (Aa 5) Ad))) (eqS id))))))))
def Fg(Dw Fj:Fn):M Out:=
 (Ag (Ar 1 (B5 (Ca 1 [] (EA (Aa 0)) (Au 0) EU (fIf (Ai (Ac (fB (Ab (Aa 0) Ad) A4) (ia 1) gtA)) (AE (Ab (Ac (Aa 0) (ia 0) ixD) (Ab (B5 (fBF (Ab (Ac (Aa 0) (fUn (ia 1) IG) ixD) Ad) Ds)) Ad))) (Aa 0)))))
 (Ag (Ar 2 (Dk [("lastings",(Dk [("left",(FB "Lasting" Fj (Ab (Aa 1) (Ab (fC (.str "left")) Ad)))),("right",(FB "Lasting" Fj (Ab (Aa 1) (Ab (fC (.str "right")) Ad))))]))]))
 (Ag (KD (Lx (Aa 1)) (Au 3)
   (ifS (Ai (Ac (fB (Ab (Aa 3) Ad) A4) (ia 1) gtA))
   (B9 (NR (Ac (Aa 3) (ia 1) ixD)))
   Aq))
 (Ag (B9 (NR (Aa 1)))
 (Ag (Bw (Dk [("left",(FB "Side" Dw (Ab (AL (fBF (Ab (Aa 0) Ad) Ds)) (Ab (fC (.str "left")) Ad)))),("right",(FB "Side" Dw (Ab (AL (fBF (Ab (Aa 0) Ad) Ds)) (Ab (fC (.str "right")) Ad))))]) (CG (Aa 2) (fC (.str "sides"))))
 (Ag (Bw (Dk [("left",(B5 (Bc Ad))),("right",(B5 (Bc Ad)))]) (CG (Aa 2) (fC (.str "wires"))))
 (Ag (Bw (Dk [("left",(AL (Bc Ad))),("right",(AL (Bc Ad)))]) (CG (Aa 2) (fC (.str "spoken"))))
 (Ag (Bw (Dk [("left",(ia 0)),("right",(ia 0))]) (CG (Aa 2) (fC (.str "taken"))))
 (Ag (Bw (Dk [("left",(ia 0)),("right",(ia 0))]) (CG (Aa 2) (fC (.str "least"))))
 (Ag (Bw (B5 (Bc Ad)) (CG (Aa 2) (fC (.str "held"))))
 (Al (Aa 2))))))))))))
def FC(JJ Jv HV:Fn):M Out:=
 (Ag (Ar 5 (Ac (Ac (Aa 0) (fC (.str "lastings")) Az) (Aa 2) Az))
 (Ag (Ar 6 (Ac (Ac (Aa 0) (fC (.str "wires")) Az) (Aa 2) Az))
 (Ag (ifS (Ai (Ac (Ac (Aa 4) (ia 5) Bf) (ia 2) ltA))
   (Ag (Ar 7 (fB (Ab (Aa 6) Ad) A4))
 (Ag (ifS (CK (Ai (Aj JJ (Ab (AE (Ab (Aa 5) (Ab (Ac (Ac (Aa 0) (fC (.str "sides")) Az) (Aa 2) Az) Ad))) (Ab (Aa 1) (Ab (Aa 2) (Ab (Ac (Aa 4) (ia 5) A9) (Ab (Aa 6) Ad))))))))
   (Al (fC (.str "wrong")))
   Aq)
 (Bw (Ac (Ac (Ac (Aa 0) (fC (.str "spoken")) Az) (Aa 2) Az) (fSl (Aa 6) (DX (Aa 7)) fNo LV) AZ) (CG (Ac (Aa 0) (fC (.str "spoken")) Az) (Aa 2)))))
   (ifS (Ai (Ac (Ac (Aa 4) (ia 5) Bf) (ia 4) ltA))
   (Ag (Ar 8 (Ac (Ac (Aa 0) (fC (.str "taken")) Az) (Aa 2) Az))
 (Ag (Ar 9 (AE (Ab (Aa 5) (Ab (Ac (Ac (Aa 0) (fC (.str "sides")) Az) (Aa 2) Az) Ad))))
 (Ag (Ar 10 (Aj Jv (Ab (Aa 9) (Ab (Ac (Aa 4) (ia 5) A9) (Ab (Ac (Ac (Aa 0) (fC (.str "wires")) Az) (Aa 3) Az) (Ab (Aa 8) (Ab (Ac (Aa 0) (fC (.str "held")) Az) Ad)))))))
 (Ag (ifS (Ai (Ac (Aa 10) (fC .non) isC))
   (Al (fC (.str "wrong")))
   Aq)
 (Ag (ifS (Ai (Ac (Aa 10) (fUn (ia 1) IG) (eqS id)))
   (Al (fC (.str "broken")))
   Aq)
 (Ag (Bw (B5 (Ly (Ac (Ac (Aa 0) (fC (.str "wires")) Az) (Aa 3) Az) (DX (Ac (Aa 10) (Aa 8) Di)) fNo)) (CG (Ac (Aa 0) (fC (.str "wires")) Az) (Aa 3)))
 (Bw (Aa 10) (CG (Ac (Aa 0) (fC (.str "taken")) Az) (Aa 2)))))))))
   (Ag (Ar 11 (Aj HV (Ab (Aa 5) (Ab (Ac (Ac (Aa 0) (fC (.str "spoken")) Az) (Aa 2) Az) (Ab (Ac (Ac (Aa 0) (fC (.str "least")) Az) (Aa 2) Az) (Ab (Ac (Aa 4) (ia 5) A9) Ad))))))
 (Ag (ifS (Ai (Ac (Aa 11) (fC .non) isC))
   (Al (fC (.str "wrong")))
   Aq)
 (Bw (Aa 11) (CG (Ac (Aa 0) (fC (.str "least")) Az) (Aa 2)))))))
 (Al (fC (.str "good"))))))
def Es(DW MI Dj:Fn):M Out:=
 (Ag (Dh (EA (AL (Bc (Ab (fC (.str "left")) (Ab (fC (.str "right")) Ad))))) (Au 1)
   (Ag (Ar 2 (AR "Lasting" Dj (Ac (Ac (Aa 0) (fC (.str "lastings")) Az) (Aa 1) Az) (ret [])))
 (Ag (ifS (fOr (CK (Ai (Aj MI (Ab (Aa 2) Ad)))) (Ai (Ac (Aa 2) (Ac (Ac (Aa 0) (fC (.str "taken")) Az) (Aa 1) Az) (eqS λb=>!b))))
   (Al (fC (.bl false)))
   Aq)
 (ifS (Ai (Ac (AR "Lasting" DW (Ac (Ac (Aa 0) (fC (.str "lastings")) Az) (Aa 1) Az) (ret [])) (AR "Side" DW (Ac (Ac (Aa 0) (fC (.str "sides")) Az) (Aa 1) Az) (ret [])) (eqS λb=>!b)))
   (Al (fC (.bl false)))
   Aq))))
 (Al (fC (.bl true))))
def IC(Lp HU Op Nd GB Ko:Fn):M Out:=
 (Ag (Ar 1 (Aj Ko (Ab (AL (Ca 1 [0] (DY (Ab (Ac (ia 1) (Ac (Aj GB (Ab (Aa 0) (Ab (ia 0) Ad))) (ia 6) Bf) AZ) Ad)) (Au 0) EU (Aj GB (Ab (Aa 1) (Ab (Ac (ia 1) (Aa 0) AZ) Ad))))) Ad)))
 (Ag (Ar 2 (Aj Nd (Ab (Aa 1) Ad)))
 (Ag (Dh (EA (fSl (Aa 0) (DX (ia 8)) (DX (ia 56)) FS)) (Au 3)
   (Ag (Ar 4 (Ac (AL (Bc (Ab (fC (.str "left")) (Ab (fC (.str "right")) Ad)))) (Ac (Aa 3) (ia 2) Bf) ixD))
 (Ag (Ar 5 (Ac (AL (Bc (Ab (fC (.str "right")) (Ab (fC (.str "left")) Ad)))) (Ac (Aa 3) (ia 2) Bf) ixD))
 (Ag (Ar 6 (Aj Op (Ab (Aa 2) (Ab (Aa 1) (Ab (Aa 4) (Ab (Aa 5) (Ab (Ac (Aa 3) (ia 2) A9) Ad)))))))
 (Ag (ifS (Ai (Ac (Aa 6) (fC (.str "wrong")) (eqS id)))
   (Al (fC (.bl false)))
   Aq)
 (Ag (ifS (Ai (Ac (Aa 6) (fC (.str "broken")) (eqS id)))
   (Ag (Ar 7 (Ac (Ac (Aa 2) (fC (.str "spoken")) Az) (Aa 4) Az))
 (Al (Aj HU (Ab (Ac (Ac (Aa 2) (fC (.str "lastings")) Az) (Aa 4) Az) (Ab (Aa 7) (Ab (Ac (Ac (Aa 2) (fC (.str "least")) Az) (Aa 4) Az) (Ab (Ac (Ac (Aa 2) (fC (.str "taken")) Az) (Aa 4) Az) Ad)))))))
   Aq)
 (ifS (CK (Ai (Aj Lp (Ab (Aa 2) Ad))))
   (Al (fC (.bl false)))
   Aq)))))))
 (Al (Ac (AL (Ga 2 [] (Lx (Ac (Aa 2) (fC (.str "held")) Az)) (unS 2 (AA (Au 0) (AA (Au 1) BL))) (Ai (Ac (Aa 0) (Aa 1) (eqT λb=>!b))) (ia 1))) (AL (Bc Ad)) (eqS id))))))
end LW
namespace L2
open PySem
def W{α:Type}(m:M α)(t:T)(P:α->T->Prop):Prop:=∃a t',m t=some (a,t')/\P a t'
def Wf(g:Fn)(ds:List D)(S:List Ob)(P:D->List Ob->Prop):Prop:=∃r S',g ds S=some (r,S')/\P r S'
theorem W.mono{α:Type}{m:M α}{t:T}{P Q:α->T->Prop}(h:W m t P)(i:∀a t',P a t'->Q a t'):W m t Q:=by
 clear 5 h a t' e p;exact⟨a,t',e,i a t' p⟩
theorem Wf.mono{g:Fn}{ds:List D}{S:List Ob}{P Q:D->List Ob->Prop}(h:Wf g ds S P)(i:∀r S',P r S'->Q r S'):Wf g ds S Q:=by
 clear 5 h a t' e p;exact⟨a,t',e,i a t' p⟩
section
variable{α β:Type}
theorem Aw{m:M α}{t:T}{P:α->T->Prop}{a:α}{t':T}(e:m t=some (a,t')):W m t P↔P a t':=by
 constructor
 .rintro⟨a',t1,e',p⟩;rw[e] at e';cases e';exact p
 .exact λp=>⟨a,t',e,p⟩
theorem D4{m:M α}{t:T}{P:α->T->Prop}(e:m t=none):W m t P↔False:=by
 constructor
 .rintro⟨a',t1,e',p⟩;rw[e] at e';cases e'
 .exact False.elim
@[simp] theorem W_ret {a:α}{t:T}{P:α->T->Prop}:W (ret a) t P↔P a t:=Aw rfl
@[simp] theorem W_fail {t:T}{P:α->T->Prop}:W (fail:M α) t P↔False:=D4 rfl
@[simp] theorem W_bnd {f:M α}{g:α->M β}{t:T}{P:β->T->Prop}:W (bnd f g) t P↔W f t λa t1=>W (g a) t1 P:=by
 constructor
 .rintro⟨b,t',e,p⟩;clear 5(Af e)a t1 e1 e2;exact⟨a,t1,e1,b,t',e2,p⟩
 .rintro⟨a,t1,e1,b,t',e2,p⟩;exact⟨b,t',by unfold bnd;rw[e1];exact e2,p⟩
@[simp] theorem Vt {c:Prop} [Decidable c] {f g:M α}{t:T}{P:α->T->Prop}:W (if c then f else g) t P↔if c then W f t P else W g t P:=by split<;>rfl
@[simp] theorem gs {n:Nat}{a:α}{t:T}{P:α->T->Prop}:W (lim n a) t P↔n<=LIM/\P a t:=by
 unfold lim;constructor
 .rintro⟨a',t',e,p⟩
  split at e
  .cases e;exact⟨by assumption,p⟩
  .cases e
 .rintro⟨h,p⟩;exact⟨a,t,by simp only[h,lH],p⟩
end
section
variable{t:T}{env:List (Option Sl)}{S:List Ob}
@[simp] theorem W_fC {d:D}{P:D->T->Prop}:W (fC d) t P↔P d t:=Aw rfl
@[simp] theorem Q8 {i:Nat}{P:D->T->Prop}:W (Aa i) t P↔match t.env[i]? with
 |some (some (.val d))=>P d t
 |some (some (.own ds))=>P (.lst ds) ⟨t.env.set i (vw (.lst ds)),t.S⟩
 |_=>False:=by
 cases e:t.env[i]? with
 |none=>exact D4 (by unfold Aa;simp[e])
 |some o=>
   cases o with
   |none=>exact D4 (by unfold Aa;simp[e])
   |some sl=>
     cases sl with
     |val d=>exact Aw (by unfold Aa;simp[e])
     |own ds=>exact Aw (by unfold Aa;simp[e])
@[simp] theorem W_fBin {f g:M D}{h:D->D->M D}{P:D->T->Prop}:W (Ac f g h) t P↔W f t λx t1=>W g t1 λy t2=>W (h x y) t2 P:=by simp[Ac]
@[simp] theorem W_fUn {f:M D}{h:D->M D}{P:D->T->Prop}:W (fUn f h) t P↔W f t λx t1=>W (h x) t1 P:=by simp[fUn]
@[simp] theorem W_toB {b:Bool}{P:Bool->T->Prop}:W (toB (.bl b)) t P↔P b t:=Aw rfl
@[simp] theorem W_fTst {f:M D}{P:Bool->T->Prop}:W (Ai f) t P↔W f t λx t1=>W (toB x) t1 P:=by simp[Ai]
@[simp] theorem W_fChain {f g w:M D}{h h':D->D->M D}{P:D->T->Prop}:W (FE f g w h h') t P↔W f t λx t1=>W g t1 λy t2=>W (h x y) t2 λk t3=>W (toB k) t3 λk t4=>if k=true then W w t4 λz t5=>W (h' y z) t5 P else P (.bl false) t4:=by
 simp[FE]
@[simp] theorem W_fAnd {f g:M Bool}{P:Bool->T->Prop}:W (Hq f g) t P↔W f t λk t1=>if k=true then W g t1 P else P false t1:=by simp[Hq]
@[simp] theorem W_fOr {f g:M Bool}{P:Bool->T->Prop}:W (fOr f g) t P↔W f t λk t1=>if k=true then P true t1 else W g t1 P:=by simp[fOr]
@[simp] theorem W_fNot {f:M Bool}{P:Bool->T->Prop}:W (CK f) t P↔W f t λk t1=>P (!k) t1:=by simp[CK]
@[simp] theorem W_fAndV {f g:M D}{P:D->T->Prop}:W (Fa f g) t P↔W f t λx t1=>W (toB x) t1 λk t2=>if k=true then W g t2 P else P (.bl false) t2:=by simp[Fa]
@[simp] theorem gh {f g:M D}{P:D->T->Prop}:W (YK f g) t P↔W f t λx t1=>W (toB x) t1 λk t2=>if k=true then P (.bl true) t2 else W g t2 P:=by simp[YK]
@[simp] theorem W_fNotV {f:M D}{P:D->T->Prop}:W (Hr f) t P↔W f t λx t1=>W (toB x) t1 λk t2=>P (.bl (!k)) t2:=by simp[Hr]
@[simp] theorem W_fIf {f:M Bool}{g h:M D}{P:D->T->Prop}:W (fIf f g h) t P↔W f t λk t1=>if k=true then W g t1 P else W h t1 P:=by simp[fIf]
@[simp] theorem W_fNil {P:List D->T->Prop}:W Ad t P↔P [] t:=Aw rfl
@[simp] theorem W_fCons {f:M D}{g:M (List D)}{P:List D->T->Prop}:W (Ab f g) t P↔W f t λd t1=>W g t1 λds t2=>P (d::ds) t2:=by simp[Ab]
@[simp] theorem W_fTup {f:M (List D)}{P:D->T->Prop}:W (AE f) t P↔W f t λds t1=>ds.length<=LIM/\P (.tup ds) t1:=by simp[AE]
@[simp] theorem W_fLst {f:M (List D)}{P:List D->T->Prop}:W (Bc f) t P↔W f t λds t1=>ds.length<=LIM/\P ds t1:=by simp[Bc]
@[simp] theorem W_fPure {f:M (List D)}{P:D->T->Prop}:W (AL f) t P↔W f t λds t1=>P (.lst ds) t1:=by simp[AL]
@[simp] theorem W_newOb {o:Ob}{P:D->T->Prop}:W (Qh o) t P↔P (.obj t.S.length) ⟨t.env,t.S++[o]⟩:=Aw rfl
@[simp] theorem Yt {f:M (List D)}{P:D->T->Prop}:W (B5 f) t P↔W f t λds t1=>W (Qh (.lst ds)) t1 P:=by simp[B5]
@[simp] theorem W_fCall {g:Fn}{f:M (List D)}{P:D->T->Prop}:W (Aj g f) t P↔W f t λds t1=>Wf g ds t1.S λr S'=>P r ⟨t1.env,S'⟩:=by
 unfold Aj;rw[W_bnd];constructor
 .rintro⟨ds,t1,e1,r,t',e2,p⟩;refine⟨ds,t1,e1,?_⟩;dsimp only at e2
  cases e:g ds t1.S with
  |none=>rw[e] at e2;cases e2
  |some z=>clear 5 z r' S';rw[e] at e2;cases e2;exact⟨r,_,e,p⟩
 .rintro⟨ds,t1,e1,r,S',e2,p⟩;exact⟨ds,t1,e1,r,_,by simp only[e2],p⟩
@[simp] theorem W_fB {f:M (List D)}{h:List D->M D}{P:D->T->Prop}:W (fB f h) t P↔W f t λds t1=>W (h ds) t1 P:=by simp[fB]
@[simp] theorem W_fBF {f:M (List D)}{h:List D->M (List D)}{P:List D->T->Prop}:W (fBF f h) t P↔W f t λds t1=>W (h ds) t1 P:=by simp[fBF]
@[simp] theorem W_seqS {f g:M Out}{P:Out->T->Prop}:W (Ag f g) t P↔W f t λo t1=>match o with
 |.next=>W g t1 P
 |.brk=>P .brk t1
 |.cont=>P .cont t1
 |.ret d=>P (.ret d) t1:=by
 unfold Ag;constructor
 .rintro⟨o,t',e,p⟩;dsimp only at e
  cases e1:f t with
  |none=>rw[e1] at e;cases e
  |some z=>
    clear 5 z o1 t1;rw[e1] at e;refine⟨o1,t1,e1,?_⟩
    cases o1 with
    |next=>exact⟨o,t',e,p⟩
    |brk=>cases e;exact p
    |cont=>cases e;exact p
    |ret d=>cases e;exact p
 .rintro⟨o,t1,e,p⟩
  cases o with
  |next=>clear 5 p o t' e' p;exact⟨o,t',by simp only[e];exact e',p⟩
  |brk=>exact⟨_,_,by simp only[e],p⟩
  |cont=>exact⟨_,_,by simp only[e],p⟩
  |ret d=>exact⟨_,_,by simp only[e],p⟩
set_option tactic.hygienic true in
@[simp] theorem W_skipS {P:Out->T->Prop}:W Aq t P↔P .next t:=Aw rfl
@[simp] theorem W_retS {f:M D}{P:Out->T->Prop}:W (Al f) t P↔W f t λd t1=>P (.ret d) t1:=by simp[Al]
set_option tactic.hygienic true in
@[simp] theorem W_dropS {f:M D}{P:Out->T->Prop}:W (B9 f) t P↔W f t λd t1=>P .next t1:=by simp[B9]
@[simp] theorem W_ifS {f:M Bool}{g h:M Out}{P:Out->T->Prop}:W (ifS f g h) t P↔W f t λk t1=>if k=true then W g t1 P else W h t1 P:=by simp[ifS]
@[simp] theorem W_putV {i:Nat}{d:D}{P:Unit->T->Prop}:W (Au i d) t P↔P () ⟨t.env.set i (vw d),t.S⟩:=Aw rfl
@[simp] theorem W_setS {i:Nat}{f:M D}{P:Out->T->Prop}:W (Ar i f) t P↔W f t λd t1=>P .next ⟨t1.env.set i (vw d),t1.S⟩:=by
 simp only[Ar,W_bnd,W_ret,W_putV]
@[simp] theorem W_ownS {i:Nat}{f:M (List D)}{P:Out->T->Prop}:W (Gp i f) t P↔W f t λds t1=>P .next ⟨t1.env.set i (some (.own ds)),t1.S⟩:=by
 unfold Gp;rw[W_bnd];have:∀(ds:List D) (t1:T),W (λt:T=>some (Out.next,({t with env:=t.env.set i (some (.own ds))}:T))) t1 P↔P .next ⟨t1.env.set i (some (.own ds)),t1.S⟩:=λds t1=>Aw rfl;simp only[this]
set_option tactic.hygienic true in
@[simp] theorem W_asgS {f:M D}{g:D->M Unit}{P:Out->T->Prop}:W (Bw f g) t P↔W f t λd t1=>W (g d) t1 λ_ t2=>P .next t2:=by simp[Bw]
@[simp] theorem W_putNil {P:Unit->T->Prop}:W (BL []) t P↔P () t:=Aw rfl
@[simp] theorem W_putCons {f:D->M Unit}{g:List D->M Unit}{d:D}{ds:List D}{P:Unit->T->Prop}:W (AA f g (d::ds)) t P↔W (f d) t λ_ t1=>W (g ds) t1 P:=by simp[AA]
@[simp] theorem dC {n:Nat}{g:List D->M Unit}{ds:List D}{P:Unit->T->Prop}:W (unS n g (.lst ds)) t P↔ds.length=n/\W (g ds) t P:=by
 unfold unS;simp only[Vt,W_fail];split<;>simp[*]
@[simp] theorem W_unS_tup {n:Nat}{g:List D->M Unit}{ds:List D}{P:Unit->T->Prop}:W (unS n g (.tup ds)) t P↔ds.length=n/\W (g ds) t P:=by
 unfold unS;simp only[Vt,W_fail];split<;>simp[*]
@[simp] theorem W_forS {f:M (List D)}{st:D->M Unit}{b:M Out}{P:Out->T->Prop}:W (Dh f st b) t P↔W f t λds t1=>W (Dp st b ds) t1 P:=by simp[Dh]
set_option tactic.hygienic true
@[simp] theorem W_forL_nil {st:D->M Unit}{b:M Out}{P:Out->T->Prop}:W (Dp st b []) t P↔P .next t:=Aw rfl
theorem W_forL_cons{st:D->M Unit}{b:M Out}{d:D}{r:List D}{P:Out->T->Prop}:W (Dp st b (d::r)) t P↔W (st d) t λ_ t1=>W b t1 λo t2=>match o with
 |.next=>W (Dp st b r) t2 P
 |.cont=>W (Dp st b r) t2 P
 |.brk=>P .next t2
 |.ret x=>P (.ret x) t2:=by
 constructor
 .rintro⟨o,t',e,p⟩;unfold Dp at e
  cases e1:st d t with
  |none=>rw[e1] at e;cases e
  |some z=>
    clear 5 z u t1;rw[e1] at e
    try dsimp only at e
    refine⟨u,t1,e1,?_⟩
    cases e2:b t1 with
    |none=>rw[e2] at e;cases e
    |some z=>
      clear 5 z o2 t2;rw[e2] at e
      try dsimp only at e
      refine⟨o2,t2,e2,?_⟩
      cases o2 with
      |next=>exact⟨o,t',e,p⟩
      |cont=>exact⟨o,t',e,p⟩
      |brk=>cases e;exact p
      |ret x=>cases e;exact p
 .rintro⟨u,t1,e1,o,t2,e2,p⟩
  cases o with
  |next=>clear 5 p o t' e' p;exact⟨o,t',by unfold Dp;simp only[e1,e2];exact e',p⟩
  |cont=>clear 5 p o t' e' p;exact⟨o,t',by unfold Dp;simp only[e1,e2];exact e',p⟩
  |brk=>exact⟨_,_,by unfold Dp;simp only[e1,e2],p⟩
  |ret x=>exact⟨_,_,by unfold Dp;simp only[e1,e2],p⟩
theorem EI{st:D->M Unit}{b:M Out}{P:Out->T->Prop}(I:List D->T->Prop):∀(ds:List D) (t:T),I ds t->
 (∀d r t,I (d :: r) t->d∈ds->W (st d) t λ_ t1=>W b t1 λo t2=>match o with
   |.next=>I r t2
   |.cont=>I r t2
   |.brk=>P .next t2
   |.ret x=>P (.ret x) t2)->(∀t,I [] t->P .next t)->W (Dp st b ds) t P
 |[],t,h,_,fin=>W_forL_nil.mpr (fin t h)
 |d::r,t,h,turn,fin=>by
   rw[W_forL_cons];refine(turn d r t h ue1).mono λ_ t1 h1=>h1.mono λo t2 h2=>?_
   cases o with
   |next=>exact EI I r t2 h2 (λd' r' t' h' m=>turn d' r' t' h' (ud1 _ m)) fin
   |cont=>exact EI I r t2 h2 (λd' r' t' h' m=>turn d' r' t' h' (ud1 _ m)) fin
   |brk=>exact h2
   |ret x=>exact h2
set_option tactic.hygienic false
@[simp] theorem W_fComp {n:Nat}{fr:List Nat}{f:M (List D)}{st:D->M Unit}{tst:M Bool}{elt:M D}{P:List D->T->Prop}:W (Ca n fr f st tst elt) t P↔W f t λds t1=>W (B8 st tst elt ds) ⟨cenv n fr t1.env,t1.S⟩ λxs t'=>xs.length<=LIM/\P xs ⟨t1.env,t'.S⟩:=by
 unfold Ca;rw[W_bnd];constructor
 .rintro⟨ds,t1,e1,xs,t',e2,p⟩;refine⟨ds,t1,e1,?_⟩;dsimp only at e2
  cases e:B8 st tst elt ds ⟨cenv n fr t1.env,t1.S⟩ with
  |none=>rw[e] at e2;cases e2
  |some z=>
    clear 5 z ys t3;rw[e] at e2;dsimp only at e2
    split at e2
    .cases e2;exact⟨_,_,e,by assumption,p⟩
    .cases e2
 .rintro⟨ds,t1,e1,xs,t',e2,h,p⟩;exact⟨ds,t1,e1,xs,_,by simp only[e2,h,lH],p⟩
@[simp] theorem W_compL_nil {st:D->M Unit}{tst:M Bool}{elt:M D}{P:List D->T->Prop}:W (B8 st tst elt []) t P↔P [] t:=Aw rfl
theorem E6{st:D->M Unit}{tst:M Bool}{elt:M D}{d:D}{r:List D}{P:List D->T->Prop}:W (B8 st tst elt (d::r)) t P↔W (st d) t λ_ t1=>W tst t1 λk t2=>
 if k=true then W elt t2 λx t3=>W (B8 st tst elt r) t3 λxs t4=>P (x::xs) t4 else W (B8 st tst elt r) t2 P:=by
 rw[B8];simp
theorem Kh{st:D->M Unit}{tst:M Bool}{elt:M D}{P:List D->T->Prop}(I:List D->List D->T->Prop):∀(ds:List D) (acc:List D) (t:T),I acc ds t->
 (∀acc d r t,I acc (d::r) t->d∈ds->W (st d) t λ_ t1=>W tst t1 λk t2=>if k=true then W elt t2 λx t3=>I (acc++[x]) r t3 else I acc r t2)->
 (∀acc t,I acc [] t->P acc t)->W (B8 st tst elt ds) t λxs t'=>P (acc++xs) t'
 |[],acc,t,h,_,fin=>W_compL_nil.mpr (by rw[uh9];exact fin acc t h)
 |d::r,acc,t,h,turn,fin=>by
   rw[E6];have turn':∀acc d' r' t',I acc (d'::r') t'->d'∈r->_:=λacc d' r' t' h' m=>turn acc d' r' t' h' (ud1 _ m);refine(turn acc d r t h ue1).mono λ_ t1 h1=>h1.mono λk t2 h2=>?_
   cases k with
   |true=>
     rw[lJ rfl] at h2⊢;refine h2.mono λx t3 h3=>(Kh I r (acc++[x]) t3 h3 turn' fin).mono λxs t4 h4=>?_;rw[uf5] at h4;exact h4
   |false=>
     rw[lK ue2] at h2⊢;exact Kh I r acc t2 h2 turn' fin
theorem Am{n m:Nat}{g:M Out}{ds:List D}{P:D->List Ob->Prop}(h:ds.length=n)(w:W g ⟨env0 m ds,S⟩ λo t=>match o with
 |.ret r=>P r t.S
 |.next=>P .non t.S
 |_=>False):Wf (fnOf n m g) ds S P:=by
 clear 5 w o t e p
 cases o with
 |ret r=>exact⟨r,t.S,by unfold fnOf;rw[lJ h,e],p⟩
 |next=>exact⟨.non,t.S,by unfold fnOf;rw[lJ h,e],p⟩
 |brk=>exact p.elim
 |cont=>exact p.elim
@[simp] theorem W_tTru {P:Bool->T->Prop}:W EU t P↔P true t:=Aw rfl
@[simp] theorem gf {P:D->T->Prop}:W dQ t P↔P .dic t:=Aw rfl
end
section
variable{t:T}{P:D->T->Prop}
theorem Kj{α β:Type}{o:Option β}{g:β->α×T}{Q:α->T->Prop}{m:M α}(e:m t=o.map g):W m t Q↔∃b,o=some b/\Q (g b).1 (g b).2:=by
 constructor
 .rintro⟨a,t',e',p⟩;rw[e] at e';clear 5(uc2.mp e')b h1 h2;exact⟨b,h1,by rw[h2];exact p⟩
 .rintro⟨b,h,p⟩;exact⟨_,_,by rw[e,h];rfl,p⟩
theorem Tv{α:Type}{c:Prop}[Decidable c]{z:α×T}{Q:α->T->Prop}{m:M α}(e:m t=if c then some z else none):W m t Q↔c/\Q z.1 z.2:=by
 constructor
 .rintro⟨a,t',e',p⟩;rw[e] at e'
  split at e'
  .cases e';exact⟨by assumption,p⟩
  .cases e'
 .rintro⟨h,p⟩;exact⟨_,_,by rw[e,lJ h],p⟩
theorem M5{α β:Type}{o:Option β}(f:β->α){Q:α->T->Prop}{m:M α}(e:m t=o.map λb=>(f b,t)):W m t Q↔∃b,o=some b/\Q (f b) t:=Kj (g:=λb=>(f b,t)) e
theorem Ki{α:Type}{c:Prop}[Decidable c]{a:α}{Q:α->T->Prop}{m:M α}(e:m t=if c then some (a,t) else none):W m t Q↔c/\Q a t:=Tv (z:=(a,t)) e
@[simp] theorem W_ix_tup {ds:List D}{i:Int}:W (ixD (.tup ds) (.int i)) t P↔∃d,atI ds i=some d/\P d t:=M5 id rfl
@[simp] theorem W_ix_lst {ds:List D}{i:Int}:W (ixD (.lst ds) (.int i)) t P↔∃d,atI ds i=some d/\P d t:=M5 id rfl
@[simp] theorem W_ix_scr {ns:List Int}{i:Int}:W (ixD (.scr ns) (.int i)) t P↔∃n,atI ns i=some n/\P (.int n) t:=M5 D.int rfl
@[simp] theorem W_ix_str {x:Str}{i:Int}:W (ixD (.str x) (.int i)) t P↔x.length<=LIM/\∃n,atI x.cps.toList i=some n/\P (.str ⟨#[n]⟩) t:=by
 by_cases h:x.length<=LIM
 .have:ixD (.str x) (.int i) t=(atI x.cps.toList i).map λn=>(.str ⟨#[n]⟩,t):=by simp only[ixD,h,lH]
  rw[Kj this];simp[h]
 .rw[D4 (by simp only[ixD,h,lF])];simp[h]
@[simp] theorem W_ix_obj {k:Nat}{i:Int}:W (ixD (.obj k) (.int i)) t P↔∃ds,t.S[k]?=some (.lst ds)/\∃d,atI ds i=some d/\P d t:=by
 cases e:t.S[k]? with
 |none=>rw[D4 (by simp only[ixD,e])];simp
 |some o=>
   cases o with
   |dct _|ins _ _=>rw[D4 (by simp only[ixD,e])];simp
   |lst ds=>
     have:ixD (.obj k) (.int i) t=(atI ds i).map λd=>(d,t):=by simp only[ixD,e]
     rw[Kj this];simp
@[simp] theorem Hl {α:Type}{a:α}{r:List α}:atI (a::r) 0=some a:=by simp[atI,ixN]
@[simp] theorem Vw {α:Type}{a b:α}{r:List α}:atI (a::b::r) 1=some b:=by
 have:(1:Int)<((a::b::r).length:Nat):=by simp;lia
 simp only[atI,ixN,this,lH,show(0:Int)<=1 by decide];rfl
@[simp] theorem Vx {α:Type}{a b c:α}{r:List α}:atI (a::b::c::r) 2=some c:=by
 have:(2:Int)<((a::b::c::r).length:Nat):=by simp;lia
 simp only[atI,ixN,this,lH,show(0:Int)<=2 by decide];rfl
@[simp] theorem W_len_lst {ds:List D}:W (A4 [.lst ds]) t P↔P (.int ds.length) t:=Aw rfl
@[simp] theorem W_len_tup {ds:List D}:W (A4 [.tup ds]) t P↔P (.int ds.length) t:=Aw rfl
@[simp] theorem W_len_scr {ds:List Int}:W (A4 [.scr ds]) t P↔P (.int ds.length) t:=Aw rfl
@[simp] theorem W_len_str {x:Str}:W (A4 [.str x]) t P↔x.length<=LIM/\P (.int x.length) t:=by simp[A4]
@[simp] theorem W_len_obj {k:Nat}:W (A4 [.obj k]) t P↔∃ds,t.S[k]?=some (.lst ds)/\P (.int ds.length) t:=by
 cases e:t.S[k]? with
 |none=>rw[D4 (by simp only[A4,e])];simp
 |some o=>
   cases o with
   |dct _|ins _ _=>rw[D4 (by simp only[A4,e])];simp
   |lst ds=>rw[Aw (a:=.int ds.length) (t':=t) (by simp only[A4,e])];simp
@[simp] theorem W_isi {d:D}{m:String}:W (CY [d,.ty m]) t P↔∃n,tyD d=some n/\∃b,Ge n m=some b/\P (.bl b) t:=by
 cases e:tyD d with
 |none=>rw[D4 (by simp only[CY,e])];simp
 |some n=>
   have:CY [d,.ty m] t=(Ge n m).map λb=>(.bl b,t):=by simp only[CY,e]
   rw[Kj this];simp
noncomputable def KI:D->Bool
 |.non=>true
 |_=>false
noncomputable def d7(b:Bool):D->Bool
 |.bl c=>c==b
 |_=>false
@[simp] theorem W_is_non {x:D}:W (isC x .non) t P↔P (.bl (KI x)) t:=Aw (by cases x<;>rfl)
@[simp] theorem gb {x:D}{b:Bool}:W (isC x (.bl b)) t P↔P (.bl (d7 b x)) t:=Aw (by cases x<;>rfl)
@[simp] theorem W_isNot {x y:D}:W (Fd x y) t P↔W (isC x y) t λd t1=>W (toB d) t1 λb t2=>P (.bl (!b)) t2:=by
 unfold Fd;rw[W_bnd];constructor
 .exact λh=>h.mono λd t1 h1=>by
   cases d with
   |bl b=>simpa using h1
   |_=>exact(W_fail.mp h1).elim
 .exact λh=>h.mono λd t1 h1=>by
   cases d with
   |bl b=>simpa using h1
   |_=>obtain⟨_,_,e,_⟩:=h1;cases e
@[simp] theorem W_add_int {i j:Int}:W (AZ (.int i) (.int j)) t P↔P (.int (i+j)) t:=Aw rfl
@[simp] theorem W_sub_int {i j:Int}:W (Di (.int i) (.int j)) t P↔P (.int (i-j)) t:=Aw rfl
@[simp] theorem W_lt_int {i j:Int}:W (ltA (.int i) (.int j)) t P↔P (.bl (decide (i<j))) t:=Aw rfl
@[simp] theorem W_le_int {i j:Int}:W (leA (.int i) (.int j)) t P↔P (.bl (decide (i<=j))) t:=Aw rfl
@[simp] theorem W_gt_int {i j:Int}:W (gtA (.int i) (.int j)) t P↔P (.bl (decide (j<i))) t:=Aw rfl
@[simp] theorem W_ge_int {i j:Int}:W (geA (.int i) (.int j)) t P↔P (.bl (decide (j<=i))) t:=Aw rfl
@[simp] theorem dI {i j:Str}:W (ltA (.str i) (.str j)) t P↔P (.bl (decide (i.cps.toList<j.cps.toList))) t:=Aw rfl
@[simp] theorem dG {i j:Str}:W (gtA (.str i) (.str j)) t P↔P (.bl (decide (j.cps.toList<i.cps.toList))) t:=Aw rfl
@[simp] theorem W_neg {i:Int}:W (IG (.int i)) t P↔P (.int (-i)) t:=Aw rfl
@[simp] theorem W_fdiv {i j:Int}:W (A9 (.int i) (.int j)) t P↔(0<j/\j<1073741824)/\P (.int (i/j)) t:=by
 rw[Tv (m:=A9 (.int i) (.int j)) (c:=MQ i j=true) (z:=(.int (i/j),t)) rfl];simp[MQ]
@[simp] theorem W_mod {i j:Int}:W (Bf (.int i) (.int j)) t P↔0<j/\P (.int (i%j)) t:=by
 rw[Tv (m:=Bf (.int i) (.int j)) (c:=decide (0<j)=true) (z:=(.int (i%j),t)) rfl];simp
@[simp] theorem W_pow {i j:Int}:W (NX (.int i) (.int j)) t P↔MV i j=true/\P (.int (i ^ j.toNat)) t:=Ki rfl
@[simp] theorem W_mul_int {i j:Int}:W (EC (.int i) (.int j)) t P↔FV i j=true/\P (.int (i*j)) t:=Ki rfl
theorem WS{i j:Int}(h1 : -18446744073709551616<i)(h2:i<18446744073709551616):FV i j=true:=by simp[FV,h1,h2]
theorem O3{i j:Int}(h1 : -18446744073709551616<j)(h2:j<18446744073709551616):FV i j=true:=by simp[FV,h1,h2]
theorem DO{k:Int}(h1 : -4611686018427387904<=k)(h2:k<4611686018427387904):DN k=true:=by simp[DN,h1,h2]
@[simp] theorem W_add_str {x y:Str}:W (AZ (.str x) (.str y)) t P↔x.length+y.length<=LIM/\P (.str (x++y)) t:=by
 have:AZ (.str x) (.str y)=lim (x.length+y.length) (.str (x++y)):=rfl;rw[this];simp
@[simp] theorem W_add_lst {x y:List D}:W (AZ (.lst x) (.lst y)) t P↔x.length+y.length<=LIM/\P (.lst (x++y)) t:=by
 have:AZ (.lst x) (.lst y)=lim (x.length+y.length) (.lst (x++y)):=rfl;rw[this];simp
@[simp] theorem W_cat {x y:List D}{Q:List D->T->Prop}:W (Ig (.lst x) (.lst y)) t Q↔x.length+y.length<=LIM/\Q (x++y) t:=by
 have:Ig (.lst x) (.lst y)=lim (x.length+y.length) (x++y):=rfl;rw[this];simp
@[simp] theorem gq {i:Int}:W (dJ [.int i]) t P↔P (.int (if i<0 then -i else i)) t:=Aw rfl
@[simp] theorem gA {i j:Int}:W (ee [.int i,.int j]) t P↔P (.int (if j<i then j else i)) t:=Aw rfl
@[simp] theorem gu {i j:Int}:W (d9 [.int i,.int j]) t P↔P (.int (if j > i then j else i)) t:=Aw rfl
@[simp] theorem dr {i:Int}:W (LB [.int i]) t P↔P (.int i) t:=Aw rfl
@[simp] theorem W_int_bl {b:Bool}:W (LB [.bl b]) t P↔P (.int (if b then 1 else 0)) t:=Aw rfl
@[simp] theorem W_ord {x:Str}:W (JY [.str x]) t P↔x.length=1/\P (.int (x.cps.getD 0 0:Nat)) t:=Ki rfl
@[simp] theorem dB {ds:List D}:W (eZ [.lst ds]) t P↔P (.tup ds) t:=Aw rfl
@[simp] theorem W_lst_lst {ds:List D}{Q:List D->T->Prop}:W (Ds [.lst ds]) t Q↔Q ds t:=Aw rfl
@[simp] theorem dA {ds:List D}{Q:List D->T->Prop}:W (Ds [.tup ds]) t Q↔Q ds t:=Aw rfl
@[simp] theorem W_eq_str {g:Bool->Bool}{x y:Str}:W (eqS g (.str x) (.str y)) t P↔P (.bl (g (x==y))) t:=Aw rfl
@[simp] theorem W_eq_int {g:Bool->Bool}{x y:Int}:W (eqS g (.int x) (.int y)) t P↔P (.bl (g (x==y))) t:=Aw rfl
@[simp] theorem fZ {g:Bool->Bool}{x y:Bool}:W (eqS g (.bl x) (.bl y)) t P↔P (.bl (g (x==y))) t:=Aw rfl
@[simp] theorem W_eq_nil {g:Bool->Bool}{x:List D}:W (eqS g (.lst x) (.lst [])) t P↔P (.bl (g x.isEmpty)) t:=by
 refine Aw ?_
 cases x<;>rfl
theorem IH{a b:String}:Str.ofString a=Str.ofString b↔a=b:=by
 constructor
 .intro h;rw[Str.ofString_eq_toList,Str.ofString_eq_toList] at h;injection h with h
  have h:=lD Array.toList h;simp only at h;have hinj:∀xs ys:List Char,xs.map Char.toNat=ys.map Char.toNat->xs=ys:=by
   intro xs
   induction xs with
   |nil=>intro ys h;cases ys with|nil=>rfl|cons _ _=>simp at h
   |cons x xs ih=>
     intro ys h
     cases ys with
     |nil=>simp at h
     |cons y ys=>
       simp only[uj8,List.cons.injEq] at h;rw[ih ys h.2,Char.toNat_inj.mp h.1]
  exact String.toList_inj.mp (hinj _ _ (by simpa using h))
 .exact λh=>by rw[h]
@[simp] theorem Zy {a b:String}:(Str.ofString a==Str.ofString b)=(a==b):=by
 rw[Bool.eq_iff_iff,lv,lv,IH]
@[simp] theorem W_sl_lst {ds:List D}{lo hi:Option Int}:W (FS (.lst ds) lo hi) t P↔P (.lst (BZ ds lo hi)) t:=Aw rfl
@[simp] theorem W_sl_scr {ds:List Int}{lo hi:Option Int}:W (FS (.scr ds) lo hi) t P↔P (.lst ((BZ ds lo hi).map .int)) t:=Aw rfl
@[simp] theorem W_fSl {f:M D}{l u:M (Option Int)}{h:D->Option Int->Option Int->M D}:W (fSl f l u h) t P↔W f t λx t1=>W l t1 λlo t2=>W u t2 λhi t3=>W (h x lo hi) t3 P:=by simp[fSl]
@[simp] theorem W_fNo {Q:Option Int->T->Prop}:W fNo t Q↔Q none t:=Aw rfl
@[simp] theorem W_asI {i:Int}{Q:Option Int->T->Prop}:W (asI (.int i)) t Q↔Q (some i) t:=Aw rfl
@[simp] theorem W_fPart {f:M D}{Q:Option Int->T->Prop}:W (DX f) t Q↔W f t λx t1=>W (asI x) t1 Q:=by simp[DX]
@[simp] theorem W_fItA {f:M D}{Q:List D->T->Prop}:W (EA f) t Q↔W f t λx t1=>W (Ec x) t1 Q:=by simp[EA]
@[simp] theorem W_it_lst {ds:List D}{Q:List D->T->Prop}:W (Ec (.lst ds)) t Q↔Q ds t:=Aw rfl
@[simp] theorem W_it_tup {ds:List D}{Q:List D->T->Prop}:W (Ec (.tup ds)) t Q↔Q ds t:=Aw rfl
@[simp] theorem dH {ds:List Int}{Q:List D->T->Prop}:W (Ec (.scr ds)) t Q↔Q (ds.map .int) t:=Aw rfl
@[simp] theorem W_it_str {x:Str}{Q:List D->T->Prop}:W (Ec (.str x)) t Q↔Q (x.cps.toList.map λc=>.str ⟨#[c]⟩) t:=Aw rfl
@[simp] theorem W_fRng1 {f:M (List D)}{Q:List D->T->Prop}:W (DY f) t Q↔W f t λx t1=>W (LQ x) t1 Q:=by simp[DY]
@[simp] theorem W_fRng2 {f:M (List D)}{Q:List D->T->Prop}:W (Hs f) t Q↔W f t λx t1=>W (LR x) t1 Q:=by simp[Hs]
@[simp] theorem W_rng1 {j:Int}{Q:List D->T->Prop}:W (LQ [.int j]) t Q↔DN j=true/\Q (Bx 0 j.toNat) t:=Ki rfl
@[simp] theorem W_rng2 {i j:Int}{Q:List D->T->Prop}:W (LR [.int i,.int j]) t Q↔(DN i&&DN j)=true/\Q (Bx i (j-i).toNat) t:=Ki rfl
set_option tactic.hygienic true in
@[simp] theorem W_ownM {i:Nat}{h:List D->List D->Option (List D)}{g:M (List D)}{Q:Out->T->Prop}:W (ownM i h g) t Q↔(∃xs,t.env[i]?=some (some (.own xs)))/\W g t λds t1=>∃xs,t1.env[i]?=some (some (.own xs))/\∃ys,h xs ds=some ys/\Q .next ⟨t1.env.set i (some (.own ys)),t1.S⟩:=by
 constructor
 .rintro⟨o,t',e,p⟩;unfold ownM at e
  split at e
  .next xs e0=>
   refine⟨⟨xs,e0⟩,?_⟩;clear 5(Af e)ds t1 e1 e;refine⟨ds,t1,e1,?_⟩
   split at e
   .next ys e2=>
    clear 5(uc2.mp e)zs e3 e4
    cases e4
    exact⟨ys,e2,zs,e3,p⟩
   .cases e
  .cases e
 .rintro⟨⟨xs,e0⟩,ds,t1,e1,ys,e2,zs,e3,p⟩;exact⟨_,_,by unfold ownM bnd;simp only[e0,e1,e2,e3,ui6],p⟩
@[simp] theorem app1_one {xs:List D}{d:D}{ys:List D}:Cu xs [d]=some ys↔xs.length<LIM/\xs++[d]=ys:=by
 unfold Cu;split<;>simp[*]
@[simp] theorem W_stD {f g:M D}{d:D}{Q:Unit->T->Prop}:W (stD f g d) t Q↔W f t λo t1=>W g t1 λi t2=>W (GW o i d) t2 Q:=by simp[stD]
@[simp] theorem W_stOb {k:Nat}{j:Int}{d:D}{Q:Unit->T->Prop}:W (GW (.obj k) (.int j) d) t Q↔∃xs,t.S[k]?=some (.lst xs)/\∃n,ixN xs.length j=some n/\Q () ⟨t.env,t.S.set k (.lst (xs.set n d))⟩:=by
 cases e:t.S[k]? with
 |none=>rw[D4 (by simp only[GW,e])];simp
 |some o=>
   cases o with
   |dct _|ins _ _=>rw[D4 (by simp only[GW,e])];simp
   |lst ds=>
     have:GW (.obj k) (.int j) d t=(ixN ds.length j).map λn=>((),{t with S:=t.S.set k (.lst (ds.set n d))}):=by simp only[GW,e]
     rw[Kj this];simp
end
section
variable{t:T}{P:D->T->Prop}{Q:List D->T->Prop}{R:Out->T->Prop}{B:Bool->T->Prop}{U:Unit->T->Prop}
def Gf(k:Bool)(A B:Prop):Prop:=if k=true then A else B
theorem Fe{k:Bool}{A B:Prop}(h:k=true)(a:A):Gf k A B:=by unfold Gf;rw[lJ h];exact a
theorem DV{k:Bool}{A B:Prop}(h:k=false)(b:B):Gf k A B:=by unfold Gf;rw[lK (by rw[h];exact ue2)];exact b
theorem CZ{k:Bool}{A B:Prop}(a:k=true->A)(b:k=false->B):Gf k A B:=by cases h:k with
 |true=>exact Fe rfl (a h)
 |false=>exact DV rfl (b h)
def DM(g:M Out)(R:Out->T->Prop)(o:Out)(t1:T):Prop:=match o with
 |.next=>W g t1 R
 |o=>R o t1
variable{t1:T}
set_option tactic.hygienic true in
theorem BM{g:M Out}(h:W g t1 R):DM g R .next t1:=h
theorem U7{g:M Out}{d:D}(h:R (.ret d) t1):DM g R (.ret d) t1:=h
theorem IY{f g:M Out}(h:W f t (DM g R)):W (Ag f g) t R:=W_seqS.mpr (h.mono λo t1 h1=>by cases o<;>exact h1)
set_option tactic.hygienic true in
theorem QT(h:R .next t):W Aq t R:=W_skipS.mpr h
variable{f:M D}
theorem aU(h:W f t λd t1=>R (.ret d) t1):W (Al f) t R:=W_retS.mpr h
set_option tactic.hygienic true in
theorem cI(h:W f t λd t1=>R .next t1):W (B9 f) t R:=W_dropS.mpr h
theorem wIf{f:M Bool}{g h:M Out}(w:W f t λk t1=>Gf k (W g t1 R) (W h t1 R)):W (ifS f g h) t R:=W_ifS.mpr w
theorem fQ{i:Nat}(h:W f t λd t1=>R .next ⟨t1.env.set i (vw d),t1.S⟩):W (Ar i f) t R:=W_setS.mpr h
theorem fO{i:Nat}{f:M (List D)}(h:W f t λd t1=>R .next ⟨t1.env.set i (some (.own d)),t1.S⟩):W (Gp i f) t R:=W_ownS.mpr h
set_option tactic.hygienic true in
theorem fg{g:D->M Unit}(h:W f t λd t1=>W (g d) t1 λ_ t2=>R .next t2):W (Bw f g) t R:=W_asgS.mpr h
theorem fk{f:M (List D)}{st:D->M Unit}{b:M Out}(h:W f t λds t1=>W (Dp st b ds) t1 R):W (Dh f st b) t R:=W_forS.mpr h
theorem wC{d:D}(h:P d t):W (fC d) t P:=W_fC.mpr h
theorem FT{i:Nat}{d:D}(e:t.env[i]?=some (vw d))(h:P d t):W (Aa i) t P:=by rw[Q8,e];exact h
variable{ds:List D}
theorem dj{i:Nat}(e:t.env[i]?=some (some (.own ds)))(h:P (.lst ds) ⟨t.env.set i (vw (.lst ds)),t.S⟩):W (Aa i) t P:=by rw[Q8,e];exact h
variable{g:M D}
theorem LY{h:D->D->M D}(w:W f t λx t1=>W g t1 λy t2=>W (h x y) t2 P):W (Ac f g h) t P:=W_fBin.mpr w
theorem wUn{h:D->M D}(w:W f t λx t1=>W (h x) t1 P):W (fUn f h) t P:=W_fUn.mpr w
theorem BR{α β:Type}{f:M α}{g:α->M β}{K:β->T->Prop}(w:W f t λx t1=>W (g x) t1 K):W (bnd f g) t K:=W_bnd.mpr w
theorem QW{b:Bool}(h:B b t):W (toB (.bl b)) t B:=W_toB.mpr h
theorem QX(h:W f t λx t1=>W (toB x) t1 B):W (Ai f) t B:=W_fTst.mpr h
theorem aL{w:M D}{h h':D->D->M D}(q:W f t λx t1=>W g t1 λy t2=>W (h x y) t2 λk t3=>W (toB k) t3 λk t4=>Gf k (W w t4 λz t5=>W (h' y z) t5 P) (P (.bl false) t4)):W (FE f g w h h') t P:=W_fChain.mpr q
theorem fb{f g:M Bool}(h:W f t λk t1=>Gf k (W g t1 B) (B false t1)):W (Hq f g) t B:=W_fAnd.mpr h
theorem wOr{f g:M Bool}(h:W f t λk t1=>Gf k (B true t1) (W g t1 B)):W (fOr f g) t B:=W_fOr.mpr h
theorem fM{f:M Bool}(h:W f t λk t1=>B (!k) t1):W (CK f) t B:=W_fNot.mpr h
theorem cB(h:W f t λx t1=>W (toB x) t1 λk t2=>Gf k (W g t2 P) (P (.bl false) t2)):W (Fa f g) t P:=W_fAndV.mpr h
theorem cY(h:W f t λx t1=>W (toB x) t1 λk t2=>P (.bl (!k)) t2):W (Hr f) t P:=W_fNotV.mpr h
theorem fw{f:M Bool}{h:M D}(w:W f t λk t1=>Gf k (W g t1 P) (W h t1 P)):W (fIf f g h) t P:=W_fIf.mpr w
theorem IW(h:Q [] t):W Ad t Q:=W_fNil.mpr h
theorem Ey{g:M (List D)}(h:W f t λd t1=>W g t1 λds t2=>Q (d::ds) t2):W (Ab f g) t Q:=W_fCons.mpr h
def HA(n:Nat)(A:Prop):Prop:=n<=LIM/\A
variable{n:Nat}
theorem DF{A:Prop}(h:n<=LIM)(a:A):HA n A:=⟨h,a⟩
theorem fW{f:M (List D)}(h:W f t λds t1=>HA ds.length (P (.tup ds) t1)):W (AE f) t P:=W_fTup.mpr h
theorem fJ{f:M (List D)}(h:W f t λds t1=>HA ds.length (Q ds t1)):W (Bc f) t Q:=W_fLst.mpr h
theorem c9{f:M (List D)}(h:W f t λds t1=>P (.lst ds) t1):W (AL f) t P:=W_fPure.mpr h
theorem fN{f:M (List D)}(h:W f t λds t1=>P (.obj t1.S.length) ⟨t1.env,t1.S++[.lst ds]⟩):W (B5 f) t P:=by rw[Yt];exact h.mono λds t1 h=>W_newOb.mpr h
theorem La{g:Fn}{f:M (List D)}(h:W f t λds t1=>Wf g ds t1.S λr S'=>P r ⟨t1.env,S'⟩):W (Aj g f) t P:=W_fCall.mpr h
theorem wB{f:M (List D)}{h:List D->M D}(w:W f t λds t1=>W (h ds) t1 P):W (fB f h) t P:=W_fB.mpr w
theorem wBF{f:M (List D)}{h:List D->M (List D)}(w:W f t λds t1=>W (h ds) t1 Q):W (fBF f h) t Q:=W_fBF.mpr w
theorem Ke{i:Nat}{d:D}(h:U () ⟨t.env.set i (vw d),t.S⟩):W (Au i d) t U:=W_putV.mpr h
theorem Yb(h:U () t):W (BL []) t U:=W_putNil.mpr h
theorem Vo{f:D->M Unit}{g:List D->M Unit}{d:D}(h:W (f d) t λ_ t1=>W (g ds) t1 U):W (AA f g (d::ds)) t U:=W_putCons.mpr h
theorem fX{g:List D->M Unit}(e:ds.length=n)(h:W (g ds) t U):W (unS n g (.tup ds)) t U:=W_unS_tup.mpr ⟨e,h⟩
theorem cH{fr:List Nat}{f:M (List D)}{st:D->M Unit}{tst:M Bool}{elt:M D}(h:W f t λds t1=>W (B8 st tst elt ds) ⟨cenv n fr t1.env,t1.S⟩ λxs t'=>HA xs.length (Q xs ⟨t1.env,t'.S⟩)):W (Ca n fr f st tst elt) t Q:=W_fComp.mpr h
theorem aX(h:B true t):W EU t B:=W_tTru.mpr h
theorem Gz{i:Int}{d:D}(e:atI ds i=some d)(h:P d t):W (ixD (.tup ds) (.int i)) t P:=W_ix_tup.mpr ⟨d,e,h⟩
theorem BJ{i:Int}{d:D}(e:atI ds i=some d)(h:P d t):W (ixD (.lst ds) (.int i)) t P:=W_ix_lst.mpr ⟨d,e,h⟩
theorem QN(h:P (.int ds.length) t):W (A4 [.lst ds]) t P:=W_len_lst.mpr h
theorem V2(h:P (.int ds.length) t):W (A4 [.tup ds]) t P:=W_len_tup.mpr h
theorem cW{ds:List Int}(h:P (.int ds.length) t):W (A4 [.scr ds]) t P:=W_len_scr.mpr h
theorem FX{k:Nat}(e:t.S[k]?=some (.lst ds))(h:P (.int ds.length) t):W (A4 [.obj k]) t P:=W_len_obj.mpr ⟨ds,e,h⟩
theorem V1{x:Str}(e:x.length<=LIM)(h:P (.int x.length) t):W (A4 [.str x]) t P:=W_len_str.mpr ⟨e,h⟩
theorem fy{d:D}{m n:String}{b:Bool}(e:tyD d=some n)(e':Ge n m=some b)(h:P (.bl b) t):W (CY [d,.ty m]) t P:=W_isi.mpr ⟨n,e,b,e',h⟩
theorem fx{x:D}(h:P (.bl (KI x)) t):W (isC x .non) t P:=W_is_non.mpr h
theorem aS{x y:D}(h:W (isC x y) t λd t1=>W (toB d) t1 λb t2=>P (.bl (!b)) t2):W (Fd x y) t P:=W_isNot.mpr h
variable{j:Int}
theorem cy{i:Int}(h:P (.int (i+j)) t):W (AZ (.int i) (.int j)) t P:=W_add_int.mpr h
theorem dg{i:Int}(h:P (.int (i-j)) t):W (Di (.int i) (.int j)) t P:=W_sub_int.mpr h
theorem fK{i:Int}(h:P (.bl (decide (i<j))) t):W (ltA (.int i) (.int j)) t P:=W_lt_int.mpr h
theorem fH{i:Int}(h:P (.bl (decide (i<=j))) t):W (leA (.int i) (.int j)) t P:=W_le_int.mpr h
theorem ft{i:Int}(h:P (.bl (decide (j<i))) t):W (gtA (.int i) (.int j)) t P:=W_gt_int.mpr h
theorem fq{i:Int}(h:P (.bl (decide (j<=i))) t):W (geA (.int i) (.int j)) t P:=W_ge_int.mpr h
theorem fL{i:Int}(h:P (.int (-i)) t):W (IG (.int i)) t P:=W_neg.mpr h
theorem Kc{i:Int}(h1:0<j)(h2:j<1073741824)(h:P (.int (i/j)) t):W (A9 (.int i) (.int j)) t P:=W_fdiv.mpr ⟨⟨h1,h2⟩,h⟩
theorem GX{i:Int}(h1:0<j)(h:P (.int (i%j)) t):W (Bf (.int i) (.int j)) t P:=W_mod.mpr ⟨h1,h⟩
theorem fP{i:Int}(h1:MV i j=true)(h:P (.int (i ^ j.toNat)) t):W (NX (.int i) (.int j)) t P:=W_pow.mpr ⟨h1,h⟩
theorem QQ{i:Int}(h1:FV i j=true)(h:P (.int (i*j)) t):W (EC (.int i) (.int j)) t P:=W_mul_int.mpr ⟨h1,h⟩
theorem cA{x y:Str}(h:HA (x.length+y.length) (P (.str (x++y)) t)):W (AZ (.str x) (.str y)) t P:=W_add_str.mpr h
theorem cz{x y:List D}(h:HA (x.length+y.length) (P (.lst (x++y)) t)):W (AZ (.lst x) (.lst y)) t P:=W_add_lst.mpr h
theorem fh{x y:List D}(h:HA (x.length+y.length) (Q (x++y) t)):W (Ig (.lst x) (.lst y)) t Q:=W_cat.mpr h
theorem cQ{i:Bool}(h:P (.int (if i then 1 else 0)) t):W (LB [.bl i]) t P:=W_int_bl.mpr h
theorem aT{x:Str}(e:x.length=1)(h:P (.int (x.cps.getD 0 0:Nat)) t):W (JY [.str x]) t P:=W_ord.mpr ⟨e,h⟩
theorem cX(h:Q ds t):W (Ds [.lst ds]) t Q:=W_lst_lst.mpr h
theorem Vm{g:Bool->Bool}{x y:Str}(h:P (.bl (g (x==y))) t):W (eqS g (.str x) (.str y)) t P:=W_eq_str.mpr h
theorem aN{g:Bool->Bool}{x y:Int}(h:P (.bl (g (x==y))) t):W (eqS g (.int x) (.int y)) t P:=W_eq_int.mpr h
theorem aP{g:Bool->Bool}{x:List D}(h:P (.bl (g x.isEmpty)) t):W (eqS g (.lst x) (.lst [])) t P:=W_eq_nil.mpr h
theorem fS{lo hi:Option Int}(h:P (.lst (BZ ds lo hi)) t):W (FS (.lst ds) lo hi) t P:=W_sl_lst.mpr h
theorem fT{ds:List Int}{lo hi:Option Int}(h:P (.lst ((BZ ds lo hi).map .int)) t):W (FS (.scr ds) lo hi) t P:=W_sl_scr.mpr h
theorem wSl{l u:M (Option Int)}{h:D->Option Int->Option Int->M D}(w:W f t λx t1=>W l t1 λlo t2=>W u t2 λhi t3=>W (h x lo hi) t3 P):W (fSl f l u h) t P:=W_fSl.mpr w
variable{K:Option Int->T->Prop}
theorem wNo(h:K none t):W fNo t K:=W_fNo.mpr h
theorem ff{i:Int}(h:K (some i) t):W (asI (.int i)) t K:=W_asI.mpr h
theorem c7(h:W f t λx t1=>W (asI x) t1 K):W (DX f) t K:=W_fPart.mpr h
theorem fz(h:W f t λx t1=>W (Ec x) t1 Q):W (EA f) t Q:=W_fItA.mpr h
theorem fA(h:Q ds t):W (Ec (.lst ds)) t Q:=W_it_lst.mpr h
theorem fE(h:Q ds t):W (Ec (.tup ds)) t Q:=W_it_tup.mpr h
theorem fD{x:Str}(h:Q (x.cps.toList.map λc=>.str ⟨#[c]⟩) t):W (Ec (.str x)) t Q:=W_it_str.mpr h
theorem da{f:M (List D)}(h:W f t λx t1=>W (LQ x) t1 Q):W (DY f) t Q:=W_fRng1.mpr h
theorem db{f:M (List D)}(h:W f t λx t1=>W (LR x) t1 Q):W (Hs f) t Q:=W_fRng2.mpr h
theorem IX(e:DN j=true)(h:Q (Bx 0 j.toNat) t):W (LQ [.int j]) t Q:=W_rng1.mpr ⟨e,h⟩
theorem aV{i:Int}(e:(DN i&&DN j)=true)(h:Q (Bx i (j-i).toNat) t):W (LR [.int i,.int j]) t Q:=W_rng2.mpr ⟨e,h⟩
variable{xs:List D}
theorem cZ{i:Nat}{h:List D->List D->Option (List D)}{g:M (List D)}(e:t.env[i]?=some (some (.own xs)))(w:W g t λds t1=>∃xs,t1.env[i]?=some (some (.own xs))/\∃ys,h xs ds=some ys/\R .next ⟨t1.env.set i (some (.own ys)),t1.S⟩):W (ownM i h g) t R:=W_ownM.mpr ⟨⟨xs,e⟩,w⟩
theorem fc{i:Nat}{d:D}{A:List D->Prop}(e:t1.env[i]?=some (some (.own xs)))(w:HA (xs.length+1) (A (xs++[d]))):∃xs,t1.env[i]?=some (some (.own xs))/\∃ys,Cu xs [d]=some ys/\A ys:=
 ⟨xs,e,_,app1_one.mpr ⟨w.1,rfl⟩,w.2⟩
theorem fU{d:D}(h:W f t λo t1=>W g t1 λi t2=>W (GW o i d) t2 U):W (stD f g d) t U:=W_stD.mpr h
theorem df{k:Nat}{d:D}(e:t.S[k]?=some (.lst xs))(e':ixN xs.length j=some n)(h:U () ⟨t.env,t.S.set k (.lst (xs.set n d))⟩):W (GW (.obj k) (.int j) d) t U:=W_stOb.mpr ⟨xs,e,n,e',h⟩
end
section
variable{t:T}{P:D->T->Prop}{B:Bool->T->Prop}{Q:List D->T->Prop}
theorem dh{i:Nat}{n:Int}{ds:List D}{d:D}(e:t.env[i]?=some (vw (.tup ds)))(a:atI ds n=some d)(h:P d t):W (Ac (Aa i) (ia n) ixD) t P:=LY (FT e (wC (Gz a h)))
theorem cV{i:Nat}{x y:Str}{ds:List D}{g:Bool->Bool}(e:t.env[i]?=some (vw (.tup (.str y::ds))))(h:B (g (y==x)) t):W (Ai (Ac (Ac (Aa i) (ia 0) ixD) (fC (.str x)) (eqS g))) t B:=QX (LY (LY (FT e (wC (Gz Hl (wC (Vm (QW h))))))))
theorem aZ{i:Nat}{x y:Str}{g:Bool->Bool}(e:t.env[i]?=some (vw (.str y)))(h:B (g (y==x)) t):W (Ai (Ac (Aa i) (fC (.str x)) (eqS g))) t B:=QX (LY (FT e (wC (Vm (QW h)))))
theorem aY{i:Nat}{x y:Int}{g:Bool->Bool}(e:t.env[i]?=some (vw (.int y)))(h:B (g (y==x)) t):W (Ai (Ac (Aa i) (ia x) (eqS g))) t B:=QX (LY (FT e (wC (aN (QW h)))))
theorem X6{g:Fn}{i:Nat}{d:D}(e:t.env[i]?=some (vw d))(h:Wf g [d] t.S λr S'=>P r ⟨t.env,S'⟩):W (Aj g (Ab (Aa i) Ad)) t P:=La (Ey (FT e (IW h)))
theorem X7{g:Fn}{i j:Nat}{d d':D}(e:t.env[i]?=some (vw d))(e':t.env[j]?=some (vw d'))(h:Wf g [d,d'] t.S λr S'=>P r ⟨t.env,S'⟩):W (Aj g (Ab (Aa i) (Ab (Aa j) Ad))) t P:=La (Ey (FT e (Ey (FT e' (IW h)))))
theorem X9{g:Fn}{i:Nat}{d d':D}(e:t.env[i]?=some (vw d))(h:Wf g [d,d'] t.S λr S'=>P r ⟨t.env,S'⟩):W (Aj g (Ab (Aa i) (Ab (fC d') Ad))) t P:=La (Ey (FT e (Ey (wC (IW h)))))
theorem X8{g:Fn}{i j k:Nat}{d d' d'':D}(e:t.env[i]?=some (vw d))(e':t.env[j]?=some (vw d'))(e'':t.env[k]?=some (vw d''))(h:Wf g [d,d',d''] t.S λr S'=>P r ⟨t.env,S'⟩):W (Aj g (Ab (Aa i) (Ab (Aa j) (Ab (Aa k) Ad)))) t P:=La (Ey (FT e (Ey (FT e' (Ey (FT e'' (IW h)))))))
end
end L2
namespace LW
open PySem L2
set_option compiler.extract_closed false
local macro_rules | `(tactic| clear 31 $t*)=>`(tactic| with_reducible first $[| refine $t ?_]*)
local macro_rules | `(tactic| clear 32 $t*)=>`(tactic| ((with_reducible first $[| refine' $t ?wv ?_]*);(case wv=>exact rfl)))
local macro_rules | `(tactic| clear 33 $t*)=>`(tactic| ((with_reducible first $[| refine' $t ?wv ?_]*);(case wv=>decide)))
local macro_rules | `(tactic| walk_at"w1")=>`(tactic| first
 |clear 32 cV aZ X6
 |clear 32 aY X9
 |((with_reducible refine' dh ?wv ?wu ?_);(case wv=>exact rfl);(case wu=>first|exact rfl|exact Hl|exact Vw|exact Vx))
 |((with_reducible refine' X7 ?wv ?wu ?_);(case wv=>exact rfl);(case wu=>exact rfl))
 |((with_reducible refine' X8 ?wv ?wu ?wt ?_);(case wv=>exact rfl);(case wu=>exact rfl);(case wt=>exact rfl))
 |clear 31 IY BM U7 fQ LY wC Ey IW wIf QX QW aU La Vm aN cy dg QT wB wBF c9 fW fJ fN fg fk fb wOr fM cB cY fw aL wUn fL fx aS fK fH ft fq QN V2 cW cQ cX cA cz fh aP wSl wNo c7 ff fS fT fz fA fE fD da db Ke Yb Vo cH aX fO BR cI fU
 |clear 32 FT Fe cZ fc
 |clear 32 DV dj fX
 |((with_reducible first|refine' Gz ?wv ?_|refine' BJ ?wv ?_);(case wv=>first|exact rfl|exact Hl|exact Vw|exact Vx))
 |((with_reducible refine DF ?wv ?_);(case wv=>exact ud0 rfl))
 |((with_reducible refine' fy ?wv ?wu ?_);(case wv=>exact rfl);(case wu=>exact rfl))
 |((with_reducible refine Kc ?wv ?wu ?_);(case wv=>decide);(case wu=>decide))
 |clear 33 fP GX IX aV)
local macro_rules | `(tactic| right)=>`(tactic| repeat (walk_at"w1"))
structure DeckAt(k c:Nat)(S:List Ob):Prop where
 ne:k≠c
 at_:∃(cells:List Int) (par pos:Int),S[k]?=some (.lst [.obj c,.int par,.int pos])/\S[c]?=some (.lst (cells.map .int))/\cells≠[]/\0<=pos
variable{n:Nat}
theorem EZ{i:Int}(h0:0<=i)(h1:i<n):ixN n i=some i.toNat:=by simp[ixN,h0,h1]
variable{S:List Ob}
theorem WC{k:Nat}{o o':Ob}(h:S[k]?=some o):(S.set k o')[k]?=some o':=by
 obtain⟨hl,_⟩:=ua9.mp h;exact ub8 hl
inductive Sh where
 |nothing|number (lo hi:Int)|text (m:Int)|list (s:Sh) (m:Int)|pair (s r:Sh)|choice (ss:List Sh)
mutual
noncomputable def Sh.d:Sh->D
 |.nothing=>.tup [.str "nothing"]
 |.number lo hi=>.tup [.str "number",.int lo,.int hi]
 |.text m=>.tup [.str "text",.int m]
 |.list s m=>.tup [.str "list",s.d,.int m]
 |.pair s r=>.tup [.str "pair",s.d,r.d]
 |.choice ss=>.tup [.str "choice",.tup (shD ss)]
noncomputable def shD:List Sh->List D
 |[]=>[]
 |s::r=>s.d::shD r
end
mutual
noncomputable def Sh.depth:Sh->Nat
 |.nothing=>1
 |.number _ _=>1
 |.text _=>1
 |.list s _=>s.depth+1
 |.pair s r=>max s.depth r.depth+1
 |.choice ss=>FW ss+1
noncomputable def FW:List Sh->Nat
 |[]=>0
 |s::r=>max s.depth (FW r)
end
theorem Ex:∀ss:List Sh,(shD ss).length=ss.length
 |[]=>rfl
 |s::r=>by simp[shD,Ex r]
theorem Hh:∀(ss:List Sh) (k:Nat),(shD ss)[k]?=(ss[k]?).map Sh.d
 |[],k=>by simp[shD]
 |s::r,0=>by simp[shD]
 |s::r,k+1=>by simp[shD,Hh r k]
theorem Ej:∀(ss:List Sh) (k:Nat) (s:Sh),ss[k]?=some s->s.depth<=FW ss
 |[],k,s,h=>by simp at h
 |s::r,0,s',h=>by simp at h;subst h;simp[FW];lia
 |s::r,k+1,s',h=>by
   have:=Ej r k s' (by simpa using h);simp[FW];lia
theorem Sh.depth_pos(s:Sh):1<=s.depth:=by cases s<;>simp[Sh.depth]
noncomputable def CF(n:Nat):Bool:=decide (32<=n)&&decide (n<=126)&&decide (n≠37)
noncomputable def LF:Str->Bool:=λo=>o==("of":Str)
mutual
def Ap:Sh->D->Bool
 |.nothing,d=>KI d
 |.number lo hi,d=>match d with
   |.int i=>decide (lo<=i)&&decide (i<=hi)
   |_=>false
 |.text m,d=>match d with
   |.str x=>decide ((x.length:Int)<=m)&&x.cps.toList.all CF
   |_=>false
 |.list s m,d=>match d with
   |.lst ds=>decide ((ds.length:Int)<=m)&&ds.all λe=>Ap s e
   |_=>false
 |.pair s r,d=>match d with
   |.tup [a,b]=>Ap s a&&Ap r b
   |_=>false
 |.choice ss,d=>match d with
   |.tup [.str o,.int k,x]=>LF o&&(decide (0<=k)&&decide (k<ss.length))&&KC ss k.toNat x
   |_=>false
def KC:List Sh->Nat->D->Bool
 |[],_,_=>false
 |s::_,0,d=>Ap s d
 |_::r,k+1,d=>KC r k d
end
theorem Eb:∀(ss:List Sh) (k:Nat) (s:Sh) (d:D),ss[k]?=some s->KC ss k d=Ap s d
 |[],k,s,d,h=>by simp at h
 |s::r,0,s',d,h=>by simp at h;subst h;simp[KC]
 |s::r,k+1,s',d,h=>by rw[KC];exact Eb r k s' d (by simpa using h)
mutual
noncomputable def okD:D->Bool
 |.str x=>decide (x.length<=90000)
 |.tup xs=>oks xs
 |.lst xs=>oks xs
 |.obj _=>false
 |.scr _=>false
 |.exc _ _=>false
 |.ty _=>false
 |_=>true
noncomputable def oks:List D->Bool
 |[]=>true
 |d::r=>okD d&&oks r
end
theorem Jk:∀{xs:List D},oks xs=true->∀d∈xs,okD d=true
 |x::r,h,d,m=>by
   rw[oks,ug8] at h;rcases uj7.mp m with z|z
   .subst z;exact h.1
   .exact Jk h.2 d z
abbrev Pure1(f:Fn)(ds:List D)(r:D):Prop:=∀S,Wf f ds S λv S'=>v=r/\S'=S
variable{ds:List D}{r:D}
theorem Pure1.use{f:Fn}(h:Pure1 f ds r){S:List Ob}{P:D->List Ob->Prop}(p:P r S):Wf f ds S P:=(h S).mono λ_ _ ⟨e1,e2⟩=>by subst e1 e2;exact p
noncomputable def RU:D->Bool
 |.int _=>true
 |_=>false
theorem NK{d:D}(h:okD d=true):Pure1 (fnOf 1 1 GU) [d] (.bl (RU d)):=by
 intro S;refine Am rfl ?_;unfold GU
 cases d<;>first|(simp[okD] at h;done)|(right;exact⟨rfl,rfl⟩)
noncomputable def DU(lo hi:Int):D->Bool
 |.int i=>decide (lo<=i)&&decide (i<=hi)
 |_=>false
def Oz(f:Fn):Prop:=∀d,okD d=true->Pure1 f [d] (.bl (RU d))
def Fm(f:Fn):Prop:=∀d lo hi,okD d=true->Pure1 f [d,.int lo,.int hi] (.bl (DU lo hi d))
variable{c:Fn}
theorem Tp(hc:Oz c):Fm (fnOf 3 3 (Ee c)):=by
 intro d lo hi h S;refine Am rfl ?_;unfold Ee;right;refine(hc d h).use ?_
 cases d with
 |int i=>
   right;refine CZ (λe=>?_) λe=>?_
   .right;exact⟨by simp only[DU,e,uk2],rfl⟩
   .exact⟨by simp only[DU,e,uj1],rfl⟩
 |_=>right;exact⟨rfl,rfl⟩
def Kg(f:Fn):Prop:=∀n:Nat,Pure1 f [.int n] (.bl (CF n))
theorem P5:Kg (fnOf 1 1 IB):=by
 intro n S;refine Am rfl ?_;unfold IB;right;have c1:decide ((32:Int)<=n)=decide (32<=n):=decide_eq_decide.mpr ∅;have c2:decide ((n:Int)<=126)=decide (n<=126):=decide_eq_decide.mpr ∅;have c3:(!((n:Int)==37))=decide (n≠37):=by
  by_cases h:n=37
  .subst h;rfl
  .have:¬((n:Int)=37):=by lia
   simp[h,this]
 rw[c1];refine CZ (λe=>?_) λe=>?_
 .right;rw[c2];refine CZ (λe'=>?_) λe'=>?_
  .right;exact⟨by simp only[CF,e,e',c3,uk2],rfl⟩
  .exact⟨by simp only[CF,e,e',uj1,uj2],rfl⟩
 .right;exact⟨by simp only[CF,e,uj1],rfl⟩
def M4(f:Fn):Prop:=∀m d,okD d=true->Pure1 f [(Sh.text m).d,d] (.bl (Ap (.text m) d))
theorem ND(hc:Kg c):M4 (fnOf 2 3 (GR c)):=by
 intro m d h S;refine Am rfl ?_;unfold GR;rw[Sh.d]
 cases d with
 |str x=>
   have hx:x.length<=LIM:=uk9 (by simpa[okD] using h) (show 90000<=LIM by decide);right;refine V1 hx ?_;right;refine CZ (λe=>?_) λe=>?_
   .right;have:¬((x.length:Int)<=m):=by have:=ug0 e;lia
    exact⟨by simp[Ap,this],rfl⟩
   .right;have e':(x.length:Int)<=m:=by have:=of_decide_eq_false e;lia
    refine EI (λr t=>t.S=S/\∃cs:List Nat,r=cs.map (λc=>D.str ⟨#[c]⟩)/\(x.cps.toList.all CF=cs.all CF)/\∃z,t.env=[vw (.tup [.str "text",.int m]),vw (.str x),z]) _ _ ⟨rfl,x.cps.toList,rfl,rfl,_,rfl⟩ ?_ ?_
    .rintro d r t ⟨hs,cs,hr,hall,z,ht⟩ _;clear 5 t env S2;subst hs ht
     cases cs with
     |nil=>simp at hr
     |cons c cs=>
       simp only[uj8,List.cons.injEq] at hr;clear 5 hr rfl rfl;right;refine aT rfl ?_;right;refine(hc c).use ?_;right;refine CZ (λq=>?_) λq=>?_
       .right;have q':CF c=false:=by simpa using q
        refine⟨?_,rfl⟩;simp only[Ap,hall,uk1,q',uj1,uj2]
       .right;have q':CF c=true:=by simpa using q
        exact⟨rfl,cs,rfl,by rw[hall,uk1,q',uk2],_,rfl⟩
    .rintro t ⟨hs,cs,hr,hall,z,ht⟩;clear 5 t env S2;subst hs ht;have:cs=[]:=by cases cs with|nil=>rfl|cons _ _=>simp at hr
     subst this;right;exact⟨by simp[Ap,e',hall],rfl⟩
 |obj _=>simp[okD] at h
 |scr _=>simp[okD] at h
 |ty _=>simp[okD] at h
 |exc _ _=>simp[okD] at h
 |_=>right;exact⟨by simp[Ap],rfl⟩
def F4(f:Fn)(n:Nat):Prop:=∀s:Sh,s.depth<=n->∀d,okD d=true->Pure1 f [s.d,d] (.bl (Ap s d))
def Q3(f:Fn)(n:Nat):Prop:=∀(s:Sh) (m:Int),s.depth<=n->∀d,okD d=true->Pure1 f [(Sh.list s m).d,d] (.bl (Ap (.list s m) d))
theorem NB(hc:F4 c n):Q3 (fnOf 2 3 (GP c)) n:=by
 intro s m hs d h S;refine Am rfl ?_;unfold GP;rw[Sh.d]
 cases d with
 |lst ds=>
   have hx:∀d∈ds,okD d=true:=Jk (by simpa[okD] using h);right;refine CZ (λe=>?_) λe=>?_
   .right;have:¬((ds.length:Int)<=m):=by have:=ug0 e;lia
    exact⟨by simp[Ap,this],rfl⟩
   .right;have e':(ds.length:Int)<=m:=by have:=of_decide_eq_false e;lia
    refine EI (λr t=>t.S=S/\(ds.all (λe=>Ap s e)=r.all λe=>Ap s e)/\∃z,t.env=[vw (.tup [.str "list",s.d,.int m]),vw (.lst ds),z]) _ _ ⟨rfl,rfl,_,rfl⟩ ?_ ?_
    .rintro d r t ⟨hS,hall,z,ht⟩ hm;clear 5 t env S2;subst hS ht;right;refine(hc s hs d (hx d hm)).use ?_;right;refine CZ (λq=>?_) λq=>?_
     .right;have q':Ap s d=false:=by simpa using q
      refine⟨?_,rfl⟩;simp only[Ap,hall,uk1,q',uj1,uj2]
     .right;have q':Ap s d=true:=by simpa using q
      exact⟨rfl,by rw[hall,uk1,q',uk2],_,rfl⟩
    .rintro t ⟨hS,hall,z,ht⟩;clear 5 t env S2;subst hS ht;right;exact⟨by simp only[Ap,e',decide_true,hall,List.all_nil,uk2],rfl⟩
 |obj _=>simp[okD] at h
 |scr _=>simp[okD] at h
 |ty _=>simp[okD] at h
 |exc _ _=>simp[okD] at h
 |_=>right;exact⟨by simp[Ap],rfl⟩
def Q7(f:Fn)(n:Nat):Prop:=∀(s r:Sh),s.depth<=n->r.depth<=n->∀d,okD d=true->Pure1 f [(Sh.pair s r).d,d] (.bl (Ap (.pair s r) d))
theorem NC(hc:F4 c n):Q7 (fnOf 2 2 (GQ c)) n:=by
 intro s r hs hr d h S;refine Am rfl ?_;unfold GQ;rw[Sh.d]
 cases d with
 |tup ds=>
   have hx:∀d∈ds,okD d=true:=Jk (by simpa[okD] using h);right
   match ds,hx with
   |[],_=>right;exact⟨by simp[Ap],rfl⟩
   |[a],_=>right;exact⟨by simp[Ap],rfl⟩
   |[a,b],hx=>
     right;refine(hc s hs a (hx a (by simp))).use ?_;right;refine CZ (λe=>?_) λe=>?_
     .right;refine(hc r hr b (hx b (by simp))).use ?_;exact⟨by simp only[Ap,e,uk2],rfl⟩
     .exact⟨by simp only[Ap,e,uj1],rfl⟩
   |a::b::e::l,_=>
     refine Fe ?_ ?_
     .show(!(((a::b::e::l).length:Int)==2))=true;simp;lia
     right;exact⟨by simp[Ap],rfl⟩
 |obj _=>simp[okD] at h
 |scr _=>simp[okD] at h
 |ty _=>simp[okD] at h
 |exc _ _=>simp[okD] at h
 |_=>right;exact⟨by simp[Ap],rfl⟩
def M0(f:Fn)(n:Nat):Prop:=∀(ss:List Sh),FW ss<=n->∀d,okD d=true->Pure1 f [(Sh.choice ss).d,d] (.bl (Ap (.choice ss) d))
theorem LA{c':Fn}(hc:F4 c n)(hw:Fm c'):M0 (fnOf 2 2 (FN c c')) n:=by
 intro ss hs d h S;refine Am rfl ?_;unfold FN;rw[Sh.d]
 cases d with
 |tup ds=>
   have hx:∀d∈ds,okD d=true:=Jk (by simpa[okD] using h);right
   match ds,hx with
   |[],_=>right;exact⟨by simp[Ap],rfl⟩
   |[a],_=>right;exact⟨by simp[Ap],rfl⟩
   |[a,b],_=>right;exact⟨by simp[Ap],rfl⟩
   |[a,b,e],hx=>
     right;have ha:=hx a (by simp)
     cases a with
     |str o=>
       right;refine CZ (λq=>?_) λq=>?_
       .right;have q':LF o=false:=by simpa[LF] using q
        refine⟨?_,rfl⟩
        cases b<;>simp only[Ap,q',uj1]
       .right;have q':LF o=true:=by simpa[LF] using q
        refine(hw b 0 _ (hx b (by simp))).use ?_;right
        cases b with
        |int k=>
          refine CZ (λq=>?_) λq=>?_
          .right;refine⟨?_,rfl⟩;have:(decide (0<=k)&&decide (k<(ss.length:Int)))=false:=by
            have q2:k<0\/((shD ss).length:Int)-1<k:=by simpa[DU] using q
            rw[Ex] at q2;simp;lia
           simp only[Ap,this,uj1,uj2]
          .have q2:0<=k/\k<=((shD ss).length:Int)-1:=by simpa[DU] using q
           have q3:=q2;rw[Ex] at q3;have hk:k.toNat<ss.length:=by lia
           have e1:ss[k.toNat]?=some ss[k.toNat]:=ub3 hk;have e2:atI (shD ss) k=some (ss[k.toNat]).d:=by
            unfold atI;rw[Ex,EZ q3.1 ∅];simp[Hh,e1]
           right;refine Gz e2 ?_;right;refine(hc _ (uk9 (Ej ss _ _ e1) hs) e (hx e (by simp))).use ?_;refine⟨?_,rfl⟩;have:(decide (0<=k)&&decide (k<(ss.length:Int)))=true:=by simp;lia
           simp only[Ap,q',this,uk2,Eb ss _ _ e e1]
        |_=>
          right;exact⟨by simp[Ap],rfl⟩
     |obj _=>simp[okD] at ha
     |scr _=>simp[okD] at ha
     |ty _=>simp[okD] at ha
     |exc _ _=>simp[okD] at ha
     |_=>right;exact⟨by simp[Ap],rfl⟩
   |a::b::e::f::l,_=>
     refine Fe ?_ ?_
     .show(!(((a::b::e::f::l).length:Int)==3))=true;simp;lia
     right;exact⟨by simp[Ap],rfl⟩
 |obj _=>simp[okD] at h
 |scr _=>simp[okD] at h
 |ty _=>simp[okD] at h
 |exc _ _=>simp[okD] at h
 |_=>right;exact⟨by simp[Ap],rfl⟩
variable{cc cp cl ct cw:Fn}
theorem Wq(h1:M0 cc n)(h2:Q7 cp n)(h3:Q3 cl n)(h4:M4 ct)(h5:Fm cw):F4 (fnOf 2 3 (NN cc cp cl ct cw)) (n+1):=by
 intro s hs d h S;refine Am rfl ?_;unfold NN
 cases s with
 |nothing=>
   rw[Sh.d];right;exact⟨by rw[Ap],rfl⟩
 |number lo hi=>
   rw[Sh.d];right;refine(h5 d lo hi h).use ⟨?_,rfl⟩
   cases d<;>simp[Ap,DU]
 |text m=>
   rw[Sh.d];right;exact(h4 m d h).use ⟨rfl,rfl⟩
 |list s m=>
   rw[Sh.depth] at hs;have q:=h3 s m ∅ d h;rw[Sh.d] at q⊢;right;exact q.use ⟨rfl,rfl⟩
 |pair s r=>
   rw[Sh.depth] at hs;have q:=h2 s r ∅ ∅ d h;rw[Sh.d] at q⊢;right;exact q.use ⟨rfl,rfl⟩
 |choice ss=>
   rw[Sh.depth] at hs;have q:=h1 ss ∅ d h;rw[Sh.d] at q⊢;right;exact q.use ⟨rfl,rfl⟩
theorem GG(x:Str):x.length=x.cps.toList.length:=by simp[Str.length]
theorem L3(x y:Str):(x++y).cps.toList=x.cps.toList++y.cps.toList:=by
 show(x.cps++y.cps).toList=_;simp
variable{elt:M D}
theorem H9{f:D->D}{fr:List (Option Sl)}{z:Option Sl}(h:∀d∈ds,W elt ⟨vw d::fr,S⟩ λx t'=>x=f d/\t'=⟨vw d::fr,S⟩) :
 W (B8 (Au 0) EU elt ds) ⟨z::fr,S⟩ λxs t'=>xs=ds.map f/\t'.S=S:=by
 refine(Kh (P:=λxs t'=>xs=ds.map f/\t'.S=S) (λacc r t=>acc++r.map f=ds.map f/\∃z,t=⟨z::fr,S⟩) ds [] _ ⟨rfl,z,rfl⟩ ?_ ?_).mono λxs t' h=>h
 .rintro acc d r t ⟨h1,z,rfl⟩ hm;refine Ke (aX ?_);rw[lJ rfl];refine(h d hm).mono λx t' z9=>?_;clear 5 z9 e1 e2;subst e1 e2;exact⟨by rw[uf5];exact h1,_,rfl⟩
 .rintro acc t ⟨h1,z,rfl⟩;exact⟨by simpa using h1,rfl⟩
mutual
noncomputable def sz:D->Nat
 |.tup xs=>szs xs+1
 |.lst xs=>szs xs+1
 |_=>1
noncomputable def szs:List D->Nat
 |[]=>0
 |d::r=>sz d+szs r
end
theorem X0{x y:Str}(h:x.cps.toList=y.cps.toList):x=y:=by
 cases x;cases y
 congr
 exact Array.toList_inj.mp h
mutual
noncomputable def wf:Sh->Bool
 |.nothing=>true
 |.number lo hi=>decide (-1000000000000000000<lo)&&decide (lo<=hi)&&decide (hi<1000000000000000000)
 |.text m=>decide (0<=m)&&decide (m<=250)
 |.list s m=>decide (0<=m)&&decide (m<=250)&&wf s
 |.pair s r=>wf s&&wf r
 |.choice ss=>decide (1<=ss.length)&&decide (ss.length<=9)&&wfs ss
noncomputable def wfs:List Sh->Bool
 |[]=>true
 |s::r=>wf s&&wfs r
end
mutual
noncomputable def cnt:Sh->Nat
 |.list s _=>cnt s+1
 |.pair s r=>cnt s+cnt r+1
 |.choice ss=>YE ss+1
 |_=>1
noncomputable def YE:List Sh->Nat
 |[]=>0
 |s::r=>cnt s+YE r
end
theorem F3:∀{ss:List Sh},wfs ss=true->∀s∈ss,wf s=true
 |x::r,h,s,m=>by
   rw[wfs,ug8] at h;rcases uj7.mp m with z|z
   .subst z;exact h.1
   .exact F3 h.2 s z
def Pv(k c l:Nat)(S S':List Ob):Prop:=S'.length=S.length/\∀j:Nat,j≠k->j≠c->j≠l->S'[j]?=S[j]?
noncomputable def QB(deep:Int):Int:=if deep<2 then 0 else 2*deep+4
def bd(deep x:Int):Int:=if deep<2 then 1 else max x 1+QB deep-(if deep+1<=x then 1 else 0)
def tb(deep y i:Int):Int:=if deep=2 then i else if i=0 then 0 else y+QB (deep-1)+i-1-(if deep<=y then 1 else 0)
structure ShapeRes(k c l:Nat)(S:List Ob)(deep x:Int)(s:Sh)(S':List Ob):Prop where
 w:wf s=true
 dep:(s.depth:Int)<=max deep 1
 lft:S'[l]?=some (.lst [.int (x-cnt s)])
 one:x<=1->cnt s=1
 few:(cnt s:Int)<=max x 1+QB deep
 deck:DeckAt k c S'
 kp:Pv k c l S S'
 few2:(cnt s:Int)<=bd deep x
structure Sep(ks:List (Nat×Nat)):Prop where
 sep:∀p∈ks,∀q∈ks,p=q\/(q.1≠p.1/\q.1≠p.2/\q.2≠p.1/\q.2≠p.2)
mutual
noncomputable def dpt:D->Nat
 |.lst ds=>TQ ds+1
 |.tup ds=>TQ ds+1
 |_=>1
noncomputable def TQ:List D->Nat
 |[]=>0
 |d::r=>max (dpt d) (TQ r)
end
mutual
noncomputable def smD:D->Bool
 |.str x=>decide (x.length<=300)
 |.int i=>decide (-1000000000000000000000000<i)&&decide (i<1000000000000000000000000)
 |.tup xs=>decide (xs.length<=300)&&sms xs
 |.lst xs=>decide (xs.length<=300)&&sms xs
 |.obj _=>false
 |.scr _=>false
 |.ty _=>false
 |.exc _ _=>false
 |_=>true
noncomputable def sms:List D->Bool
 |[]=>true
 |d::r=>smD d&&sms r
end
theorem EY{f:D->D->Option Bool}:∀{xs:List D},(∀d∈xs,f d d=some true)->D6 f xs xs=some true
 |[],_=>rfl
 |x::r,h=>by
   rw[D6,h x ue1,EY λd m=>h d (ud1 _ m)];rfl
variable{t:T}{P:D->T->Prop}
theorem LZ{d:D}{g:Bool->Bool}(h0:P4 d=false)(h:eqN EQD d d=some true)(p:P (.bl (g true)) t):W (eqS g d d) t P:=⟨_,_,by simp[eqS,h0,h],p⟩
variable{f:M D}
theorem cU{g:M (List D)}(h:W f t λo t1=>W g t1 λas t2=>∃z ds ys,o=.str z/\as=[.lst ds]/\Gv ds=some ys/\(z.length<=8/\ys.length<=1048576)/\P (.str (Txt.join z ys)) t2):W (joinM f g) t P:=by
 refine BR (h.mono λo t1 h1=>BR (h1.mono λas t2 h2=>?_));clear 5 h2 z ds ys rfl rfl e hl p;refine⟨_,_,?_,p⟩;simp only[e];rw[lJ hl]
theorem IV:∀ns:List Nat,Gv (ns.map λn=>D.str ⟨#[n]⟩)=some (ns.map λn=>(⟨#[n]⟩:Str))
 |[]=>rfl
 |n::r=>by
   rw[uj8,Gv,lJ (ud0 rfl),IV r];rfl
theorem KG:∀(ns:List Nat) (acc:Array Nat),((ns.map λn=>(⟨#[n]⟩:Str)).foldl (λacc p=>acc++(Str.ofString "").cps++p.cps) acc).toList=acc.toList++ns
 |[],acc=>by simp
 |n::r,acc=>by
   have e:(Str.ofString "").cps=#[]:=by decide +kernel
   rw[uj8,ui3,KG r,e];simp
theorem P6(ns:List Nat):(Txt.join (Str.ofString "") (ns.map λn=>(⟨#[n]⟩:Str))).cps.toList=ns:=by
 show(List.foldl (λ(acc:Array Nat) (p:Str)=>acc++(Str.ofString "").cps++p.cps) (((ns.map λn=>(⟨#[n]⟩:Str)).headD Str.empty).cps) ((ns.map λn=>(⟨#[n]⟩:Str)).drop 1)).toList=ns
 cases ns with
 |nil=>rfl
 |cons n r=>
   rw[uj8,List.drop_one,List.tail_cons,KG];rfl
structure ValueRes(k c l:Nat)(S:List Ob)(s:Sh)(r:D)(S':List Ob):Prop where
 fit:Ap s r=true
 lft:∃a b:Int,S'[l]?=some (.lst [.int a,.int b])
 deck:DeckAt k c S'
 kp:Pv k c l S S'
theorem HR{f:M (List D)}{P:Out->T->Prop}(h:W f t λds t1=>P (.ret (.lst ds)) t1):W (GV f) t P:=W_bnd.mpr (h.mono λ_ _ p=>W_ret.mpr p)
theorem Gy{g:Fn}{f:M (List D)}{P:List D->T->Prop}(h:W f t λds t1=>Wf g ds t1.S λr S'=>∃rs,r=.lst rs/\P rs ⟨t1.env,S'⟩):W (D8 g f) t P:=by
 refine W_bnd.mpr (h.mono λds t1 z9=>?_);clear 5 z9 r S' e rs er p;subst er;exact⟨rs,⟨t1.env,S'⟩,by simp only[e],p⟩
variable{xs:List D}
theorem Yg{i:Nat}{P:Out->T->Prop}(e:t.env[i]?=some (some (.own xs)))(h:P (.ret (.lst xs)) ⟨t.env.set i none,t.S⟩):W (Hg i) t P:=⟨_,_,by simp only[Hg,e],h⟩
theorem cF{i:Int}(h:P (.int (Builtin.Int.intBits i:Nat)) t):W (Kl (.int i)) t P:=⟨_,_,rfl,h⟩
theorem fR{i j:Int}(h0:0<=j)(h:P (.int (i/2 ^ j.toNat)) t):W (N8 (.int i) (.int j)) t P:=⟨_,_,by simp[N8,i2C,h0],h⟩
variable{t1:T}
theorem fj{i:Nat}{ys:List D}{A:List D->Prop}(e:t1.env[i]?=some (some (.own xs)))(l:xs.length+ys.length<=LIM)(w:A (xs++ys)):∃xs,t1.env[i]?=some (some (.own xs))/\∃zs,Il xs [.lst ys]=some zs/\A zs:=
 ⟨xs,e,xs++ys,by simp[Il,l],w⟩
set_option tactic.hygienic true in
theorem JG{f:M Bool}{b:M Out}{P:Out->T->Prop}(I:Nat->T->Prop)(turn:∀n t,I n t->W f t λk t1=>match k with
 |true=>∃m,n=m+1/\W b t1 λo t2=>match o with
   |.next=>I m t2
   |.cont=>I m t2
   |.brk=>P .next t2
   |.ret x=>P (.ret x) t2
 |false=>P .next t1):∀(fuel n:Nat) (t:T),n<fuel->I n t->W (DR f b fuel) t P
 |0,n,t,h,_=>absurd h (Nat.not_lt_zero _)
 |fuel+1,n,t,h,i=>by
   clear 5(turn n t i)k t1 e1 p
   cases k with
   |false=>exact⟨_,_,by simp only[DR,e1],p⟩
   |true=>
     clear 5 p m rfl o t2 e2 p
     cases o with
     |next=>clear 5(JG I turn fuel m t2 ∅ p)o t' e' p;exact⟨o,t',by simp only[DR,e1,e2];exact e',p⟩
     |cont=>clear 5(JG I turn fuel m t2 ∅ p)o t' e' p;exact⟨o,t',by simp only[DR,e1,e2];exact e',p⟩
     |brk=>exact⟨_,_,by simp only[DR,e1,e2],p⟩
     |ret x=>exact⟨_,_,by simp only[DR,e1,e2],p⟩
noncomputable def wid(n:Nat):Nat:=if n=0 then 0 else n.log2/8+1
theorem R8(h:2<=n):n.log2=(n/2).log2+1:=by rw[Nat.log2_def,lJ h]
theorem Uq(h:n<2):n.log2=0:=by rw[Nat.log2_def,lK ∅]
theorem NM:∀(k:Nat){n:Nat},2 ^ k<=n->n.log2=(n/2 ^ k).log2+k
 |0,n,_=>by rw[Nat.pow_zero,Nat.div_one,Nat.add_zero]
 |k+1,n,h=>by
   have h2:2 ^ k*2<=n:=by rw[<-lh];exact h
   have h3:2<=n/2 ^ k:=(Nat.le_div_iff_mul_le (Nat.pow_pos (by decide))).mpr (by rw[Nat.mul_comm];exact h2);rw[NM k (uk9 (Nat.le_mul_of_pos_right _ (by decide)) h2),R8 h3,jo,<-lh,kz,Nat.add_comm 1 k]
theorem Uo(h:256<=n):n.log2=(n/256).log2+8:=NM 8 h
theorem Up(h:n<256):n.log2<8:=by
 by_cases z:n=0
 .subst z;rw[Uq ∅];lia
 .exact(Nat.log2_lt z).mpr h
theorem Vp(h:0<n):wid n=wid (n/256)+1:=by
 unfold wid;rw[lK ∅]
 by_cases z:n<256
 .have:=Up z;rw[lJ ∅];lia
 .rw[lK ∅,Uo ∅];lia
theorem Lf:∀(k n:Nat),n<256 ^ k->wid n<=k
 |0,n,h=>by
   have:n=0:=by simpa using h
   subst this;decide
 |k+1,n,h=>by
   by_cases z:n=0
   .subst z;exact ul5 _
   .rw[Vp ∅];have:=Lf k (n/256) (Nat.div_lt_of_lt_mul (by rw[lh] at h;lia));lia
theorem TF(n:Nat):((Builtin.Int.intBits (n:Int):Nat)+7)/8=wid n:=by
 unfold Builtin.Int.intBits wid
 by_cases z:n=0
 .subst z;rfl
 .have:((n:Int)==0)=false:=by simp;exact z
  rw[this,lK (by simp),lK z,Int.natAbs_natCast];lia
noncomputable def nb:Nat->Nat->List D
 |0,_=>[]
 |w+1,n=>nb w (n/256)++[.int ((n%256:Nat):Int)]
theorem Sk:∀w n,(nb w n).length=w
 |0,n=>rfl
 |w+1,n=>by rw[nb,ue5,Sk];rfl
theorem Sm:∀w n:Nat,(List.range w).map (λk=>D.int ((n/2 ^ (8*(w-1-k))%256:Nat):Int))=nb w n
 |0,n=>rfl
 |w+1,n=>by
   rw[List.range_succ,ui7,nb,<-Sm w (n/256)]
   congr 1
   .refine ud9 λk hk=>?_;rw[uj0] at hk;have e:8*(w+1-1-k)=8+8*(w-1-k):=by lia
    rw[e,Nat.pow_add,jo]
   .simp
mutual
def Bn:Sh->D->List D
 |.nothing,_=>[]
 |.number lo hi,d=>match d with
   |.int i=>nb (wid (hi-lo).toNat) (i-lo).toNat
   |_=>[]
 |.text _,d=>match d with
   |.str x=>.int (x.length:Nat)::x.cps.toList.map λn=>D.int (n:Nat)
   |_=>[]
 |.list s _,d=>match d with
   |.lst ds=>.int (ds.length:Nat)::(ds.map λd=>Bn s d).flatten
   |_=>[]
 |.pair s r,d=>match d with
   |.tup [a,b]=>Bn s a++Bn r b
   |_=>[]
 |.choice ss,d=>match d with
   |.tup [_,.int k,x]=>.int k::Km ss k.toNat x
   |_=>[]
def Km:List Sh->Nat->D->List D
 |[],_,_=>[]
 |s::_,0,d=>Bn s d
 |_::r,k+1,d=>Km r k d
end
theorem GA:∀(ss:List Sh) (k:Nat) (s:Sh) (d:D),ss[k]?=some s->Km ss k d=Bn s d
 |[],k,s,d,h=>by simp at h
 |s::r,0,s',d,h=>by simp at h;subst h;simp[Km]
 |s::r,k+1,s',d,h=>by rw[Km];exact GA r k s' d (by simpa using h)
def I9(f:Fn)(n:Nat):Prop:=∀(s:Sh),s.depth<=n->wf s=true->∀d,Ap s d=true->(Bn s d).length<=LIM->Pure1 f [s.d,d] (.lst (Bn s d))
def HX(f:Fn):Prop:=∀(n j:Nat),j<=1000->Pure1 f [.int n,.int j] (.int ((n/2 ^ (8*j):Nat):Int))
theorem WI:HX (fnOf 2 2 ID):=by
 intro n j hj S;refine Am rfl ?_;unfold ID;right;refine QQ (WS (by decide) (by decide)) ?_;refine fR ∅ ?_;refine⟨?_,rfl⟩;have:(8*(j:Int)).toNat=8*j:=by lia
 rw[this];simp
def Kk(f:Fn):Prop:=∀n:Nat,n<256 ^ 9->Pure1 f [.int n] (.int (wid n:Nat))
theorem Vq:Kk (fnOf 1 1 FP):=by
 intro n _ S;refine Am rfl ?_;unfold FP;right;refine cF ?_;right;refine⟨?_,rfl⟩;rw[<-TF];simp
def M2(f:Fn):Prop:=∀(n w:Nat),w<=1000->Pure1 f [.int n,.int w] (.lst (nb w n))
theorem Pc(i:Int)(n:Nat):Bx i n=(List.range n).map λk:Nat=>D.int (i+k):=by
 rfl
theorem WY(hc:HX c):M2 (fnOf 2 2 (Fy c)):=by
 intro n w hw S;have hL:LIM=100000:=rfl;refine Am rfl ?_;unfold Fy;refine HR ?_;right;refine aV (by rw[DO (by decide) (by decide),DO ∅ ∅];rfl) ?_;refine(H9 (f:=λd=>match d with | .int k=>.int ((n/2 ^ (8*(w-k.toNat))%256:Nat):Int)|_=>d) (fr:=[vw (.int n),vw (.int w)]) ?_).mono ?_
 .intro d m;rw[Pc] at m;clear 5(ul2.mp m)k hk rfl;rw[uj0] at hk;right;have e:((w:Int)-(1+(k:Int)))=((w-(1+k):Nat):Int):=by lia
  rw[e];refine(hc n (w-(1+k)) ∅).use ?_;right;refine⟨?_,rfl⟩;have e2:(1+(k:Int)).toNat=1+k:=by lia
  dsimp only;rw[e2];simp
 .rintro xs t' ⟨rfl,hS⟩;have hn:((w:Int)+1-1).toNat=w:=by lia
  rw[Pc,hn];refine DF (by simp only[uh7,List.length_range,hL];lia) ?_;refine⟨?_,hS⟩;rw[<-Sm w n,ll]
  congr 1
  refine ud9 λk hk=>?_;rw[uj0] at hk;have e2:(1+(k:Int)).toNat=1+k:=by lia
  have e3:w-(1+k)=w-1-k:=by lia
  simp only[Function.comp,e2,e3]
theorem Pj{lo hi:Int}(h:wf (.number lo hi)=true):(hi-lo).toNat<256 ^ 9:=by
 simp only[wf,ug8,uf9] at h;have:(256:Nat) ^ 9=4722366482869645213696:=by decide
 lia
theorem Rf(x:Str):(x.cps.toList.map λc=>D.str ⟨#[c]⟩).map (λd=>match d with | .str y=>D.int (y.cps.getD 0 0:Nat)|_=>d)=x.cps.toList.map λn=>D.int (n:Nat):=by
 rw[ll];refine ud9 λn _=>?_;rfl
variable{cn:Fn}
set_option tactic.hygienic true in
theorem Wp(hc:I9 c n)(hw:Kk cw)(hn:M2 cn):I9 (fnOf 2 5 (Fh c cw cn)) (n+1):=by
 intro s hs hwf d hf hlen S;have hL:LIM=100000:=rfl;refine Am rfl ?_;unfold Fh
 cases s with
 |nothing=>
   rw[Sh.d];right;refine HR ?_;right;exact⟨by rw[Bn],rfl⟩
 |number lo hi=>
   have hsp:=Pj hwf;have hwd:=Lf 9 _ hsp;simp only[wf,ug8,uf9] at hwf
   cases d<;>simp[Ap] at hf
   rename_i i;rw[Sh.d];right;refine HR (Gy ?_);right;have e1:hi-lo=(((hi-lo).toNat:Nat):Int):=by lia
   have e2:i-lo=(((i-lo).toNat:Nat):Int):=by lia
   rw[e1,e2];refine(hw _ hsp).use ?_;right;refine(hn _ _ ∅).use ?_;exact⟨_,rfl,by rw[Bn],rfl⟩
 |text q=>
   simp only[wf,ug8,uf9] at hwf
   cases d<;>simp[Ap] at hf
   rename_i x;rw[Sh.d];right;refine HR ?_;refine BR ?_;right;refine V1 (by rw[hL];lia) ?_;right;refine(H9 (f:=λd=>match d with | .str y=>D.int (y.cps.getD 0 0:Nat)|_=>d) (fr:=[]) ?_).mono ?_
   .intro d m;clear 5(ul2.mp m)k hk rfl;right;refine aT rfl ?_;exact⟨rfl,rfl⟩
   .rintro xs t' ⟨rfl,hS⟩;rw[Rf];have hl:x.cps.toList.length<=250:=by rw[<-GG];lia
    refine DF (by rw[uh7,hL];lia) ?_;right;refine DF (by simp only[uh7,ug2,ui5,hL];lia) ?_;exact⟨by rw[Bn];rfl,hS⟩
 |list s q=>
   simp only[wf,ug8,uf9] at hwf;rw[Sh.depth] at hs
   cases d<;>simp only[Ap,ue6] at hf
   rename_i ds;rw[ug8,uf9,uh0] at hf;rw[Bn] at hlen⊢;rw[Sh.d];right;refine EI (λr t=>∃(z:Option Sl) (acc:List D),t=⟨[vw (.tup [.str "list",s.d,.int q]),vw (.lst ds),vw (.str "list"),some (.own acc),z],S⟩/\acc++(r.map λd=>Bn s d).flatten=.int (ds.length:Nat)::(ds.map λd=>Bn s d).flatten) _ _ ⟨_,_,rfl,rfl⟩ ?_ ?_
   .rintro d r t ⟨z,acc,rfl,hacc⟩ m;rw[uj8,uf4,<-uf5] at hacc;have hl:acc.length+(Bn s d).length<=LIM:=by
     have:=lD List.length hacc;rw[ue5,ue5] at this;lia
    right;refine Gy ?_;right;refine(hc s (uc4 hs) hwf.2 d (hf.2 d m) (uk9 (Nat.le_add_left _ _) hl)).use ⟨_,rfl,?_⟩;right;refine fj rfl hl ?_;exact⟨_,_,rfl,hacc⟩
   .rintro t ⟨z,acc,rfl,hacc⟩;rw[ul1,List.flatten_nil,uh9] at hacc;right;refine Yg rfl ?_;exact⟨by rw[hacc],rfl⟩
 |pair s r=>
   simp only[wf,ug8] at hwf;rw[Sh.depth] at hs;unfold Ap at hf
   split at hf
   case h_2=>cases hf
   case h_1 a b=>
    rw[ug8] at hf;rw[Bn] at hlen⊢;rw[ue5] at hlen;rw[Sh.d];right;refine HR ?_;refine BR ?_;right;refine Gy ?_;right;refine(hc s (uk9 (Nat.le_max_left _ _) (uc4 hs)) hwf.1 a hf.1 (uk9 (ug9 _ _) hlen)).use ⟨_,rfl,?_⟩;refine BR ?_;right;refine Gy ?_;right;refine(hc r (uk9 (Nat.le_max_right _ _) (uc4 hs)) hwf.2 b hf.2 (uk9 (Nat.le_add_left _ _) hlen)).use ⟨_,rfl,?_⟩;right;refine DF hlen ?_;exact⟨rfl,rfl⟩
 |choice ss=>
   simp only[wf,ug8,uf9] at hwf;rw[Sh.depth] at hs;unfold Ap at hf
   split at hf
   case h_2=>cases hf
   case h_1 o k x=>
    simp only[ug8,uf9] at hf;obtain⟨⟨ho,k0,k1⟩,hf⟩:=hf;have hk:k.toNat<ss.length:=by lia
    have e1:ss[k.toNat]?=some ss[k.toNat]:=ub3 hk;have hl:=Ex ss;have e2:atI (shD ss) k=some (ss[k.toNat]).d:=by
     unfold atI;rw[EZ k0 ∅];show(shD ss)[k.toNat]?=_;rw[Hh,e1];rfl
    rw[Eb ss _ _ _ e1] at hf;rw[Bn] at hlen⊢;rw[GA ss _ _ _ e1] at hlen⊢;rw[ug2] at hlen;rw[Sh.d];right;refine HR ?_;right;refine Gy ?_;right;refine Gz e2 ?_;right;refine(hc _ (uk9 (Ej ss _ _ e1) (uc4 hs)) (F3 hwf.2 _ (uh3 hk)) x hf (Nat.le_of_succ_le hlen)).use ⟨_,rfl,?_⟩;right;refine DF (by simp only[ug2,ui5];lia) ?_;exact⟨rfl,rfl⟩
theorem KU(a:Int)(n:Nat):(Bx a n).length=n:=by simp[Bx]
variable{j:Nat}
theorem LP{a:Int}{d:D}{r:List D}(e:d::r=(Bx a n).drop j):d=.int (a+j)/\r=(Bx a n).drop (j+1)/\j<n:=by
 have hj:j<(Bx a n).length:=by
  rcases lm j (Bx a n).length with h|h
  .exact h
  .rw[jp h] at e;cases e
 rw[ub1 hj] at e;injection e with e1 e2
 rw[KU] at hj;refine⟨?_,e2,hj⟩;rw[e1];simp[Bx]
noncomputable def sgs:Str:=" !\"#$ &'()*+,-./0123456789:;<=>?@ABCDEFGHIJKLMNOPQRSTUVWXYZ[\\]^_`abcdefghijklmnopqrstuvwxyz{|}~"
theorem aw{c:Nat}(h:CF c=true):atI sgs.cps.toList ((c:Int)-32)=some c:=by
 have hl:sgs.cps.toList.length=95:=by decide +kernel
 have hall:(List.range 127).all (λc=>!CF c||decide (sgs.cps.toList[c-32]?=some c))=true:=by decide +kernel
 have h':=h;simp only[CF,ug8,uf9] at h';have:=uh0.mp hall c (uj0.mpr ∅);rw[h,Bool.not_true,ky,uf9] at this;rw[show((c:Int)-32)=((c-32:Nat):Int) by lia];exact Jc this
variable{n' m:Str}
section
variable{t:T}{P:D->T->Prop}{R:Out->T->Prop}
def Vk(h:D->M Out)(R:Out->T->Prop)(o:Out)(t1:T):Prop:=match o with
 |.ret (.exc n ds)=>n∈Bs/\W (h (.exc n ds)) t1 R
 |o=>R o t1
theorem fV{b:M Out}{h:D->M Out}(w:W b t (Vk h R)):W (EF b h) t R:=by
 clear 5 w o t1 e q;have rest:∀d,Bt d=false->o=.ret d->W (EF b h) t R:=λd hd ho=>by
  subst ho;refine⟨.ret d,t1,?_,?_⟩
  .unfold EF;rw[e];cases d<;>first|rfl|cases hd
  .cases d<;>first|exact q|cases hd
 cases o with
 |next=>exact⟨.next,t1,by unfold EF;rw[e],q⟩
 |brk=>exact⟨.brk,t1,by unfold EF;rw[e],q⟩
 |cont=>exact⟨.cont,t1,by unfold EF;rw[e],q⟩
 |ret d=>
   cases d with
   |exc n ds=>
     clear 5 q hn o2 t2 e2 q2;exact⟨o2,t2,by unfold EF;rw[e];dsimp only;rw[lJ hn,e2],q2⟩
   |_=>exact rest _ rfl rfl
set_option tactic.hygienic true in
theorem Ti{h:D->M Out}(q:R .next t1):Vk h R .next t1:=q
theorem X4{h:D->M Out}{n:Str}(e:n∈Bs)(q:W (h (.exc n ds)) t1 R):Vk h R (.ret (.exc n ds)) t1:=⟨e,q⟩
def xK(d:D)(A B:Prop):Prop:=if Bt d=true then A else B
theorem dl{d:D}{A B:Prop}(e:Bt d=false)(b:B):xK d A B:=by unfold xK;rw[lK (by rw[e];decide)];exact b
theorem dk{d:D}{A B:Prop}(e:Bt d=true)(a:A):xK d A B:=by unfold xK;rw[lJ e];exact a
set_option tactic.hygienic true in
theorem de{i:Nat}(w:W f t λd t1=>xK d (R (.ret d) t1) (R .next ⟨t1.env.set i (vw d),t1.S⟩)):W (CD i f) t R:=by
 refine BR (w.mono λd t1 q=>?_);unfold xK at q
 split at q
 .next h=>rw[lJ h];exact⟨_,_,rfl,q⟩
 .next h=>rw[lK h];exact⟨_,_,rfl,q⟩
theorem wNx(w:W f t λd t1=>Bt d=false/\P d t1):W (nxD f) t P:=by
 refine BR (w.mono λd t1 z9=>?_);clear 5 z9 h q;rw[lK (by rw[h];decide)];exact⟨_,_,rfl,q⟩
set_option tactic.hygienic true in
theorem cG{g:M D}{h:D->M D}(w:W g t λy t1=>xK y (P y t1) (W (h y) t1 λd t2=>Bt d=false/\P d t2)):W (Ll g h) t P:=by
 refine BR (w.mono λy t1 q=>?_);unfold xK at q
 split at q
 .next z=>rw[lJ z];exact⟨_,_,rfl,q⟩
 .next z=>rw[lK z];exact wNx q
theorem cE{g:M D}{h:D->D->M D}(w:W f t λx t1=>W (Ll g (h x)) t1 P):W (Je f g h) t P:=BR w
theorem Yd{n:Str}{f:M (List D)}(w:W f t λds t1=>∃d,ds=[d]/\R (.ret (.exc n [d])) t1):W (IS n f) t R:=
 BR (w.mono λds t1 ⟨d,e,q⟩=>by subst e;exact⟨_,_,rfl,q⟩)
theorem Yc{n:Str}{f:M (List D)}(w:W f t λds t1=>ds.length<=1000/\R (.ret (.exc n [])) t1):W (Gs n f) t R:=
 BR (w.mono λds t1 ⟨e,q⟩=>by rw[lJ e];exact⟨_,_,rfl,q⟩)
theorem Ye{n:Str}(w:W f t λd t1=>R (.ret (.exc n [d])) t1):W (IS n (Ab f Ad)) t R:=Yd (Ey (w.mono λd t1 q=>IW ⟨d,rfl,q⟩))
theorem Yf{n:Str}(w:W f t λ_ t1=>R (.ret (.exc n [])) t1):W (Gs n (Ab f Ad)) t R:=Yc (Ey (w.mono λd t1 q=>IW ⟨by show 1<=1000;decide,q⟩))
theorem fu{n:Str}{i:Nat}{s:M Out}{r:D->M Out}(e:El n n'=true)(w:W s {t with env:=t.env.set i (vw (.exc n ds))} λo t2=>R o (unE i t2)):W (hAs n' i s r (.exc n ds)) t R:=by
 clear 5 w o t2 e1 q;exact⟨o,unE i t2,by unfold hAs;dsimp only;rw[lJ e,e1],q⟩
theorem fv{n:Str}{s:M Out}{r:D->M Out}(e:El n n'=true)(w:W s t R):W (hNo n' s r (.exc n ds)) t R:=by
 clear 5 w o t2 e1 q;exact⟨o,t2,by unfold hNo;dsimp only;rw[lJ e,e1],q⟩
theorem cO{n:Str}{s:M Out}{r:D->M Out}(e:El n n'=false)(w:W (r (.exc n ds)) t R):W (hNo n' s r (.exc n ds)) t R:=by
 clear 5 w o t2 e1 q;exact⟨o,t2,by unfold hNo;dsimp only;rw[lK (by rw[e];decide),e1],q⟩
theorem cT{n:Str}(e:m∈Bs)(q:P (.bl (El m n)) t):W (Iv n (.exc m ds)) t P:=⟨_,_,by unfold Iv;dsimp only;rw[lJ e];rfl,q⟩
theorem cD{n:Str}{d:D}(e:m∈Bs)(l:((JR m).zip ds).lookup n=some d)(q:P d t):W (FH n (.exc m ds)) t P:=⟨_,_,by unfold FH;dsimp only;rw[lJ e,l];rfl,q⟩
theorem Vu{g:Fn}{Q:D->List Ob->Prop}(w:Wf g ds S λr S'=>Bt r=false/\Q r S'):Wf (II g) ds S Q:=by
 clear 5 w r S' e h q;exact⟨r,S',by unfold II;rw[e];dsimp only;rw[lK (by rw[h];decide)],q⟩
end
theorem Hi{n:Str}{g:M D}{R:Out->T->Prop}(w:W f t λa t1=>W g t1 λb t2=>R (.ret (.exc n [a,b])) t2):W (Eh n (Ab f (Ab g Ad))) t R:=
 BR (Ey (w.mono λa t1 q=>Ey (q.mono λb t2 q=>IW ⟨_,_,rfl,q⟩)))
local macro_rules | `(tactic| walk_at"x1")=>`(tactic| first
 |walk_at"w1" |clear 31 fV de wNx cE cG Ti|clear 33 X4|clear 32 dl|clear 32 dk|clear 31 Ye Yf|clear 33 fu|clear 33 fv|clear 33 cO|clear 33 cT|((with_reducible refine' cD ?wv ?wu ?_);(case wv=>decide);(case wu=>exact rfl)))
local macro_rules | `(tactic| left)=>`(tactic| repeat (walk_at"x1"))
inductive Rd where
 |done (v:D)
 |need (ok:Nat->Bool) (nx:Nat->Rd)
inductive RR where
 |told (v:D) (a:Nat)
 |short
 |broken (a:Nat)
noncomputable def Rd.run:Rd->List Nat->Nat->RR
 |.done v,_,a=>.told v a
 |.need ok nx,w,a=>match w[a]? with
   |none=>.short
   |some b=>if ok b=true then(nx b).run w (a+1) else .broken a
noncomputable def Rd.bnd:Rd->(D->Rd)->Rd
 |.done v,k=>k v
 |.need ok nx,k=>.need ok λb=>(nx b).bnd k
def RR.thn(r:RR)(w:List Nat)(k:D->Rd):RR:=match r with
 |.told v a=>(k v).run w a
 |.short=>.short
 |.broken a=>.broken a
variable{w:List Nat}{a:Nat}
theorem BQ{ok:Nat->Bool}{nx:Nat->Rd}(h:w[a]?=none):(Rd.need ok nx).run w a=.short:=by rw[Rd.run,h]
variable{b:Nat}
theorem BF{ok:Nat->Bool}{nx:Nat->Rd}(h:w[a]?=some b):(Rd.need ok nx).run w a=if ok b=true then(nx b).run w (a+1) else .broken a:=by rw[Rd.run,h]
theorem Jn(k:D->Rd)(w:List Nat):∀(p:Rd) (a:Nat),(p.bnd k).run w a=(p.run w a).thn w k:=by
 intro p
 induction p with
 |done v=>intro a;rfl
 |need ok nx ih=>
   intro a;rw[Rd.bnd]
   cases h:w[a]? with
   |none=>rw[BQ h,BQ h];rfl
   |some b=>
     rw[BF h,BF h]
     by_cases q:ok b=true
     .rw[lJ q,lJ q];exact ih b (a+1)
     .rw[lK q,lK q];rfl
variable{v:D}
theorem F1:∀(p:Rd) (a:Nat),a<=w.length->p.run w a=.told v b->a<=b/\b<=w.length:=by
 intro p
 induction p with
 |done v'=>intro a ha h;cases h;exact⟨ul4 _,ha⟩
 |need ok nx ih=>
   intro a ha h
   cases e:w[a]? with
   |none=>rw[BQ e] at h;cases h
   |some c=>
     rw[BF e] at h;have hl:=(ua9.mp e).1
     by_cases q:ok c=true
     .rw[lJ q] at h;have:=ih c (a+1) hl h;lia
     .rw[lK q] at h;cases h
theorem EW{k:Nat}:∀(p:Rd) (a:Nat),p.run w a=.broken k->a<=k/\k<w.length:=by
 intro p
 induction p with
 |done v'=>intro a h;cases h
 |need ok nx ih=>
   intro a h
   cases e:w[a]? with
   |none=>rw[BQ e] at h;cases h
   |some c=>
     rw[BF e] at h;have hl:=(ua9.mp e).1
     by_cases q:ok c=true
     .rw[lJ q] at h;have:=ih c (a+1) h;lia
     .rw[lK q] at h;cases h;lia
theorem Om{k:Nat}:∀(p:Rd) (a:Nat),p.run w a=.broken k->p.run (w.take k) a=.short:=by
 intro p
 induction p with
 |done v'=>intro a h;cases h
 |need ok nx ih=>
   intro a h;have hk:=EW _ _ h
   cases e:w[a]? with
   |none=>rw[BQ e] at h;cases h
   |some x=>
     rw[BF e] at h
     by_cases q:ok x=true
     .rw[lJ q] at h;have hk:=EW _ _ h;rw[BF (b:=x) (by rw[ue8,lJ ∅];exact e),lJ q];exact ih x (a+1) h
     .rw[lK q] at h
      cases h
      exact BQ (by rw[ue8,lK ∅])
def Rd.good:Rd->Prop
 |.done _=>True
 |.need ok nx=>(ok 0=true\/ok 32=true)/\∀b,ok b=true->(nx b).good
noncomputable def IK(lo:Int)(M:Nat):Nat->Nat->Rd
 |0,x=>.done (.int (lo+x))
 |r+1,x=>.need (λb=>decide (x*256+b<=M/2 ^ (8*r))) λb=>IK lo M r (x*256+b)
def JZ:Nat->List Nat->Rd
 |0,cs=>.done (.str ⟨cs.toArray⟩)
 |n+1,cs=>.need CF λc=>JZ n (cs++[c])
def IJ(p:Rd):Nat->List D->Rd
 |0,ds=>.done (.lst ds)
 |n+1,ds=>p.bnd λv=>IJ p n (ds++[v])
def pSh:Nat->Sh->Rd
 |0,_=>.done .non
 |_+1,.nothing=>.done .non
 |_+1,.number lo hi=>IK lo (hi-lo).toNat (wid (hi-lo).toNat) 0
 |_+1,.text q=>.need (λb=>decide ((b:Int)<=q)) λb=>JZ b []
 |n+1,.list s q=>.need (λb=>decide ((b:Int)<=q)) λb=>IJ (pSh n s) b []
 |n+1,.pair s r=>(pSh n s).bnd λv=>(pSh n r).bnd λu=>.done (.tup [v,u])
 |n+1,.choice ss=>.need (λb=>decide (b<ss.length)) λb=>(pSh n (ss.getD b .nothing)).bnd λv=>.done (.tup [.str "of",.int b,v])
mutual
noncomputable def plD:D->Bool
 |.lst xs=>pls xs
 |.tup xs=>pls xs
 |.obj _=>false
 |.scr _=>false
 |.ty _=>false
 |.exc _ _=>false
 |.dic=>false
 |_=>true
noncomputable def pls:List D->Bool
 |[]=>true
 |d::r=>plD d&&pls r
end
theorem TN{k:Int}(h0:0<=k)(h1:k<=xs.length):BZ xs none (some k)=xs.take k.toNat:=by
 have:HT.sIx xs.length xs.length (some k)=k.toNat:=by simp only[HT.sIx];rw[lK ∅];lia
 unfold BZ;rw[this];simp[HT.sIx]
variable{α:Type}
theorem V8(xs:List α)(lo hi:Option Int):(BZ xs lo hi).length<=xs.length:=by
 unfold BZ;rw[ug4,ug5];lia
noncomputable def pos(i:Int):Int:=if 0<i then i else 0
structure ValueRes2(k c l:Nat)(S:List Ob)(s:Sh)(a b:Int)(r:D)(S':List Ob):Prop where
 fit:Ap s r=true
 lft:∃a' b':Int,S'[l]?=some (.lst [.int a',.int b'])/\((Bn s r).length:Int)<=9*(a-a')+(pos b-pos b')/\pos b'<=pos b/\1<=a-a'/\a-a'<=cnt s+(14*(s.depth:Int))*pos a
 deck:DeckAt k c S'
 kp:Pv k c l S S'
mutual
noncomputable def szE:D->Nat
 |.lst xs=>1+Vg xs
 |.tup xs=>1+Vg xs
 |_=>1
noncomputable def Vg:List D->Nat
 |[]=>0
 |d::r=>szE d+Vg r
end
structure VOk(s:Sh)(v:D):Prop where
 fit:Ap s v=true
 len:(Bn s v).length<=14809
local macro_rules | `(tactic| walk_at"y1")=>`(tactic| first
 |walk_at"x1" |clear 31 Hi)
local macro_rules | `(tactic| symm)=>`(tactic| repeat (walk_at"y1"))
local macro_rules
|`(tactic|rw[6,$f $a*])=>`(tactic|(refine $f $a* ?_;symm))
|`(tactic|rw[6,$f:ident])=>`(tactic|(refine $f ?_;symm))
|`(tactic|rw[7,$f $a*])=>`(tactic|(refine $f $a* ?_;right))
|`(tactic|rw[7,$f:ident])=>`(tactic|(refine $f ?_;right))
|`(tactic|rw[8,$f $a*])=>`(tactic|(refine $f $a* ?_;left))
|`(tactic|rw[8,$f:ident])=>`(tactic|(refine $f ?_;left))
|`(tactic|rw[6,$f:term])=>`(tactic|(refine $f ?_;symm))
|`(tactic|rw[7,$f:term])=>`(tactic|(refine $f ?_;right))
|`(tactic|rw[8,$f:term])=>`(tactic|(refine $f ?_;left))
|`(tactic|rw[9,$f:ident])=>`(tactic|(refine Am rfl ?_;unfold $f:ident;symm))
noncomputable def wD(w:List Nat):List D:=w.map λ(n:Nat)=>D.int (n:Int)
theorem Bj(w:List Nat):(wD w).length=w.length:=by unfold wD;rw[uh7]
theorem Tn(h:w[a]?=some b):(wD w)[a]?=some (.int (b:Int)):=by unfold wD;rw[uf2,h];rfl
abbrev exS:D:=.exc "Short" []
abbrev exB(a:Nat):D:=.exc "Broken" [.int (a:Int),.non]
noncomputable def rrD:RR->D
 |.told v b=>.tup [v,.int (b:Int)]
 |.short=>exS
 |.broken a=>exB a
noncomputable def byX:Option Nat->D
 |none=>exS
 |some b=>.int (b:Int)
noncomputable def upX(m:Int)(a:Nat):Option Nat->D
 |none=>exS
 |some b=>if (b:Int)<=m then .int (b:Int) else exB a
def sgX(a:Nat):Option Nat->D
 |none=>exS
 |some c=>if CF c=true then .str ⟨#[c]⟩ else exB a
def RX(c:Fn)(s:Sh)(p:Rd):Prop:=∀(w:List Nat) (a:Nat),a<=w.length->Pure1 c [s.d,.lst (wD w),.int (a:Int)] (rrD (p.run w a))
theorem Lb(x y:List Nat):wD (x++y)=wD x++wD y:=by unfold wD;rw[ui7]
variable{kvs:List (Key×D)}
theorem AS{x:Str}{d:D}(e:t.S[n]?=some (.dct kvs))(e2:Bb kvs (.inr x)=some d)(h:P d t):W (Az (.obj n) (.str x)) t P:=
 ⟨d,t,by simp only[Az,e,e2];rfl,h⟩
variable{U:Unit->T->Prop}
theorem Ld{g:M D}{d:D}(h:W f t λo t1=>W g t1 λi t2=>W (F0 o i d) t2 U):W (CG f g d) t U:=BR (h.mono λo t1 h1=>BR h1)
theorem Em{x:Str}{d:D}(e:t.S[n]?=some (.dct kvs))(hl:kvs.length<LIM)(h:U () ⟨t.env,t.S.set n (.dct (BP kvs (.inr x) d))⟩):W (F0 (.obj n) (.str x) d) t U:=
 ⟨(),_,by simp only[F0,e,lJ hl],h⟩
theorem V0{l:List (Str×M D)}(h:W (EH l) ⟨t.env,t.S++[.dct []]⟩ λps t1=>t1.S[t.S.length]?=some (.dct [])/\ps.length<=15/\P (.obj t.S.length) ⟨t1.env,t1.S.set t.S.length (.dct (DT ps))⟩):W (Dk l) t P:=by
 clear 5 h ps t1 e1 e2 e3 p;refine⟨_,_,?_,p⟩;unfold Dk bnd;simp only[e1];unfold FZ;simp only[e2,lJ e3]
theorem MD{Q:List (Key×D)->T->Prop}(h:Q [] t):W (EH []) t Q:=⟨_,_,rfl,h⟩
theorem HQ{k:Str}{r:List (Str×M D)}{Q:List (Key×D)->T->Prop}(h:W f t λd t1=>W (EH r) t1 λps t2=>Q ((.inr k,d)::ps) t2):W (EH ((k,f)::r)) t Q:=
 BR (h.mono λd t1 h1=>BR (h1.mono λps t2 h2=>⟨_,_,rfl,h2⟩))
structure St where
 rest:Int
 mixed:Bool
 turn:Int
noncomputable def St.ob(s:St):Ob:=.dct [(.inr (Str.ofString "rest"),.int s.rest),(.inr (Str.ofString "mixed"),.bl s.mixed),(.inr (Str.ofString "turn"),.int s.turn)]
noncomputable def take(s:St)(m:Int):Int×St:=
 if s.mixed=false then(s.rest%m,⟨s.rest/m,s.mixed,s.turn⟩)
 else
  let stir:=(s.rest%2147483579+70001*(s.turn+1))%2147483579
  let rest:=(stir*stir%2147483563*50021+7)%2147483579
  (rest/5%m,⟨rest,s.mixed,s.turn+1⟩)
theorem ET(a:Int)(n:Nat):(Bx a n).length=n:=by simp[Bx]
inductive GS where
 |fin
 |st (side:Str) (ws:List (Str×Sh×Int))
def wdD(w:Str×Sh×Int):D:=.tup [.str w.1,w.2.1.d,.int w.2.2]
def GS.d:GS->D
 |.fin=>.tup [.str (Str.ofString "end")]
 |.st side ws=>.tup [.str side,.lst (ws.map wdD)]
noncomputable def GS.isFin:GS->Bool
 |.fin=>true
 |_=>false
theorem N4{a:Int}{d:D}{r:List D}(e:d::r=(Bx a n).drop j):d=.int (a+j)/\r=(Bx a n).drop (j+1)/\j<n:=by
 have hj:j<(Bx a n).length:=by
  rcases lm j (Bx a n).length with h|h
  .exact h
  .rw[jp h] at e;cases e
 rw[ub1 hj] at e;injection e with e1 e2
 rw[ET] at hj;refine⟨?_,e2,hj⟩;rw[e1];simp[Bx]
structure WOk(n:Int)(w:Str×Sh×Int):Prop where
 ok:wf w.2.1=true
 dep:w.2.1.depth<=3
 lo:0<=w.2.2
 hi:w.2.2<n
 nm:w.1.length<=90000
inductive GSOk(n:Int):GS->Prop
 |fin:GSOk n .fin
 |st {side:Str}{ws:List (Str×Sh×Int)}:(side=Str.ofString "left"\/side=Str.ofString "right")->0<ws.length->ws.length<=9->(ws.map (·.1)).Nodup->(∀w∈ws,WOk n w)->GSOk n (.st side ws)
structure GOk(g:List GS):Prop where
 ne:0<g.length
 le:g.length<=30
 all:∀x∈g,GSOk g.length x
def Lg(f:Fn):Prop:=∀(n:Int) (x:GS),GSOk n x->Pure1 f [x.d] (.bl x.isFin)
theorem Iu:Lg (fnOf 1 1 Cg):=by
 intro n x hx S;refine Am rfl ?_;unfold Cg
 cases hx with
 |fin=>
   rw[GS.d];right;exact⟨by simp[GS.isFin],rfl⟩
 |st hs _ _ _ _=>
   rw[GS.d];right;refine⟨?_,rfl⟩;rcases hs with rfl|rfl<;>simp[GS.isFin]
def GS.words:GS->D
 |.fin=>.tup []
 |.st _ ws=>.lst (ws.map wdD)
noncomputable def GS.ws:GS->List (Str×Sh×Int)
 |.fin=>[]
 |.st _ ws=>ws
def Lj(f:Fn):Prop:=∀(n:Int) (x:GS),GSOk n x->Pure1 f [x.d] x.words
theorem Vr{ce:Fn}(he:Lg ce):Lj (fnOf 1 1 (HB ce)):=by
 intro n x hx S;refine Am rfl ?_;unfold HB
 cases x with
 |fin=>
   right;rw[7,(he n .fin hx).use];exact⟨rfl,rfl⟩
 |st side ws=>
   right;refine(he n (.st side ws) hx).use ?_;rw[GS.d];right;exact⟨rfl,rfl⟩
noncomputable def NW:Option Nat->D
 |some i=>.int i
 |none=>.non
def Hk(f:Fn):Prop:=∀(n:Int) (x:GS) (nm:Str),GSOk n x->Pure1 f [x.d,.str nm] (NW (x.ws.findIdx? λw=>w.1==nm))
theorem Ip{p:α->Bool}{l:List α}(h:∀i (hi:i<l.length),i<j->p l[i]=false){x:α}(hx:l[j]?=some x)(hp:p x=true):l.findIdx? p=some j:=by
 clear 5(ua9.mp hx)hj e;rw[ua0];exact⟨hj,by rw[e];exact hp,λi hi=>by simpa using h i ∅ hi⟩
theorem LN(hw:Lj cw):Hk (fnOf 2 4 (FO cw)):=by
 intro n x nm hx S;refine Am rfl ?_;unfold FO;right;refine(hw n x hx).use ?_;have key:∀(ws:List (Str×Sh×Int)) (d:D),ws.length<=9->(∀(t:T) (P:D->T->Prop),P (.int ws.length) t->W (A4 [d]) t P)->(∀(t:T) (P:D->T->Prop) (i:Nat) (w:Str×Sh×Int),ws[i]?=some w->P (wdD w) t->W (ixD d (.int i)) t P)->
  W (Ag (Dh (DY (Ab (fB (Ab (Aa 2) Ad) A4) Ad)) (Au 3)
  (ifS (Ai (Ac (Ac (Ac (Aa 2) (Aa 3) ixD) (ia 0) ixD) (Aa 1) (eqS id)))
  (Al (Aa 3))
  Aq))
 (Al (fC .non))) ⟨[vw x.d,vw (.str nm),vw d,none],S⟩ λo t=>match o with
   |.ret r=>r=NW (ws.findIdx? λw=>w.1==nm)/\t.S=S
   |.next=>D.non=NW (ws.findIdx? λw=>w.1==nm)/\t.S=S
   |_=>False:=by
   intro ws d hl len ix;right;rw[7,len _ _];refine IX (DO ∅ ∅) ?_;refine EI (λr t=>∃(j:Nat) (e3:Option Sl),(∀i (hi:i<ws.length),i<j->(ws[i].1==nm)=false)/\j<=ws.length/\r=(Bx 0 ((ws.length:Nat):Int).toNat).drop j/\t=⟨[vw x.d,vw (.str nm),vw d,e3],S⟩) _ _ ⟨0,none,λi hi h=>absurd h ∅,by lia,rfl,rfl⟩ ?_ ?_
   .rintro d' r t ⟨j,e3,hj,hjl,hr,rfl⟩ _;clear 5(N4 hr)rfl hr' hjn;rw[uf3] at hjn;have e:ws[j]?=some ws[j]:=ub3 hjn;rw[ln];right;refine ix _ _ j _ e ?_;unfold wdD;right;refine CZ (λq=>?_) λq=>?_
    .right;refine⟨?_,rfl⟩;rw[Ip hj e q];rfl
    .right;refine⟨j+1,_,λi hi hij=>?_,by lia,hr',rfl⟩;rcases lm i j with h|h
     .exact hj i hi h
     .have:i=j:=by lia
      subst this;exact q
   .rintro t ⟨j,e3,hj,hjl,hr,rfl⟩;have hj':j=ws.length:=by
     have:=lD List.length hr;rw[ui5,ug5,ET,uf3] at this;lia
    subst hj';right;refine⟨?_,rfl⟩;rw[List.findIdx?_eq_none_iff.mpr]
    .rfl
    .intro w hw';clear 5(List.mem_iff_getElem.mp hw')i hi rfl;exact hj i hi hi
 cases hx with
 |fin=>
   refine BM ?_;refine key [] (.tup []) (by decide) (λt P h=>V2 h) λt P i w e h=>?_;simp at e
 |@st side ws h1 h2 h3 h4 h5=>
   refine BM ?_;refine key ws (.lst (ws.map wdD)) h3 (λt P h=>QN (by rw[uh7];exact h)) λt P i w e h=>?_;obtain⟨hi,_⟩:=ua9.mp e;refine BJ ?_ h;unfold atI;rw[EZ ∅ (by rw[uh7];lia)];show(ws.map wdD)[(i:Int).toNat]?=_;rw[uf3,uf2,e];rfl
theorem V9{x:Str}:eqN n (.str x) (.str x)=some true:=by
 cases n<;>(show some (x==x)=some true;rw[uh4])
theorem OK{x:Int}:eqN n (.int x) (.int x)=some true:=by
 cases n<;>(show some (x==x)=some true;rw[uh4])
theorem Lw(h:∀x∈xs,eqN n x x=some true):eqN (n+1) (.tup xs) (.tup xs)=some true:=by
 rw[eqN,EY h];simp
theorem OL(h:∀x∈xs,eqN n x x=some true):eqN (n+1) (.lst xs) (.lst xs)=some true:=by
 rw[eqN,lJ rfl,EY h]
noncomputable def GS.side:GS->Str
 |.fin=>Str.ofString "end"
 |.st s _=>s
noncomputable def AW(g:List GS)(q:Nat):GS:=g.getD q .fin
def wdAt(g:List GS)(q p:Nat):Str×Sh×Int:=(AW g q).ws.getD p (Str.ofString "",.nothing,0)
def Ct(g:List GS)(q p:Nat):Nat:=(wdAt g q p).2.2.toNat
def Qg(g:List GS)(q p:Nat)(v:D):D:=.tup [.str (AW g q).side,.str (wdAt g q p).1,v]
abbrev Mv:=Nat×D
def KL(g:List GS):Nat->List Mv->Nat
 |q,[]=>q
 |q,(p,_)::r=>KL g (Ct g q p) r
def VL(g:List GS):Nat->List Mv->List D
 |_,[]=>[]
 |q,(p,v)::r=>Qg g q p v::VL g (Ct g q p) r
structure MvOk(g:List GS)(q:Nat)(p:Nat)(v:D):Prop where
 lt:q<g.length
 pl:p<(AW g q).ws.length
 fit:Ap (wdAt g q p).2.1 v=true
def okQ(g:List GS):Nat->List Mv->Prop
 |_,[]=>True
 |q,(p,v)::r=>MvOk g q p v/\okQ g (Ct g q p) r
variable{g:List GS}
theorem En(h:GOk g){q:Nat}(hq:q<g.length):GSOk g.length (AW g q):=by
 unfold AW;rw[ua8,ub3 hq];exact h.all _ (uh3 hq)
variable{q:Nat}
theorem Gb(hq:q<g.length):atI (g.map GS.d) q=some (AW g q).d:=by
 unfold atI;rw[EZ ∅ (by rw[uh7];lia)];show(g.map GS.d)[(q:Int).toNat]?=_;unfold AW;rw[uf3,uf2,ua8,ub3 hq];rfl
variable{p:Nat}
theorem KZ(hp:p<(AW g q).ws.length):∃side ws,AW g q=.st side ws/\p<ws.length/\ws[p]?=some (wdAt g q p):=by
 unfold wdAt
 cases e:AW g q with
 |fin=>rw[e] at hp;simp[GS.ws] at hp
 |st side ws=>
   rw[e] at hp;have hp:p<ws.length:=hp;refine⟨side,ws,rfl,hp,?_⟩;show ws[p]?=some (ws.getD p _);rw[ua8,ub3 hp];rfl
theorem Hj{ws:List (Str×Sh×Int)}{w:Str×Sh×Int}(e:ws[p]?=some w):atI (ws.map wdD) p=some (wdD w):=by
 obtain⟨hp,_⟩:=ua9.mp e;unfold atI;rw[EZ ∅ (by rw[uh7];lia)];show(ws.map wdD)[(p:Int).toNat]?=_;rw[uf3,uf2,e];rfl
theorem Le(h:GOk g){q p:Nat}(hq:q<g.length)(hp:p<(AW g q).ws.length):WOk g.length (wdAt g q p):=by
 clear 5(KZ hp)side ws e hp' e2;have:=En h hq;rw[e] at this
 cases this with
 |st _ _ _ _ h5=>exact h5 _ (ud3 e2)
theorem WV(h:GOk g){q p:Nat}(hq:q<g.length)(hp:p<(AW g q).ws.length):Ct g q p<g.length:=by
 have:=Le h hq hp;unfold Ct;have h1:=this.lo;have h2:=this.hi;lia
theorem PY{ws:List (Str×Sh×Int)}(nd:(ws.map (·.1)).Nodup){p:Nat}{w:Str×Sh×Int}(e:ws[p]?=some w):(ws.findIdx? λx=>x.1==w.1)=some p:=by
 clear 5(ua9.mp e)hp ep;refine Ip (λi hi hip=>?_) e (by simp);rw[<-ep];have hne:¬ws[i].1=ws[p].1:=λz=>by
  have h1:i<(ws.map (·.1)).length:=by rw[uh7];exact hi
  have h2:p<(ws.map (·.1)).length:=by rw[uh7];exact hp
  have:(ws.map (·.1))[i]=(ws.map (·.1))[p]:=by rw[List.getElem_map,List.getElem_map];exact z
  have:=(ug1 nd).mp this;lia
 simpa using hne
theorem O4:∀{xs:List D},(∀d∈xs,okD d=true)->oks xs=true
 |[],_=>by rw[oks]
 |d::r,h=>by rw[oks,h d ue1,O4 λx m=>h x (ud1 _ m)];rfl
set_option tactic.hygienic true in
theorem Fr:∀(n:Nat) (s:Sh),s.depth<=n->wf s=true->∀v,Ap s v=true->okD v=true
 |0,s,h,_,_,_=>absurd s.depth_pos ∅
 |n+1,s,hd,hw,v,h=>by
   cases s with
   |nothing=>cases v<;>first|rfl|(simp[Ap,KI] at h;done)
   |number lo hi=>cases v<;>first|rfl|(simp[Ap] at h;done)
   |text q=>
     simp only[wf,ug8,uf9] at hw
     cases v<;>simp only[Ap,ue6] at h
     simp only[ug8,uf9] at h;rw[okD,uf9];lia
   |list s q=>
     rw[Sh.depth] at hd;simp only[wf,ug8,uf9] at hw
     cases v<;>simp only[Ap,ue6] at h
     simp only[ug8,uf9,uh0] at h;rw[okD];exact O4 λd m=>Fr n s ∅ hw.2 d (h.2 d m)
   |pair a b=>
     rw[Sh.depth] at hd;simp only[wf,ug8] at hw;unfold Ap at h
     split at h
     .rw[ug8] at h;rw[okD,oks,oks,oks,Fr n a ∅ hw.1 _ h.1,Fr n b ∅ hw.2 _ h.2];rfl
     .cases h
   |choice ss=>
     rw[Sh.depth] at hd;simp only[wf,ug8,uf9] at hw;unfold Ap at h
     split at h
     .next o k x=>
      simp only[ug8,uf9] at h;have hk:k.toNat<ss.length:=by lia
      have e1:ss[k.toNat]?=some ss[k.toNat]:=ub3 hk;have h2:=h.2;rw[Eb ss _ _ _ e1] at h2;have ho:o=("of":Str):=eq_of_beq h.1.1;have hx:=Fr n _ (uk9 (Ej ss _ _ e1) ∅) (F3 hw.2 _ (uh3 hk)) x h2;subst ho;have hl:okD (.str ("of":Str))=true:=by decide +kernel
      rw[okD,oks,oks,oks,oks,hl,hx];rfl
     .cases h
def JD(f:Fn):Prop:=∀(g:List GS) (q p:Nat) (v:D),GOk g->MvOk g q p v->Pure1 f [(AW g q).d,Qg g q p v] (.int p)
theorem MM{cf:Fn}(hf:F4 cf 3)(hp:Hk cp):JD (fnOf 2 3 (Eg cf cp)):=by
 intro g q p v hg hm S;refine Am rfl ?_;unfold Eg;clear 5(KZ hm.pl)side ws e hpl ew;have hgs:=En hg hm.lt;have hw:=Le hg hm.lt hm.pl;have hfit:=hm.fit;unfold Qg;rw[e] at hgs⊢;generalize wdAt g q p=w at ew hw hfit⊢;have hov:okD v=true:=Fr 3 w.2.1 hw.dep hw.ok v hfit;show W _ ⟨[vw (.tup [.str side,.lst (ws.map wdD)]),vw (.tup [.str side,.str w.1,v]),none],S⟩ _;right;rw[7,DV (by simp)];have hpn:=hp g.length (.st side ws) w.1 hgs;have hidx:((GS.st side ws).ws.findIdx? λx=>x.1==w.1)=some p:=by
  cases hgs with
  |st _ _ _ h4 _=>exact PY h4 ew
 rw[hidx] at hpn;refine hpn.use ?_;show DM _ _ .next ⟨[vw (.tup [.str side,.lst (ws.map wdD)]),vw (.tup [.str side,.str w.1,v]),vw (.int p)],S⟩;right;refine BJ (Hj ew) ?_;unfold wdD;right;refine(hf w.2.1 hw.dep v hov).use ?_;rw[hfit];right;exact⟨rfl,rfl⟩
def M1(f:Fn):Prop:=∀(g:List GS) (q p:Nat),GOk g->q<g.length->p<(AW g q).ws.length->Pure1 f [.lst (g.map GS.d),.tup [.int q,.int p]] (.int (Ct g q p))
theorem WW:M1 (fnOf 2 2 Gk):=by
 intro g q p hg hq hp S;refine Am rfl ?_;unfold Gk;clear 5(KZ hp)side ws e hpl ew;have hw:=Le hg hq hp;have hlo:=hw.lo;right;refine BJ (Gb hq) ?_;rw[e,GS.d];right;refine BJ (Hj ew) ?_;unfold wdD;right;refine⟨?_,rfl⟩;unfold Ct
 congr 1
 lia
abbrev kR:Key:=.inr (Str.ofString "rest")
abbrev kM:Key:=.inr (Str.ofString "mixed")
abbrev kC:Key:=.inr (Str.ofString "count")
abbrev bS(a b c:D):List (Key×D):=[(kR,a),(kM,b),(kC,c)]
def Room(k r:Nat)(S:List Ob):Prop:=∃(a c:Int) (b:Bool),S[k]?=some (.dct (bS (.int a) (.bl b) (.int c)))/\0<=c/\c+r<=1000000000000000000000000000000
theorem AN{k:Nat}{o o':Ob}(h:S[k]?=some o):(S.set k o')[k]?=some o':=WC h
theorem AU{x:Ob}:(S++[x])[S.length]?=some x:=by simp
noncomputable def cs:Nat->Nat
 |0=>10
 |d+1=>10+3*cs d
structure Drawn(k r:Nat)(dp:Nat)(v:D)(S':List Ob):Prop where
 ex:∃s:Sh,v=s.d/\s.depth<=dp/\wf s=true
 pool:Room k r S'
structure Val(k r:Nat)(s:Sh)(c:Nat)(v:D)(S':List Ob):Prop where
 fit:Ap s v=true
 len:(Bn s v).length<=c
 pool:Room k r S'
theorem Ir(h:∀x∈xs,∃i:Int,x=.int i):eqN EQD (.lst xs) (.lst xs)=some true:=by
 show eqN (39+1) _ _=_;rw[eqN,lJ rfl];refine EY λd m=>?_;clear 5(h d m)i rfl;show some (i==i)=some true;rw[uh4]
def hd1(x:Str):Option Nat:=x.cps.toList.head?
def okB(g:List GS):Nat->List Mv->Prop
 |_,[]=>True
 |q,(p,v)::r=>(Bn (wdAt g q p).2.1 v).length<=400/\okB g (Ct g q p) r
structure TOk(g:List GS)(mv:List Mv):Prop where
 ok:okQ g 0 mv
 bd:okB g 0 mv
 len:mv.length<=60
theorem Js{k:Nat}{h:List D->List D->Option (List D)}{g:M (List D)}(w:W f t λo t1=>o=.obj k/\∃xs0,t1.S[k]?=some (.lst xs0)/\W g t1 λds t2=>∃xs ys,t2.S[k]?=some (.lst xs)/\h xs ds=some ys/\P .non ⟨t2.env,t2.S.set k (.lst ys)⟩):W (objM h f g) t P:=by
 unfold objM;refine W_bnd.mpr (w.mono λo t1 z9=>?_);clear 5 z9 e xs0 e1 w;subst e;clear 5 w ds t2 e2 xs ys e3 e4 p;refine⟨_,_,?_,p⟩;simp only[e1,bnd,e2,e3,e4];rfl
def Fi(g:List GS)(sd:Str):Nat->List Mv->List D
 |_,[]=>[]
 |q,(p,v)::r=>(if (AW g q).side=sd then .int p::Bn (wdAt g q p).2.1 v else [])++Fi g sd (Ct g q p) r
abbrev kL:Key:=.inr (Str.ofString "left")
abbrev kRt:Key:=.inr (Str.ofString "right")
theorem kLR:¬kL=kRt:=by intro h;injection h with h;rw[IH] at h;exact absurd h (by decide)
theorem kRL:¬kRt=kL:=λh=>kLR h.symm
theorem sLR:¬Str.ofString "left" = Str.ofString "right":=λh=>kLR (lD Sum.inr h)
theorem WK{a b:D}:Bb [(kL,a),(kRt,b)] kL=some a:=by simp[Bb,ui4]
theorem WL{a b:D}:Bb [(kL,a),(kRt,b)] kRt=some b:=by
 unfold Bb;rw[ui4,show decide (kL=kRt)=false from ui9 kLR];simp[ui4]
theorem Ur{a b:D}:DT [(kL,a),(kRt,b)]=[(kL,a),(kRt,b)]:=by
 unfold DT;simp only[ui3,List.foldl_nil];have e1:BP [] kL a=[(kL,a)]:=by simp[BP]
 rw[e1];unfold BP;rw[lK (by simp only[uk0,List.any_nil,uj9,uf9];exact kLR)];rfl
theorem WM{a b d:D}:BP [(kL,a),(kRt,b)] kL d=[(kL,d),(kRt,b)]:=by
 unfold BP;rw[lJ (by simp)];simp only[uj8,ul1,lH,lK kRL]
theorem WN{a b d:D}:BP [(kL,a),(kRt,b)] kRt d=[(kL,a),(kRt,d)]:=by
 unfold BP;rw[lJ (by simp)];simp only[uj8,ul1,lH,lK kLR]
abbrev sL:Str:=Str.ofString "left"
abbrev sR:Str:=Str.ofString "right"
structure Wr(K A B:Nat)(S:List Ob)(xs ys:List D):Prop where
 k:S[K]?=some (.dct [(kL,.obj A),(kRt,.obj B)])
 a:S[A]?=some (.lst xs)
 b:S[B]?=some (.lst ys)
 ab:A≠B
 ka:K≠A
 kb:K≠B
def FrO(F:List (Nat×Ob))(k:Nat)(S:List Ob):Prop:=∀p∈F,p.1≠k/\S[p.1]?=some p.2
def ba(F:List (Nat×Ob))(k r:Nat)(S:List Ob):Prop:=Room k r S/\FrO F k S
structure ValF(F:List (Nat×Ob))(k r:Nat)(s:Sh)(c:Nat)(v:D)(S':List Ob):Prop where
 fit:Ap s v=true
 len:(Bn s v).length<=c
 pool:ba F k r S'
noncomputable def GS.sd:GS->Str
 |.fin=>Str.ofString "end"
 |.st s _=>s
inductive Odd(x:GS):D->Prop
 |non:Odd x .non
 |lst {ds:List D}:Odd x (.lst ds)
 |two {a b:D}:Odd x (.tup [a,b])
 |four {a b c d:D}:Odd x (.tup [a,b,c,d])
 |sideN {b c:D}:Odd x (.tup [.non,b,c])
 |side {s:Str}{b c:D}:¬s=x.sd->Odd x (.tup [.str s,b,c])
 |nmN {s:Str}{c:D}:Odd x (.tup [.str s,.non,c])
 |nmI {s:Str}{i:Int}{c:D}:Odd x (.tup [.str s,.int i,c])
 |nm {s nm:Str}{c:D}:(x.ws.findIdx? λw=>w.1==nm)=none->Odd x (.tup [.str s,.str nm,c])
 |val {s nm:Str}{c:D}{p:Nat}{w:Str×Sh×Int}:(x.ws.findIdx? λw=>w.1==nm)=some p->x.ws[p]?=some w->okD c=true->Ap w.2.1 c=false->Odd x (.tup [.str s,.str nm,c])
def Rq(n:Nat)(d:D):Prop:=∀m,n<=m->eqN m d d=some true
theorem Rq.mono{m:Nat}{d:D}(h:Rq n d)(e:n<=m):Rq m d:=λk hk=>h k (uk9 e hk)
theorem ah{i:Int}:Rq n (.int i):=λm _=>by cases m<;>(show some (i==i)=some true;rw[uh4])
theorem aj{i:Str}:Rq n (.str i):=λm _=>by cases m<;>(show some (i==i)=some true;rw[uh4])
theorem KW:Rq n .non:=λm _=>by cases m<;>rfl
theorem ak(h:∀x∈xs,Rq n x):Rq (n+1) (.tup xs):=λm hm=>by
 obtain⟨k,rfl⟩:∃k,m=k+1:=jm ∅;have e:D6 (eqN k) xs xs=some true:=EY λx hx=>h x hx k ∅;rw[eqN,e];simp
theorem ai(h:∀x∈xs,Rq n x):Rq (n+1) (.lst xs):=λm hm=>by
 obtain⟨k,rfl⟩:∃k,m=k+1:=jm ∅;rw[eqN,lJ rfl];exact EY λx hx=>h x hx k ∅
theorem dM{p:D->Prop}{a:D}(h:p a):∀x∈[a],p x:=λx hx=>by rw[ue7.mp hx];exact h
theorem PJ{p:D->Prop}{a b:D}(h:p a)(h2:p b):∀x∈[a,b],p x:=λx hx=>(uj7.mp hx).elim (λe=>by rw[e];exact h) (dM h2 x)
theorem Yv{p:D->Prop}{a b c:D}(h:p a)(h2:p b)(h3:p c):∀x∈[a,b,c],p x:=λx hx=>(uj7.mp hx).elim (λe=>by rw[e];exact h) (PJ h2 h3 x)
structure Mis(n:Nat)(s:Sh)(v:D):Prop where
 ok:okD v=true
 no:Ap s v=false
 rq:Rq n v
structure Fit(n:Nat)(s:Sh)(v:D):Prop where
 ok:okD v=true
 fit:Ap s v=true
 rq:Rq n v
def Gr(S S':List Ob):Prop:=S.length<=S'.length/\∀i,i<S.length->S'[i]?=S[i]?
theorem Gr.refl:Gr S S:=⟨ul4 _,λ_ _=>rfl⟩
theorem Gr.trans{S S1 S2:List Ob}(a:Gr S S1)(b:Gr S1 S2):Gr S S2:=⟨uk9 a.1 b.1,λi h=>(b.2 i (ue0 h a.1)).trans (a.2 i h)⟩
theorem Gr.app{ex:List Ob}:Gr S (S++ex):=⟨by rw[ue5];lia,λi h=>ub0 h⟩
theorem Gr.set{S S':List Ob}{k:Nat}{o:Ob}(a:Gr S S')(h:S.length<=k):Gr S (S'.set k o):=⟨by rw[ui2];exact a.1,λi hi=>by rw[ud2 ∅];exact a.2 i hi⟩
theorem Gr.get{S S':List Ob}{k:Nat}{o:Ob}(a:Gr S S')(h:S[k]?=some o):S'[k]?=some o:=by rw[a.2 k (ua9.mp h).1];exact h
abbrev lr(a b:D):List (Key×D):=[(kL,a),(kRt,b)]
abbrev dP(a b:Nat):List (Key×D):=lr (.int a) (.int b)
noncomputable def onS{α:Type}(s:Str)(a b:α):α:=if s=sL then a else b
variable{s:Str}
theorem R9{a b:D}(h:s=sL\/s=sR):Bb (lr a b) (.inr s)=some (onS s a b):=by
 unfold onS;rcases h with rfl|rfl
 .rw[lJ rfl];exact WK
 .rw[lK (Ne.symm sLR)];exact WL
theorem Sa{a b d:D}(h:s=sL\/s=sR):BP (lr a b) (.inr s) d=lr (onS s d a) (onS s b d):=by
 unfold onS;rcases h with rfl|rfl
 .rw[lJ rfl,lJ rfl];exact WM
 .rw[lK (Ne.symm sLR),lK (Ne.symm sLR)];exact WN
set_option tactic.hygienic true
inductive Sr where
 |stop
 |brk (k:Nat) (s:Str)
 |next (m:D) (h a b:Nat)
def msgR(side:Str)(ws:List (Str×Sh×Int))(w:List Nat)(p:Nat):RR×Nat:=match w[p]? with
 |none=>(.short,0)
 |some c=>match ws[c]? with
   |none=>(.broken p,0)
   |some wd=>((pSh 3 wd.2.1).run w (p+1),c)
def FQ(side:Str)(ws:List (Str×Sh×Int))(w:List Nat)(p:Nat):D:=match msgR side ws w p with
 |(.short,_)=>.non
 |(.broken k,_)=>.exc "Broken" [.int k,.str side]
 |(.told v e,c)=>.tup [.tup [.str side,.str (ws.getD c (Str.ofString "",.nothing,0)).1,v],.int (ws.getD c (Str.ofString "",.nothing,0)).2.2,.int e]
def Bv(g:List GS)(wl wr:List Nat)(h a b:Nat):Sr:=match AW g h with
 |.fin=>.stop
 |.st side ws=>match msgR side ws (onS side wl wr) (onS side a b) with
   |(.short,_)=>.stop
   |(.broken k,_)=>.brk k side
   |(.told v e,c)=>.next (.tup [.str side,.str (ws.getD c (Str.ofString "",.nothing,0)).1,v]) (ws.getD c (Str.ofString "",.nothing,0)).2.2.toNat (onS side e a) (onS side b e)
abbrev Rs:=List D×Nat×Nat×Nat×Option (Nat×Str)
def Bh(g:List GS)(wl wr:List Nat):Nat->Nat->Nat->Nat->List D->Rs
 |0,h,a,b,t=>(t,h,a,b,none)
 |f+1,h,a,b,t=>match Bv g wl wr h a b with
   |.stop=>(t,h,a,b,none)
   |.brk k s=>(t,h,a,b,some (k,s))
   |.next m h' a' b'=>Bh g wl wr f h' a' b' (t++[m])
structure Pl(g:List GS)(wl wr:List Nat)(h a b:Nat):Prop where
 h:h<g.length
 a:a<=wl.length
 b:b<=wr.length
variable{wl wr:List Nat}
set_option tactic.hygienic false
theorem ZC(ha:a<=wl.length)(hb:b<=wr.length):onS s a b<=(onS s wl wr).length:=by unfold onS;split<;>assumption
variable{h:Nat}
set_option tactic.hygienic true in
theorem GK(hg:GOk g)(p:Pl g wl wr h a b){m:D}{h' a' b':Nat}(e:Bv g wl wr h a b=.next m h' a' b'):Pl g wl wr h' a' b'/\a+b<a'+b':=by
 have hgs:=En hg p.h;unfold Bv at e
 cases eg:AW g h with
 |fin=>rw[eg] at e;cases e
 |st side ws=>
   rw[eg] at e hgs
   cases hgs with
   |@st _ _ hs1 hs2 hs3 hs4 hs5=>
   dsimp only at e;unfold msgR at e
   cases hb:(onS side wl wr)[onS side a b]? with
   |none=>rw[hb] at e;cases e
   |some c=>
     rw[hb] at e;dsimp only at e
     cases hw:ws[c]? with
     |none=>rw[hw] at e;cases e
     |some wd=>
       rw[hw] at e;dsimp only at e;obtain⟨hpl,_⟩:=ua9.mp hb;have hwo:=hs5 wd (ud3 hw);have hlo:=hwo.lo;have hhi:=hwo.hi;have hgd:ws.getD c (Str.ofString "",.nothing,0)=wd:=by rw[ua8,hw];rfl
       cases er:(pSh 3 wd.2.1).run (onS side wl wr) (onS side a b+1) with
       |short=>rw[er] at e;cases e
       |broken k=>rw[er] at e;cases e
       |told v x=>
         rw[er] at e;dsimp only at e;rw[hgd] at e;injection e with e1 e2 e3 e4
         clear 5(F1 _ _ hpl er)l1 l2;have pa:=p.a;have pb:=p.b;subst e2;unfold onS at e3 e4 l1 l2
         by_cases q:side=sL
         .rw[lJ q] at e3 e4 l1 l2;exact⟨⟨by lia,by lia,by lia⟩,by lia⟩
         .rw[lK q] at e3 e4 l1 l2;exact⟨⟨by lia,by lia,by lia⟩,by lia⟩
theorem aR{x:Str}{neg:Bool}(e:t.S[n]?=some (.dct kvs))(h:P (.bl (if neg then !(Bb kvs (.inr x)).isSome else(Bb kvs (.inr x)).isSome)) t):W (inS neg (.str x) (.obj n)) t P:=
 ⟨_,_,by simp only[inS,e],h⟩
theorem aM(e:t.S[n]?=some (.dct kvs))(h:P (.obj t.S.length) ⟨t.env,t.S++[.dct kvs]⟩):W (Jd [.obj n]) t P:=
 ⟨_,_,by simp only[Jd,e],h⟩
abbrev Pu(xs:List D):Prop:=∀x∈xs,∃i:Int,x=.int i
theorem E1:∀{xs:List D},Pu xs->FR xs=true
 |[],_=>rfl
 |x::r,h=>by
   clear 5(h x ue1)i rfl;rw[FR,E1 λy m=>h y (ud1 _ m)];rfl
variable{y:D}
theorem HN{g:Bool->Bool}{x d:D}(hx:CV t.S x=d)(hy:CV t.S y=d)(hp:Bu d=true)(he:eqN EQD d d=some true)(h:P (.bl (g true)) t):W (eqT g x y) t P:=
 ⟨_,_,by unfold eqT;rw[hx,hy,hp,he];rfl,h⟩
theorem cR{k:Nat}(e:t.S[k]?=some (.lst xs))(h:P (.bl true) t):W (JU [.obj k,.ty "list"]) t P:=⟨_,_,by simp only[JU,e];rfl,h⟩
def isB(l:List D):Prop:=∀d∈l,∃x:Nat,d=.int (x:Int)/\x<256
theorem RN:∀{l:List D},isB l->∃w:List Nat,l=wD w/\∀x∈w,x<256
 |[],_=>⟨[],rfl,λx z=>nomatch z⟩
 |d::r,h=>by
   clear 5(h d ue1)x rfl hx;obtain⟨w,rfl,hw⟩:=RN λd m=>h d (ud1 _ m);refine⟨x::w,rfl,λy hy=>?_⟩;rcases uj7.mp hy with rfl|hy
   .exact hx
   .exact hw y hy
theorem LC{a b:List D}(ha:isB a)(hb:isB b):isB (a++b):=λd h=>(uh5.mp h).elim (ha d) (hb d)
theorem Gc{x:Nat}{b:List D}(hx:x<256)(hb:isB b):isB (.int (x:Int)::b):=λd h=>by
 rcases uj7.mp h with rfl|h
 .exact⟨x,rfl,hx⟩
 .exact hb d h
theorem Sj:∀(w n:Nat),isB (nb w n)
 |0,n=>λd h=>nomatch h
 |w+1,n=>LC (Sj w _) (Gc (Nat.mod_lt _ (by decide)) λd h=>nomatch h)
set_option tactic.hygienic true in
theorem F8:∀(n:Nat) (s:Sh),s.depth<=n->wf s=true->∀v,Ap s v=true->isB (Bn s v)
 |0,s,h,_,_,_=>absurd s.depth_pos ∅
 |n+1,s,hs,hw,v,hf=>by
   cases s with
   |nothing=>rw[Bn];exact λd h=>nomatch h
   |number lo hi=>
     cases v<;>simp[Ap] at hf
     rw[Bn];exact Sj _ _
   |text q=>
     simp only[wf,ug8,uf9] at hw
     cases v<;>simp only[Ap,ue6] at hf
     rename_i x;simp only[ug8,uf9,uh0] at hf;rw[Bn];refine Gc ∅ λd h=>?_;clear 5(ul2.mp h)c hc rfl;have:=hf.2 c hc;simp only[CF,ug8,uf9] at this;exact⟨c,rfl,by lia⟩
   |list s q=>
     simp only[wf,ug8,uf9] at hw;rw[Sh.depth] at hs
     cases v<;>simp only[Ap,ue6] at hf
     rename_i ds;simp only[ug8,uf9,uh0] at hf;rw[Bn];refine Gc ∅ λd h=>?_;clear 5(List.mem_flatten.mp h)l hl hd;clear 5(ul2.mp hl)e he rfl;exact F8 n s ∅ hw.2 e (hf.2 e he) d hd
   |pair s r=>
     simp only[wf,ug8] at hw;rw[Sh.depth] at hs;unfold Ap at hf
     split at hf
     .rw[ug8] at hf;rw[Bn];exact LC (F8 n s ∅ hw.1 _ hf.1) (F8 n r ∅ hw.2 _ hf.2)
     .cases hf
   |choice ss=>
     simp only[wf,ug8,uf9] at hw;rw[Sh.depth] at hs;unfold Ap at hf
     split at hf
     .next o k x=>
      simp only[ug8,uf9] at hf;clear 5(ub7 hf.1.2.1)j rfl;have hj:j<ss.length:=by have:=hf.1.2.2;lia
      have e1:ss[j]?=some ss[j]:=ub3 hj;have h2:=hf.2;rw[uf3,Eb ss _ _ _ e1] at h2;rw[Bn,uf3,GA ss _ _ _ e1];exact Gc ∅ (F8 n _ (uk9 (Ej ss _ _ e1) ∅) (F3 hw.2 _ (uh3 hj)) x h2)
     .cases hf
theorem Ih:BZ (wD w) (some (a:Int)) none=wD (w.drop a):=by
 unfold BZ;rw[HT.Xy,HT.UZ];unfold wD;rw[List.map_drop,uh7,uc3 (by rw[ug5,uh7];lia)]
 by_cases h:a<=w.length
 .rw[Nat.min_eq_left h]
 .rw[Nat.min_eq_right ∅,jq (by rw[uh7];lia),jq (by rw[uh7];lia)]
structure Mvs(g:List GS)(wl wr:List Nat)(mv:List Mv)(h a b:Nat)(t:List D):Prop where
 t:t=VL g 0 mv
 ok:okQ g 0 mv
 h:KL g 0 mv=h
 a:Fi g sL 0 mv=wD (wl.take a)
 b:Fi g sR 0 mv=wD (wr.take b)
def Agr(c:Nat)(w w2:List Nat):Prop:=∀i,i<c->w2[i]?=w[i]?
theorem M7{c:Nat}:Agr c w (w.take c):=λi hi=>by rw[ue8,lJ hi]
theorem M6{c:Nat}:Agr c w w:=λ_ _=>rfl
variable{w2:List Nat}
theorem Um{c:Nat}(hw:Agr c w w2):∀(p:Rd) (a:Nat),p.run w a=.told v b->b<=c->p.run w2 a=.told v b:=by
 intro p
 induction p with
 |done v'=>intro a h _;exact h
 |need ok nx ih=>
   intro a h hb
   cases e:w[a]? with
   |none=>rw[BQ e] at h;cases h
   |some x=>
     rw[BF e] at h;have hl:=(ua9.mp e).1
     by_cases q:ok x=true
     .rw[lJ q] at h;have hlt:a<c:=by have:=(F1 _ (a+1) hl h).1;lia
      rw[BF ((hw a hlt).trans e),lJ q];exact ih x (a+1) h hb
     .rw[lK q] at h;cases h
theorem P9{c k:Nat}(hw:Agr c w w2):∀(p:Rd) (a:Nat),p.run w a=.broken k->k<c->p.run w2 a=.broken k:=by
 intro p
 induction p with
 |done v'=>intro a h _;cases h
 |need ok nx ih=>
   intro a h hk
   cases e:w[a]? with
   |none=>rw[BQ e] at h;cases h
   |some x=>
     have hak:=(EW _ _ h).1;rw[BF e] at h;rw[BF ((hw a ∅).trans e)]
     by_cases q:ok x=true
     .rw[lJ q] at h⊢;exact ih x (a+1) h hk
     .rw[lK q] at h⊢;exact h
theorem Sd{side:Str}{ws:List (Str×Sh×Int)}{c e x:Nat}(hw:Agr c w w2)(h:msgR side ws w p=(.told v e,x))(he:e<=c):msgR side ws w2 p=(.told v e,x):=by
 unfold msgR at h⊢
 cases hb:w[p]? with
 |none=>rw[hb] at h;cases h
 |some y=>
   rw[hb] at h;dsimp only at h;obtain⟨hpl,_⟩:=ua9.mp hb
   cases hws:ws[y]? with
   |none=>rw[hws] at h;cases h
   |some wd=>
     rw[hws] at h;injection h with h1 h2
     have hlt:p<c:=by have:=(F1 _ _ hpl h1).1;lia
     rw[(hw p hlt).trans hb];dsimp only;rw[hws];dsimp only;rw[Um hw _ _ h1 he,h2]
theorem Ov{side:Str}{ws:List (Str×Sh×Int)}{c k x:Nat}(hw:Agr c w w2)(h:msgR side ws w p=(.broken k,x))(hk:k<c):msgR side ws w2 p=(.broken k,x):=by
 unfold msgR at h⊢
 cases hb:w[p]? with
 |none=>rw[hb] at h;cases h
 |some y=>
   rw[hb] at h;dsimp only at h
   cases hws:ws[y]? with
   |none=>
     rw[hws] at h;injection h with h1 h2
     injection h1 with h1
     subst h1;rw[(hw p hk).trans hb];dsimp only;rw[hws,h2]
   |some wd=>
     rw[hws] at h;injection h with h1 h2
     have hlt:p<c:=by have:=(EW _ _ h1).1;lia
     rw[(hw p hlt).trans hb];dsimp only;rw[hws];dsimp only;rw[P9 hw _ _ h1 hk,h2]
theorem Uw{side:Str}{ws:List (Str×Sh×Int)}{k x:Nat}(h:msgR side ws w p=(.broken k,x)):∃y,msgR side ws (w.take k) p=(.short,y):=by
 unfold msgR at h⊢
 cases hb:w[p]? with
 |none=>rw[hb] at h;cases h
 |some y=>
   rw[hb] at h;dsimp only at h
   cases hws:ws[y]? with
   |none=>
     rw[hws] at h;injection h with h1 h2
     injection h1 with h1
     subst h1;rw[ue8,lK (uj6 _)];exact⟨0,rfl⟩
   |some wd=>
     rw[hws] at h;injection h with h1 h2
     have hlt:p<k:=by have:=(EW _ _ h1).1;lia
     rw[ue8,lJ hlt,hb];dsimp only;rw[hws];dsimp only;rw[Om _ _ h1];exact⟨_,rfl⟩
variable{vl vr:List Nat}
theorem O5{side:Str}(h1:Agr a wl vl)(h2:Agr b wr vr):Agr (onS side a b) (onS side wl wr) (onS side vl vr):=by unfold onS;split<;>assumption
theorem Ve{ca cb k:Nat}(hl:Agr ca vl wl)(hr:Agr cb vr wr)(e:Bv g vl vr h a b=.brk k s)(hk:k<onS s ca cb):Bv g wl wr h a b=.brk k s:=by
 unfold Bv at e⊢
 cases eg:AW g h with
 |fin=>rw[eg] at e;cases e
 |st side ws=>
   rw[eg] at e;dsimp only at e⊢;generalize hm:msgR side ws (onS side vl vr) (onS side a b)=r at e;clear 5 r r0 c
   cases r0 with
   |short=>cases e
   |told v x=>cases e
   |broken k'=>
     injection e with e1 e2
     subst e1 e2;rw[Ov (O5 hl hr) hm hk]
set_option tactic.hygienic true in
theorem Mw{ca cb:Nat}(hl:Agr ca vl wl)(hr:Agr cb vr wr){m:D}{h' a' b':Nat}(e:Bv g vl vr h a b=.next m h' a' b')(ha:a'<=ca)(hb:b'<=cb):Bv g wl wr h a b=.next m h' a' b':=by
 unfold Bv at e⊢
 cases eg:AW g h with
 |fin=>rw[eg] at e;cases e
 |st side ws=>
   rw[eg] at e;dsimp only at e⊢;generalize hm:msgR side ws (onS side vl vr) (onS side a b)=r at e;clear 5 r r0 c
   cases r0 with
   |short=>cases e
   |broken k'=>cases e
   |told v x=>
     have hx:x<=onS side ca cb:=by
      injection e with e1 e2 e3 e4
      unfold onS at e3 e4⊢
      split at e3
      .next q=>rw[lJ q] at e4⊢;lia
      .next q=>rw[lK q] at e4⊢;lia
     rw[Sd (O5 hl hr) hm hx];exact e
theorem Vf{k:Nat}(hs:s=sL\/s=sR)(e:Bv g wl wr h a b=.brk k s):Bv g (onS s (wl.take k) wl) (onS s wr (wr.take k)) h a b=.stop:=by
 unfold Bv at e⊢
 cases eg:AW g h with
 |fin=>rfl
 |st side ws=>
   rw[eg] at e;dsimp only at e⊢;generalize hm:msgR side ws (onS side wl wr) (onS side a b)=r at e;clear 5 r r0 c
   cases r0 with
   |short=>cases e
   |told v x=>cases e
   |broken k'=>
     injection e with e1 e2
     subst e1 e2;have hq:onS side (onS side (wl.take k') wl) (onS side wr (wr.take k'))=(onS side wl wr).take k':=by unfold onS;split<;>rfl
     clear 5(Uw hm)y hy;rw[hq,hy]
theorem Yx{k:Nat}(e:Bv g wl wr h a b=.brk k s):k<(onS s wl wr).length/\onS s a b<=k:=by
 unfold Bv at e
 cases eg:AW g h with
 |fin=>rw[eg] at e;cases e
 |st side ws=>
   rw[eg] at e;dsimp only at e;unfold msgR at e
   cases hb:(onS side wl wr)[onS side a b]? with
   |none=>rw[hb] at e;cases e
   |some c=>
     rw[hb] at e;dsimp only at e;obtain⟨hpl,_⟩:=ua9.mp hb
     cases hw:ws[c]? with
     |none=>
       rw[hw] at e;injection e with e1 e2
       subst e1 e2;exact⟨hpl,ul4 _⟩
     |some wd=>
       rw[hw] at e;dsimp only at e
       cases er:(pSh 3 wd.2.1).run (onS side wl wr) (onS side a b+1) with
       |short=>rw[er] at e;cases e
       |told v x=>rw[er] at e;cases e
       |broken k'=>
         rw[er] at e;injection e with e1 e2
         subst e1 e2;clear 5(EW _ _ er)l1 l2;exact⟨l2,by lia⟩
set_option tactic.hygienic true in
theorem ME{g:List GS}{wl wr:List Nat}(hg:GOk g):∀(f h a b:Nat) (t:List D),Pl g wl wr h a b->a<=(Bh g wl wr f h a b t).2.2.1/\b<=(Bh g wl wr f h a b t).2.2.2.1
 |0,h,a,b,t,p=>⟨ul4 _,ul4 _⟩
 |f+1,h,a,b,t,p=>by
   unfold Bh
   cases e:Bv g wl wr h a b with
   |stop=>exact⟨ul4 _,ul4 _⟩
   |brk k s=>exact⟨ul4 _,ul4 _⟩
   |next m h' a' b'=>
     obtain⟨p',_⟩:=GK hg p e;have q:=ME hg f h' a' b' (t++[m]) p';have hle:a<=a'/\b<=b':=by
      unfold Bv at e
      cases eg:AW g h with
      |fin=>rw[eg] at e;cases e
      |st side ws=>
        rw[eg] at e;dsimp only at e;unfold msgR at e
        cases hb:(onS side wl wr)[onS side a b]? with
        |none=>rw[hb] at e;cases e
        |some c=>
          rw[hb] at e;dsimp only at e;obtain⟨hpl,_⟩:=ua9.mp hb
          cases hw:ws[c]? with
          |none=>rw[hw] at e;cases e
          |some wd=>
            rw[hw] at e;dsimp only at e
            cases er:(pSh 3 wd.2.1).run (onS side wl wr) (onS side a b+1) with
            |short=>rw[er] at e;cases e
            |broken k=>rw[er] at e;cases e
            |told v x=>
              rw[er] at e;injection e with e1 e2 e3 e4
              clear 5(F1 _ _ hpl er)l1 l2;unfold onS at e3 e4 l1
              by_cases q:side=sL
              .rw[lJ q] at e3 e4 l1;lia
              .rw[lK q] at e3 e4 l1;lia
     exact⟨uk9 hle.1 q.1,uk9 hle.2 q.2⟩
theorem TH(hg:GOk g){h a b k:Nat}{s:Str}(hh:h<g.length)(e:Bv g wl wr h a b=.brk k s):s=sL\/s=sR:=by
 have hgs:=En hg hh;unfold Bv at e
 cases eg:AW g h with
 |fin=>rw[eg] at e;cases e
 |st side ws=>
   rw[eg] at e hgs
   cases hgs with
   |st hs _ _ _ _=>
   dsimp only at e;generalize msgR side ws (onS side wl wr) (onS side a b)=r at e;clear 5 r r0 c
   cases r0 with
   |short=>cases e
   |told v x=>cases e
   |broken k'=>injection e with e1 e2;subst e2;exact hs
set_option tactic.hygienic true in
theorem Ol{g:List GS}{wl wr:List Nat}(hg:GOk g){k:Nat}{s:Str}:∀(F h a b:Nat) (t t':List D) (h' a' b':Nat),Pl g wl wr h a b->Bh g wl wr F h a b t=(t',h',a',b',some (k,s))->
 (s=sL\/s=sR)/\k<(onS s wl wr).length/\onS s a' b'<=k/\
 (∀(vl vr:List Nat) (F':Nat),Agr (onS s (k+1) wl.length) wl vl->Agr (onS s wr.length (k+1)) wr vr->F<=F'->Bh g vl vr F' h a b t=(t',h',a',b',some (k,s)))/\
 (∀F',F<=F'->Bh g (onS s (wl.take k) wl) (onS s wr (wr.take k)) F' h a b t=(t',h',a',b',none))
 |0,h,a,b,t,t',h',a',b',p,e=>by cases e
 |F+1,h,a,b,t,t',h',a',b',p,e=>by
   unfold Bh at e
   cases es:Bv g wl wr h a b with
   |stop=>rw[es] at e;cases e
   |brk k' s'=>
     rw[es] at e;injection e with e1 e
     injection e with e2 e
     injection e with e3 e
     injection e with e4 e
     injection e with e
     injection e with e5 e6
     subst e1 e2 e3 e4 e5 e6;have hs:=TH hg p.h es;clear 5(Yx es)b1 b2;refine⟨hs,b1,b2,λvl vr F' hl hr hF=>?_,λF' hF=>?_⟩
     .obtain⟨f,rfl⟩:∃f,F'=f+1:=⟨F'-1,by lia⟩;unfold Bh;rw[Ve hl hr es (by unfold onS;split<;>lia)]
     .obtain⟨f,rfl⟩:∃f,F'=f+1:=⟨F'-1,by lia⟩;unfold Bh;rw[Vf hs es]
   |next m h1 a1 b1=>
     rw[es] at e;obtain⟨p1,_⟩:=GK hg p es;have e':Bh g wl wr F h1 a1 b1 (t++[m])=(t',h',a',b',some (k,s)):=e;clear 5(Ol hg F h1 a1 b1 (t++[m]) t' h' a' b' p1 e')hs c1 c2 c3 c4;have hm:=ME hg F h1 a1 b1 (t++[m]) p1;rw[e'] at hm;have hm1:a1<=a':=hm.1;have hm2:b1<=b':=hm.2;have pa:=p1.a;have pb:=p1.b;refine⟨hs,c1,c2,λvl vr F' hl hr hF=>?_,λF' hF=>?_⟩
     .obtain⟨f,rfl⟩:∃f,F'=f+1:=⟨F'-1,by lia⟩;unfold Bh;rw[Mw hl hr es (by unfold onS at c2⊢;split<;>(next q=>first|(rw[lJ q] at c2;lia)|(rw[lK q] at c2;lia))) (by unfold onS at c2⊢;split<;>(next q=>first|(rw[lJ q] at c2;lia)|(rw[lK q] at c2;lia)))]
      exact c3 vl vr f hl hr ∅
     .obtain⟨f,rfl⟩:∃f,F'=f+1:=⟨F'-1,by lia⟩;unfold Bh;rw[Mw (ca:=onS s k wl.length) (cb:=onS s wr.length k) (by unfold onS;split<;>first|exact M7|exact M6) (by unfold onS;split<;>first|exact M7|exact M6) es (by unfold onS at c2⊢;split<;>(next q=>first|(rw[lJ q] at c2;lia)|(rw[lK q] at c2;lia))) (by unfold onS at c2⊢;split<;>(next q=>first|(rw[lJ q] at c2;lia)|(rw[lK q] at c2;lia)))]
      exact c4 f ∅
def At(w:List Nat)(a:Nat)(xs:List D):Prop:=∃p q,wD w=p++(xs++q)/\p.length=a
theorem To{t:List D}(e:Bv g wl wr h a b=.stop):∀F,Bh g wl wr F h a b t=(t,h,a,b,none)
 |0=>rfl
 |F+1=>by unfold Bh;rw[e]
def Wir(S:List Ob)(d:D)(w:List Nat):Prop:=d=.lst (wD w)\/∃k,d=.obj k/\S[k]?=some (.lst (wD w))
def PureS(S:List Ob)(f:Fn)(ds:List D)(r:D):Prop:=Wf f ds S λr' S'=>r'=r/\S'=S
theorem PureS.use{f:Fn}(h:PureS S f ds r){P:D->List Ob->Prop}(p:P r S):Wf f ds S P:=h.mono λ_ _ ⟨e1,e2⟩=>by subst e1 e2;exact p
theorem MX{d:D}(h:Wir t.S d w)(p:P (.int (w.length:Nat)) t):W (A4 [d]) t P:=by
 rcases h with rfl|⟨k,rfl,e⟩
 .refine QN ?_;rw[Bj];exact p
 .refine FX e ?_;rw[Bj];exact p
theorem Vn{d:D}(h:Wir t.S d w)(e:w[a]?=some b)(p:P (.int (b:Int)) t):W (ixD d (.int (a:Int))) t P:=by
 rcases h with rfl|⟨k,rfl,e'⟩
 .exact BJ (Jc (Tn e)) p
 .exact W_ix_obj.mpr ⟨_,e',_,Jc (Tn e),p⟩
def BXw(f:Fn):Prop:=∀(S:List Ob) (wv:D) (w:List Nat) (a:Nat),Wir S wv w->PureS S f [wv,.int (a:Int)] (byX w[a]?)
theorem YB:BXw (fnOf 2 2 Gg):=by
 intro S wv w a hv;refine Am rfl ?_;unfold Gg;have hl:=Bj w
 cases h:w[a]? with
 |none=>
   have:=ub2.mp h;symm;rw[6,MX hv];rw[6,Fe (uj5 ∅)];exact⟨rfl,rfl⟩
 |some b=>
   obtain⟨hj,_⟩:=ua9.mp h;symm;rw[6,MX hv];rw[6,DV (ui9 ∅)];refine Vn hv h ?_;exact⟨rfl,rfl,rfl⟩
def UXw(f:Fn):Prop:=∀(S:List Ob) (wv:D) (m:Int) (w:List Nat) (a:Nat),Wir S wv w->PureS S f [.int m,wv,.int (a:Int)] (upX m a w[a]?)
theorem aI(hc:BXw c):UXw (fnOf 3 4 (Ff c)):=by
 intro S wv m w a hv;refine Am rfl ?_;unfold Ff;have hb:=hc S wv w a hv
 cases h:w[a]? with
 |none=>
   rw[h,byX] at hb;symm;rw[6,hb.use];exact⟨rfl,rfl⟩
 |some b=>
   rw[h,byX] at hb;symm;rw[6,hb.use];rw[upX]
   by_cases q:(b:Int)<=m
   .rw[lJ q];rw[6,DV (ui9 ∅)];exact⟨rfl,rfl,rfl⟩
   .rw[lK q];rw[6,Fe (uj5 ∅)];exact⟨rfl,rfl⟩
def SXw(f:Fn):Prop:=∀(S:List Ob) (wv:D) (w:List Nat) (a:Nat),Wir S wv w->PureS S f [wv,.int (a:Int)] (sgX a w[a]?)
variable{cb:Fn}
theorem aB{cs:Fn}(hs:Kg cs)(hb:BXw cb):SXw (fnOf 2 3 (Gj cs cb)):=by
 intro S wv w a hv;refine Am rfl ?_;unfold Gj;have hb:=hb S wv w a hv
 cases h:w[a]? with
 |none=>
   rw[h,byX] at hb;symm;rw[6,hb.use];exact⟨rfl,rfl⟩
 |some c=>
   rw[h,byX] at hb;symm;rw[6,hb.use];refine(hs c).use ?_;rw[sgX]
   by_cases q:CF c=true
   .rw[lJ q,q];symm;refine W_ix_str.mpr ⟨by decide +kernel,c,aw q,?_⟩;exact⟨rfl,rfl,rfl⟩
   .have q':CF c=false:=by simpa using q
    rw[lK q,q'];symm;exact⟨rfl,rfl⟩
theorem ag(hl:HX cl)(hb:BXw cb)(hw:Kk cw){lo hi:Int}(hwf:wf (.number lo hi)=true)(w:List Nat)(a:Nat){S:List Ob}{wv:D}(hv:Wir S wv w):PureS S (fnOf 3 7 (DH cl cb cw)) [(Sh.number lo hi).d,wv,.int (a:Int)] (rrD ((IK lo (hi-lo).toNat (wid (hi-lo).toNat) 0).run w a)):=by
 have hsp:=Pj hwf;have hwd:=Lf 9 _ hsp;refine Am rfl ?_;unfold DH;rw[Sh.d];have em:hi-lo=(((hi-lo).toNat:Nat):Int):=by
  simp only[wf,ug8,uf9] at hwf;lia
 have hww:=λS P p=>(hw (hi-lo).toNat hsp).use (S:=S) (P:=P) p;rw[<-em] at hww;generalize (hi-lo).toNat=M at *;generalize hW:wid M=n at *;symm;refine hww _ _ ?_;rw[em];symm;refine IX (DO ∅ ∅) ?_;refine EI (λr t=>∃(j x:Nat) (e6:Option Sl),j<=n/\r=(Bx 0 ((n:Nat):Int).toNat).drop j/\(IK lo M n 0).run w a=(IK lo M (n-j) x).run w (a+j)/\t=⟨[vw (.tup [.str "number",.int lo,.int hi]),vw wv,vw (.int a),vw (.int M),vw (.int n),vw (.int x),e6],S⟩) _ _ ⟨0,0,none,ul5 _,rfl,rfl,rfl⟩ ?_ ?_
 .rintro d r t ⟨j,x,e6,hj,hr,hrun,rfl⟩ _;clear 5(LP hr)rfl hr' hjn;rw[uf3] at hjn;rw[ln];obtain⟨e,he⟩:∃e,n-j=e+1:=⟨n-j-1,by lia⟩;rw[he,IK] at hrun;have hby:=hb S wv w (a+j) hv;symm;rw[6,QQ (O3 (by decide) (by decide))];rw[show((a:Int)+(j:Int))=((a+j:Nat):Int) by lia]
  cases h:w[a+j]? with
  |none=>
    rw[h,byX] at hby;rw[BQ h] at hrun;rw[6,hby.use];exact⟨by rw[hrun];rfl,rfl⟩
  |some b=>
    rw[h,byX] at hby;rw[BF h] at hrun;rw[6,hby.use];refine⟨rfl,?_⟩;symm;rw[show((n:Int)-1-(j:Int))=((e:Nat):Int) by lia,show((x:Int)*256+(b:Int))=((x*256+b:Nat):Int) by lia];rw[6,(hl M e ∅).use]
    by_cases q:x*256+b<=M/2 ^ (8*e)
    .rw[lJ (uj5 q)] at hrun;rw[6,DV (ui9 ∅)];exact⟨j+1,x*256+b,_,hjn,hr',by rw[show n-(j+1)=e by lia,hrun,kz],rfl⟩
    .rw[lK (by rw[uf9];exact q)] at hrun;rw[6,Fe (uj5 ∅)];exact⟨by rw[hrun];rfl,rfl⟩
 .rintro t ⟨j,x,e6,hj,hr,hrun,rfl⟩;have hj':j=n:=by
   have:=lD List.length hr;rw[ui5,ug5,KU,uf3] at this;lia
  subst hj';rw[ul3,IK,Rd.run] at hrun;symm;exact⟨rfl,by rw[hrun];rfl,rfl⟩
variable{cu:Fn}
theorem Xw{ca:Fn}(ha:SXw ca)(hu:UXw cu){q:Int}(hwf:wf (.text q)=true)(n:Nat)(w:List Nat)(a:Nat){S:List Ob}{wv:D}(hv:Wir S wv w):PureS S (fnOf 3 7 (Ev ca cu)) [(Sh.text q).d,wv,.int (a:Int)] (rrD ((pSh (n+1) (.text q)).run w a)):=by
 have hL:LIM=100000:=rfl;refine Am rfl ?_;unfold Ev;rw[Sh.d,pSh];simp only[wf,ug8,uf9] at hwf;have hup:=hu S wv q w a hv;symm
 cases h:w[a]? with
 |none=>
   rw[h,upX] at hup;rw[BQ h];rw[6,hup.use];exact⟨rfl,rfl⟩
 |some b=>
   rw[h,upX] at hup;rw[BF h]
   by_cases hb:(b:Int)<=q
   .rw[lJ hb] at hup;rw[lJ (uj5 hb)];rw[6,hup.use];refine IX (DO ∅ ∅) ?_;refine EI (λr t=>∃(j:Nat) (y:Str) (e6:Option Sl),j<=b/\r=(Bx 0 ((b:Nat):Int).toNat).drop j/\y.cps.toList.length=j/\(JZ b []).run w (a+1)=(JZ (b-j) y.cps.toList).run w (a+1+j)/\t=⟨[vw (.tup [.str "text",.int q]),vw wv,vw (.int a),vw (.int b),vw (.int ((a:Int)+1)),vw (.str y),e6],S⟩) _ _ ⟨0,Str.ofString "",none,ul5 _,rfl,by decide +kernel,by rw[Nat.sub_zero,Nat.add_zero,show(Str.ofString "").cps.toList=[] by decide +kernel],rfl⟩ ?_ ?_
    .rintro d r t ⟨j,y,e6,hj,hr,hyl,hrun,rfl⟩ _;clear 5(LP hr)rfl hr' hjn;rw[uf3] at hjn;rw[ln];obtain⟨e,he⟩:∃e,b-j=e+1:=⟨b-j-1,by lia⟩;rw[he,JZ] at hrun;have hsg:=ha S wv w (a+1+j) hv;symm;rw[show((a:Int)+1+(j:Int))=((a+1+j:Nat):Int) by lia]
     cases h2:w[a+1+j]? with
     |none=>
       rw[h2,sgX] at hsg;rw[BQ h2] at hrun;rw[6,hsg.use];exact⟨by rw[hrun];rfl,rfl⟩
     |some c=>
       rw[h2,sgX] at hsg;rw[BF h2] at hrun
       by_cases hc:CF c=true
       .rw[lJ hc] at hsg hrun;rw[6,hsg.use];refine DF (by rw[GG y,hyl,hL];show j+1<=_;lia) ?_;refine⟨rfl,?_⟩;symm;refine⟨j+1,_,_,hjn,hr',?_,?_,rfl⟩
        .rw[L3,ue5,hyl];rfl
        .rw[hrun,L3,show b-(j+1)=e by lia,kz (a+1)]
       .rw[lK hc] at hsg hrun;rw[6,hsg.use];exact⟨by rw[hrun];rfl,rfl⟩
    .rintro t ⟨j,y,e6,hj,hr,hyl,hrun,rfl⟩;have hj':j=b:=by
      have:=lD List.length hr;rw[ui5,ug5,KU,uf3] at this;lia
     subst hj';rw[ul3,JZ,Rd.run] at hrun;have ey:(⟨y.cps.toList.toArray⟩:Str)=y:=X0 (by simp);rw[ey] at hrun;symm;refine⟨rfl,?_,rfl⟩;rw[hrun,rrD,show((a:Int)+1+(j:Int))=((a+1+j:Nat):Int) by lia]
   .rw[lK hb] at hup;rw[lK (by rw[uf9];exact hb)];rw[6,hup.use];exact⟨rfl,rfl⟩
def RXw(c:Fn)(s:Sh)(p:Rd):Prop:=∀(S:List Ob) (wv:D) (w:List Nat) (a:Nat),Wir S wv w->a<=w.length->PureS S c [s.d,wv,.int (a:Int)] (rrD (p.run w a))
theorem Xu{s:Sh}{p:Rd}{q:Int}(hu:UXw cu)(hq2:q<=250)(hc:RXw c s p)(w:List Nat)(a:Nat){S:List Ob}{wv:D}(hv:Wir S wv w):PureS S (fnOf 3 8 (Et c cu)) [(Sh.list s q).d,wv,.int (a:Int)] (rrD ((Rd.need (λb=>decide ((b:Int)<=q)) λb=>IJ p b []).run w a)):=by
 have hL:LIM=100000:=rfl;refine Am rfl ?_;unfold Et;rw[Sh.d];have hup:=hu S wv q w a hv;symm
 cases h:w[a]? with
 |none=>
   rw[h,upX] at hup;rw[BQ h];rw[6,hup.use];exact⟨rfl,rfl⟩
 |some b=>
   have hal:=(ua9.mp h).1;rw[h,upX] at hup;rw[BF h]
   by_cases hb:(b:Int)<=q
   .rw[lJ hb] at hup;rw[lJ (uj5 hb)];rw[6,hup.use];refine IX (DO ∅ ∅) ?_;refine EI (λr t=>∃(j a':Nat) (ds:List D) (e6 e7:Option Sl),j<=b/\r=(Bx 0 ((b:Nat):Int).toNat).drop j/\ds.length=j/\a'<=w.length/\(IJ p b []).run w (a+1)=(IJ p (b-j) ds).run w a'/\t=⟨[vw (.tup [.str "list",s.d,.int q]),vw wv,vw (.int a),vw (.int b),vw (.int (a':Int)),some (.own ds),e6,e7],S⟩) _ _ ⟨0,a+1,[],none,none,ul5 _,rfl,rfl,hal,rfl,rfl⟩ ?_ ?_
    .rintro d r t ⟨j,a',ds,e6,e7,hj,hr,hdl,ha',hrun,rfl⟩ _;clear 5(LP hr)rfl hr' hjn;rw[uf3] at hjn;obtain⟨e,he⟩:∃e,b-j=e+1:=⟨b-j-1,by lia⟩;rw[he,IJ,Jn] at hrun;have hcc:=hc S wv w a' hv ha'
     cases h2:p.run w a' with
     |short=>
       rw[h2] at hrun hcc;symm;refine hcc.use ?_;rw[rrD];symm;exact⟨by rw[hrun];rfl,rfl⟩
     |broken k=>
       rw[h2] at hrun hcc;symm;refine hcc.use ?_;rw[rrD];symm;exact⟨by rw[hrun];rfl,rfl⟩
     |told v a2=>
       have hle:=F1 p a' ha' h2;rw[h2] at hrun hcc;symm;refine hcc.use ?_;rw[rrD];symm;refine DF (by rw[hdl,hL];lia) ?_;symm;exact⟨j+1,a2,ds++[v],_,_,hjn,hr',by rw[ue5,hdl];rfl,hle.2,by rw[hrun,show b-(j+1)=e by lia];rfl,rfl⟩
    .rintro t ⟨j,a',ds,e6,e7,hj,hr,hdl,ha',hrun,rfl⟩;have hj':j=b:=by
      have:=lD List.length hr;rw[ui5,ug5,KU,uf3] at this;lia
     subst hj';rw[ul3,IJ,Rd.run] at hrun;symm;exact⟨rfl,by rw[hrun];rfl,rfl⟩
   .rw[lK hb] at hup;rw[lK (by rw[uf9];exact hb)];rw[6,hup.use];exact⟨rfl,rfl⟩
theorem Xv{s r:Sh}{p p':Rd}(hs:RXw c s p)(hr:RXw c r p')(w:List Nat)(a:Nat){S:List Ob}{wv:D}(hv:Wir S wv w)(ha:a<=w.length):PureS S (fnOf 3 5 (Eu c)) [(Sh.pair s r).d,wv,.int (a:Int)] (rrD ((p.bnd λv=>p'.bnd λu=>.done (.tup [v,u])).run w a)):=by
 refine Am rfl ?_;unfold Eu;rw[Sh.d,Jn];have h1:=hs S wv w a hv ha
 cases e1:p.run w a with
 |short=>
   rw[e1] at h1;symm;refine h1.use ?_;rw[rrD];symm;exact⟨rfl,rfl⟩
 |broken k=>
   rw[e1] at h1;symm;refine h1.use ?_;rw[rrD];symm;exact⟨rfl,rfl⟩
 |told v a'=>
   have hle:=F1 p a ha e1;rw[e1] at h1;have h2:=hr S wv w a' hv hle.2;rw[RR.thn,Jn];symm;refine h1.use ?_;rw[rrD];symm;refine h2.use ?_
   cases e2:p'.run w a' with
   |short=>rw[rrD];symm;exact⟨rfl,rfl⟩
   |broken k=>rw[rrD];symm;exact⟨rfl,rfl⟩
   |told u a2=>rw[rrD];symm;exact⟨rfl,rfl,rfl⟩
theorem SL{ss:List Sh}{p:Nat->Rd}(hu:UXw cu)(hc:∀(k:Nat) (h:k<ss.length),RXw c ss[k] (p k))(w:List Nat)(a:Nat){S:List Ob}{wv:D}(hv:Wir S wv w):PureS S (fnOf 3 5 (DG c cu)) [(Sh.choice ss).d,wv,.int (a:Int)] (rrD ((Rd.need (λb=>decide (b<ss.length)) λb=>(p b).bnd λv=>.done (.tup [.str "of",.int b,v])).run w a)):=by
 refine Am rfl ?_;unfold DG;rw[Sh.d];have hup:=hu S wv ((ss.length:Int)-1) w a hv;symm;rw[Ex];refine hup.use ?_
 cases h:w[a]? with
 |none=>
   rw[BQ h,upX];symm;exact⟨rfl,rfl⟩
 |some b=>
   have hal:=(ua9.mp h).1;rw[BF h,upX]
   by_cases hb:b<ss.length
   .rw[lJ (show(b:Int)<=(ss.length:Int)-1 by lia),lJ (uj5 hb),Jn];have e0:ss[b]?=some ss[b]:=ub3 hb;have hsd:atI (shD ss) (b:Int)=some ss[b].d:=Jc (by rw[Hh,e0];rfl);have h2:=hc b hb S wv w (a+1) hv hal;symm;rw[6,Gz hsd];rw[show((a:Int)+1)=((a+1:Nat):Int) by lia];refine h2.use ?_
    cases e2:(p b).run w (a+1) with
    |short=>rw[rrD];symm;exact⟨rfl,rfl⟩
    |broken k=>rw[rrD];symm;exact⟨rfl,rfl⟩
    |told u a2=>rw[rrD];symm;exact⟨rfl,rfl,rfl⟩
   .rw[lK (show ¬(b:Int)<=(ss.length:Int)-1 by lia),lK (by rw[uf9];exact hb)];symm;exact⟨rfl,rfl⟩
def HZ(f:Fn)(n:Nat):Prop:=∀s:Sh,s.depth<=n->wf s=true->RXw f s (pSh n s)
theorem SM(hn:∀lo hi,wf (.number lo hi)=true->RXw cn (.number lo hi) (pSh (n+1) (.number lo hi)))(ht:∀q,wf (.text q)=true->RXw ct (.text q) (pSh (n+1) (.text q)))
 (hl:∀s q,q<=250->s.depth<=n->wf s=true->RXw cl (.list s q) (pSh (n+1) (.list s q))) (hp:∀s r,s.depth<=n->r.depth<=n->wf s=true->wf r=true->RXw cp (.pair s r) (pSh (n+1) (.pair s r)))
 (hc:∀ss:List Sh,(∀(k:Nat) (h:k<ss.length),ss[k].depth<=n/\wf ss[k]=true)->RXw cc (.choice ss) (pSh (n+1) (.choice ss))):HZ (fnOf 3 4 (D0 cc cp cl ct cn)) (n+1):=by
 intro s hs hwf S wv w a hv ha;refine Am rfl ?_;unfold D0
 cases s with
 |nothing=>
   rw[Sh.d,pSh,Rd.run,rrD];symm;exact⟨rfl,rfl,rfl⟩
 |number lo hi=>
   have h:=hn lo hi hwf S wv w a hv ha;rw[Sh.d] at h⊢;symm;exact h.use ⟨rfl,rfl⟩
 |text q=>
   have h:=ht q hwf S wv w a hv ha;rw[Sh.d] at h⊢;symm;exact h.use ⟨rfl,rfl⟩
 |list s q=>
   simp only[wf,ug8,uf9] at hwf;rw[Sh.depth] at hs;have h:=hl s q hwf.1.2 ∅ hwf.2 S wv w a hv ha;rw[Sh.d] at h⊢;symm;exact h.use ⟨rfl,rfl⟩
 |pair s r=>
   simp only[wf,ug8] at hwf;rw[Sh.depth] at hs;have h:=hp s r ∅ ∅ hwf.1 hwf.2 S wv w a hv ha;rw[Sh.d] at h⊢;symm;exact h.use ⟨rfl,rfl⟩
 |choice ss=>
   simp only[wf,ug8,uf9] at hwf;rw[Sh.depth] at hs;have h:=hc ss (λk hk=>⟨uk9 (Ej ss _ _ (ub3 hk)) ∅,F3 hwf.2 _ (uh3 hk)⟩) S wv w a hv ha;rw[Sh.d] at h⊢;symm;exact h.use ⟨rfl,rfl⟩
theorem Qx{ca cl':Fn}(e1:cc=fnOf 3 5 (DG c cu))(e2:cp=fnOf 3 5 (Eu c))(e3:cl=fnOf 3 8 (Et c cu))(e4:ct=fnOf 3 7 (Ev ca cu))(e5:cn=fnOf 3 7 (DH cl' cb cw))
 (hu:UXw cu) (ha:SXw ca) (hl':HX cl') (hb:BXw cb) (hw:Kk cw) (hc:HZ c n):HZ (fnOf 3 4 (D0 cc cp cl ct cn)) (n+1):=by
 subst e1 e2 e3 e4 e5;refine SM (λlo hi h S wv w a hv _=>?_) (λq h S wv w a hv _=>Xw ha hu h n w a hv) (λs q h2 hd h S wv w a hv _=>?_) (λs r d1 d2 w1 w2 S wv w a hv ha=>?_) λss h S wv w a hv _=>?_
 .rw[pSh];exact ag hl' hb hw h w a hv
 .rw[pSh];exact Xu hu h2 (hc s hd h) w a hv
 .rw[pSh];exact Xv (hc s d1 w1) (hc r d2 w2) w a hv ha
 .rw[pSh];refine SL hu (p:=λb=>pSh n (ss.getD b .nothing)) (λk hk=>?_) w a hv;show RXw c ss[k] (pSh n (ss.getD k .nothing));rw[ua8,ub3 hk,Option.getD_some];exact hc _ (h k hk).1 (h k hk).2
variable{S':List Ob}
theorem Wir.gr{d:D}(h:Wir S d w)(g:Gr S S'):Wir S' d w:=h.imp id λ⟨k,e1,e2⟩=>⟨k,e1,g.get e2⟩
def Ts(f:Fn):Prop:=∀(S:List Ob) (wv:D) (n:Int) (side:Str) (ws:List (Str×Sh×Int)) (w:List Nat) (p:Nat),Wir S wv w->GSOk n (.st side ws)->p<=w.length->w.length<=50000->PureS S f [(GS.st side ws).d,wv,.int p] (FQ side ws w p)
theorem WP(hc:HZ c 3):Ts (fnOf 3 6 (Fz c)):=by
 intro S wv n side ws w p hv hgs hp hwl
 cases hgs with
 |@st _ _ hs1 hs2 hs3 hs4 hs5=>
 refine Am rfl ?_;unfold Fz;rw[GS.d]
 cases hb:w[p]? with
 |none=>
   have hpl:¬p<w.length:=by rw[ub2] at hb;lia
   rw[show FQ side ws w p=.non by unfold FQ msgR;rw[hb]];symm;rw[6,MX hv];refine Fe (by simp;lia) ?_;symm;refine⟨rfl,?_⟩;symm;exact⟨rfl,rfl⟩
 |some cc=>
   obtain⟨hpl,_⟩:=ua9.mp hb;symm;rw[6,MX hv];refine DV (by simp;lia) ?_;symm;rw[6,Vn hv hb];rw[uh7]
   cases hw:ws[cc]? with
   |none=>
     have hcl:¬cc<ws.length:=by rw[ub2] at hw;lia
     rw[show FQ side ws w p=.exc "Broken" [.int p,.str side] by unfold FQ msgR;simp only[hb,hw]];refine Fe (by simp;lia) ?_;symm;exact⟨rfl,rfl⟩
   |some wd=>
     obtain⟨hcl,_⟩:=ua9.mp hw;have hwo:=hs5 wd (ud3 hw);have hgd:ws.getD cc (Str.ofString "",.nothing,0)=wd:=by rw[ua8,hw];rfl
     have hrd:=hc wd.2.1 hwo.dep hwo.ok S wv w (p+1) hv hpl;refine DV (by simp;lia) ?_;symm;rw[6,Vn hv hb];refine BJ (Hj hw) ?_;unfold wdD;dsimp only;symm
     cases e:(pSh 3 wd.2.1).run w (p+1) with
     |told v b=>
       rw[show FQ side ws w p=.tup [.tup [.str side,.str wd.1,v],.int wd.2.2,.int b] by unfold FQ msgR;simp only[hb,hw,e,hgd]];rw[e,rrD] at hrd;rw[6,hrd.use];exact⟨rfl,rfl,rfl⟩
     |short=>
       rw[show FQ side ws w p=.non by unfold FQ msgR;simp only[hb,hw,e]];rw[e,rrD] at hrd;rw[6,hrd.use];refine⟨rfl,?_⟩;symm;exact⟨rfl,rfl⟩
     |broken k=>
       rw[show FQ side ws w p=.exc "Broken" [.int k,.str side] by unfold FQ msgR;simp only[hb,hw,e]];rw[e,rrD] at hrd;rw[6,hrd.use];exact⟨rfl,rfl⟩
abbrev Fu(wl wr:List Nat):Nat:=wl.length+wr.length+1
theorem Pl.more(p:Pl g vl vr h a b)(xl xr:List Nat):Pl g (vl++xl) (vr++xr) h a b:=
 ⟨p.h,uk9 p.a (by rw[ue5];lia),uk9 p.b (by rw[ue5];lia)⟩
section
variable{f:Str}{t:T}{P:D->T->Prop}{O:Out->T->Prop}{k:Nat}{n:Str}{fs:List (Str×D)}{v:D}
def T6(f:Str)(d:D):M D:=FM d λ_ _ fs t=>(fs.lookup f).map λv=>(v,t)
def LU(f:Str)(v d:D):M Out:=FM d λk n fs t=>if fs.length<1000 then some (.next,{t with S:=t.S.set k (.ins n (Gq f v fs))}) else none
theorem QJ{a:M D}(h:W a t λd t1=>W (T6 f d) t1 P):W (Cv f a) t P:=BR h
theorem BG(e:t.S[k]?=some (.ins n fs))(l:fs.lookup f=some v)(h:P v t):W (T6 f (.obj k)) t P:=⟨_,_,by simp only[T6,FM,e,l];rfl,h⟩
theorem Jt{gv ga:M D}(h:W gv t λv t1=>W ga t1 λd t2=>W (LU f v d) t2 O):W (CB f gv ga) t O:=BR (h.mono λ_ _ z=>BR z)
theorem Ck(e:t.S[k]?=some (.ins n fs))(l:fs.length<1000)(h:O .next ⟨t.env,t.S.set k (.ins n (Gq f v fs))⟩):W (LU f v (.obj k)) t O:=⟨_,_,by simp only[LU,FM,e,lJ l],h⟩
theorem QO{g:Fn}{fl:M (List D)}(h:W fl t λds t1=>Wf g (.obj t1.S.length::ds) (t1.S++[.ins n []]) λr S'=>r=.non/\P (.obj t1.S.length) ⟨t1.env,S'⟩):W (FB n g fl) t P:=
 BR (h.mono λds t1 ⟨r,S',e,e2,p⟩=>by subst e2;exact⟨_,_,by simp only[e],p⟩)
theorem QP{g:Fn}{o:M D}{fl:M (List D)}(h:W o t λd t1=>∃k fs,d=.obj k/\t1.S[k]?=some (.ins n fs)/\W fl t1 λds t2=>Wf g (d::ds) t2.S λr S'=>P r ⟨t2.env,S'⟩):W (AR n g o fl) t P:=by
 refine BR (h.mono λd t1 z=>?_);clear 5 z k fs e1 e2 w;subst e1;clear 5 w ds t2 w1 r S' w2 p;refine⟨r,_,?_,p⟩;simp only[FM,e2,lJ,bnd,w1,w2]
theorem Oi(h:P (.obj t.S.length) ⟨t.env,t.S++[.dct []]⟩):W (FF []) t P:=by
 refine⟨_,_,?_,h⟩;simp[FF,Jf,bnd,L2.ret,FZ,DT]
end
local macro_rules | `(tactic| walk_at"y1")=>`(tactic| first
 |walk_at"x1" |clear 31 Hi QJ Jt Oi Ld)
abbrev rdF(g:List GS)(h W P:Nat):List (Str×D):=[("grammar",.lst (g.map GS.d)),("standing",.int (h:Nat)),("wires",.obj W),("places",.obj P)]
structure Rdr(n0:Nat)(S:List Ob)(k:Nat)(g:List GS)(vl vr:List Nat)(h a b W P l r:Nat):Prop where
 k0:n0<=k
 l0:n0<=l
 r0:n0<=r
 ne:l≠r
 k:S[k]?=some (.ins "Reader" (rdF g h W P))
 w:S[W]?=some (.dct (lr (.obj l) (.obj r)))
 p:S[P]?=some (.dct (dP a b))
 l:S[l]?=some (.lst (wD vl))
 r:S[r]?=some (.lst (wD vr))
variable{u:Ob}
theorem Ae{i:Nat}{o:Ob}(h:S[i]?=some u)(n:j≠i):(S.set j o)[i]?=some u:=by rw[ud2 n];exact h
theorem AD{i:Nat}{o:Ob}(h:S[i]?=some o)(h':S[j]?=some u)(n:o≠u):i≠j:=λe=>by subst e;rw[h] at h';exact n (uh6 h')
def Kp(k:Nat)(S S':List Ob):Prop:=S.length<=S'.length/\∀i,i<S.length->i≠k->S'[i]?=S[i]?
theorem Kp.refl{k:Nat}:Kp k S S:=⟨ul4 _,λ_ _ _=>rfl⟩
theorem Kp.setk{k:Nat}{o:Ob}(a:Kp k S S'):Kp k S (S'.set k o):=⟨by rw[ui2];exact a.1,λi h n=>by rw[ud2 (Ne.symm n)];exact a.2 i h n⟩
theorem Kp.set{k j:Nat}{S S':List Ob}{o:Ob}(a:Kp k S S')(h:S.length<=j):Kp k S (S'.set j o):=⟨by rw[ui2];exact a.1,λi hi n=>by rw[ud2 ∅];exact a.2 i hi n⟩
theorem Kp.app{k:Nat}{o:Ob}(a:Kp k S S'):Kp k S (S'++[o]):=⟨by rw[ue5];exact uk9 a.1 (ug9 _ _),λi hi n=>by rw[ub0 (ue0 hi a.1)];exact a.2 i hi n⟩
theorem AM{i:Nat}{o:Ob}(h:S[i]?=some u):(S++[o])[i]?=some u:=by rw[ub0 (ua9.mp h).1];exact h
theorem AO{i:Nat}(h:S[i]?=some u):i<S.length:=(ua9.mp h).1
local macro_rules | `(tactic| walk_at"y1")=>`(tactic| first
 |walk_at"x1" |clear 31 Hi QJ Jt Oi Ld QP QO)
section
variable{n0:Nat}{S:List Ob}{k:Nat}{g:List GS}{vl vr:List Nat}{h a b W P l r:Nat}
end
mutual
noncomputable def CS:Sh->Bool
 |.number lo hi=>decide (hi-lo<1000000000)
 |.list s _=>CS s
 |.pair s r=>CS s&&CS r
 |.choice ss=>Hb ss
 |_=>true
noncomputable def Hb:List Sh->Bool
 |[]=>true
 |s::r=>CS s&&Hb r
end
theorem JB:∀{ss:List Sh},Hb ss=true->∀s∈ss,CS s=true
 |x::r,h,s,m=>by
   rw[Hb,ug8] at h;rcases uj7.mp m with e|m
   .subst e;exact h.1
   .exact JB h.2 s m
mutual
noncomputable def EV:Sh->Bool
 |.text m=>decide (m<=3)
 |.list s m=>decide (m<=3)&&EV s
 |.pair s r=>EV s&&EV r
 |.choice ss=>K8 ss
 |_=>true
noncomputable def K8:List Sh->Bool
 |[]=>true
 |s::r=>EV s&&K8 r
end
theorem MB:∀{ss:List Sh},K8 ss=true->∀s∈ss,EV s=true
 |x::r,h,s,m=>by
   rw[K8,ug8] at h;rcases uj7.mp m with e|m
   .subst e;exact h.1
   .exact MB h.2 s m
noncomputable def bt:Nat->Nat
 |0=>4
 |d+1=>1+3*bt d
theorem Na:∀d,4<=bt d
 |0=>ul4 _
 |d+1=>by have:=Na d;rw[bt];lia
structure Dr(d:Nat)(s:Sh):Prop where
 ok:wf s=true
 dep:s.depth<=d+1
 nar:CS s=true
 tin:EV s=true
 few:∀v,Ap s v=true->(Bn s v).length<=bt d
theorem Dr.nothing{d:Nat}:Dr d .nothing:=⟨rfl,by rw[Sh.depth];lia,rfl,rfl,λv h=>by
 have:v=.non:=by cases v<;>simp[Ap,KI] at h<;>rfl
 subst this;exact ul5 _⟩
theorem Dr.number{d:Nat}{lo w:Int}(h1 : -4<=lo)(h2:lo<=4)(h3:0<=w)(h4:w<=70000):Dr d (.number lo (lo+w)):=by
 refine⟨?_,by rw[Sh.depth];lia,?_,rfl,λv h=>?_⟩
 .simp only[wf,ug8,uf9];lia
 .simp only[CS,uf9];lia
 .have hb:=Na d;have hw:=Lf 3 (lo+w-lo).toNat (by show _<16777216;lia)
  cases v with
  |int i=>rw[Bn,Sk];lia
  |_=>simp[Ap] at h
theorem Dr.text{d:Nat}{m:Int}(h1:0<=m)(h2:m<=3):Dr d (.text m):=by
 refine⟨?_,by rw[Sh.depth];lia,rfl,?_,λv h=>?_⟩
 .simp only[wf,ug8,uf9];lia
 .simp only[EV,uf9];lia
 .have hb:=Na d
  cases v with
  |str x=>
    simp only[Ap,ug8,uf9] at h;have h:=h.1;rw[GG] at h;rw[Bn,ug2,uh7];lia
  |_=>simp[Ap] at h
theorem OO{s:Sh}{n:Nat}:∀(ds:List D),(∀d∈ds,(Bn s d).length<=n)->((ds.map λd=>Bn s d).flatten).length<=ds.length*n
 |[],_=>ul5 _
 |d::r,h=>by
   have h1:=OO r λx m=>h x (ud1 _ m);have h2:=h d ue1;rw[uj8,uf4,ue5,ug2,Nat.add_mul,Nat.one_mul];lia
theorem Dr.list{d:Nat}{s:Sh}{m:Int}(h:Dr d s)(h1:0<=m)(h2:m<=3):Dr (d+1) (.list s m):=by
 have:=h.dep;refine⟨?_,by rw[Sh.depth];lia,by rw[CS];exact h.nar,?_,λv hf=>?_⟩
 .simp only[wf,ug8,uf9,h.ok];exact⟨⟨by lia,by lia⟩,trivial⟩
 .simp only[EV,h.tin,uk3,uf9];lia
 .cases v with
  |lst ds=>
    rw[Ap,ug8,uf9,uh0] at hf;have h3:=OO ds λx m=>h.few x (hf.2 x m);have h4:ds.length*bt d<=3*bt d:=Nat.mul_le_mul_right _ ∅;rw[Bn,ug2,bt];lia
  |_=>simp[Ap] at hf
theorem Dr.pair{d:Nat}{s r:Sh}(h:Dr d s)(h':Dr d r):Dr (d+1) (.pair s r):=by
 have:=h.dep;have:=h'.dep;refine⟨by simp only[wf,h.ok,h'.ok,uk4],by rw[Sh.depth];lia,by simp only[CS,h.nar,h'.nar,uk4],by simp only[EV,h.tin,h'.tin,uk4],λv hf=>?_⟩;unfold Ap at hf
 split at hf
 .rw[ug8] at hf;have h1:=h.few _ hf.1;have h2:=h'.few _ hf.2;rw[Bn,ue5,bt];lia
 .cases hf
set_option tactic.hygienic true in
theorem Dr.choice{d:Nat}{s r:Sh}(h:Dr d s)(h':Dr d r):Dr (d+1) (.choice [s,r]):=by
 have:=h.dep;have:=h'.dep;refine⟨?_,?_,by simp only[CS,Hb,h.nar,h'.nar,uk4],by simp only[EV,K8,h.tin,h'.tin,uk4],λv hf=>?_⟩
 .simp only[wf,wfs,h.ok,h'.ok,uk4,uk3,ug8,uf9,ug2,ui5];lia
 .rw[Sh.depth,FW,FW,FW];lia
 .unfold Ap at hf
  split at hf
  .next o k x=>
   simp only[ug8,uf9] at hf;clear 5(ub7 hf.1.2.1)j rfl;have hj:j < [s,r].length:=by have:=hf.1.2.2;lia
   have e1:[s,r][j]?=some [s,r][j]:=ub3 hj;have h2:=hf.2;rw[uf3,Eb [s,r] _ _ _ e1] at h2;rw[Bn,uf3,GA [s,r] _ _ _ e1,ug2,bt];have hm:[s,r][j]=s\/[s,r][j]=r:=by
    match j,hj with
    |0,_=>exact .inl rfl
    |1,_=>exact .inr rfl
   rcases hm with e|e
   .rw[e] at h2⊢;have:=h.few x h2;lia
   .rw[e] at h2⊢;have:=h'.few x h2;lia
  .cases hf
def GY(f:Fn)(d:Nat):Prop:=∀(cell:Int) (S:List Ob),Wf f [.int cell,.int d] S λr S'=>S'=S/\∃(s:Sh) (l:Int),r=.tup [s.d,.int l]/\Dr d s
theorem Zw(c:Int):c%7=0\/c%7=1\/c%7=2\/c%7=3\/c%7=4\/c%7=5\/c%7=6:=by lia
theorem w5(i:Int):∃w:Int,atI [D.int 0,.int 3,.int 255,.int 256,.int 70000] (i%5)=some (.int w)/\0<=w/\w<=70000:=by
 have:i%5=0\/i%5=1\/i%5=2\/i%5=3\/i%5=4:=by lia
 rcases this with h|h|h|h|h<;>rw[h]
 .exact⟨0,rfl,by decide⟩
 .exact⟨3,rfl,by decide⟩
 .exact⟨255,rfl,by decide⟩
 .exact⟨256,rfl,by decide⟩
 .exact⟨70000,rfl,by decide⟩
theorem Vb:GY (fnOf 2 7 (CQ c)) 0:=by
 intro cell S;refine Am rfl ?_;unfold CQ;clear 5(w5 (cell/7/9))w hw w0 w1;have num:Dr 0 (.number (cell/7%9-4) (cell/7%9-4+w)):=.number ∅ ∅ w0 w1;rcases Zw cell with h|h|h|h|h|h|h
 .right;rw[h];right;exact⟨rfl,.nothing,_,rfl,.nothing⟩
 .right;rw[h];right;rw[7,BJ hw];exact⟨rfl,_,_,rfl,num⟩
 .right;rw[h];right;rw[7,BJ hw];exact⟨rfl,_,_,rfl,num⟩
 .right;rw[h];right;exact⟨rfl,.text (cell/7%4),_,rfl,.text ∅ ∅⟩
 .right;rw[h];right;rw[7,BJ hw];exact⟨rfl,_,_,rfl,num⟩
 .right;rw[h];right;rw[7,BJ hw];exact⟨rfl,_,_,rfl,num⟩
 .right;rw[h];right;rw[7,BJ hw];exact⟨rfl,_,_,rfl,num⟩
theorem Vc{d:Nat}(hc:GY c d):GY (fnOf 2 7 (CQ c)) (d+1):=by
 intro cell S;refine Am rfl ?_;unfold CQ;clear 5(w5 (cell/7/9))w hw w0 w1;have num:Dr (d+1) (.number (cell/7%9-4) (cell/7%9-4+w)):=.number ∅ ∅ w0 w1;have hd0:(((d+1:Nat):Int)==0)=false:=by rw[jv];lia
 have hd1:((d+1:Nat):Int)-1=(d:Nat):=by lia
 rcases Zw cell with h|h|h|h|h|h|h
 .right;rw[h];right;exact⟨rfl,.nothing,_,rfl,.nothing⟩
 .right;rw[h];right;rw[7,BJ hw];exact⟨rfl,_,_,rfl,num⟩
 .right;rw[h];right;rw[7,BJ hw];exact⟨rfl,_,_,rfl,num⟩
 .right;rw[h];right;exact⟨rfl,.text (cell/7%4),_,rfl,.text ∅ ∅⟩
 .right;rw[h];right;rw[hd1];refine(hc _ S).mono λr S' z9=>?_;clear 5 z9 e s l er hs;subst e er;right;exact⟨rfl,.list s (l%4),_,rfl,hs.list ∅ ∅⟩
 .right;rw[h];right;rw[hd1];refine(hc _ S).mono λr S' z9=>?_;clear 5 z9 e s l er hs;subst e er;right;rw[hd1];refine(hc _ _).mono λr S' z9=>?_;clear 5 z9 e s2 l2 er hs2;subst e er;right;exact⟨rfl,.choice [s,s2],_,rfl,hs.choice hs2⟩
 .right;rw[h];right;rw[hd1];refine(hc _ S).mono λr S' z9=>?_;clear 5 z9 e s l er hs;subst e er;right;rw[hd1];refine(hc _ _).mono λr S' z9=>?_;clear 5 z9 e s2 l2 er hs2;subst e er;right;exact⟨rfl,.pair s s2,_,rfl,hs.pair hs2⟩
def JF(f:Fn)(n:Nat):Prop:=∀(s:Sh),s.depth<=n->wf s=true->CS s=true->EV s=true->∀(cell:Int) (S:List Ob),Wf f [s.d,.int cell] S λr S'=>S'=S/\∃(v:D) (l:Int),r=.tup [v,.int l]/\Ap s v=true
noncomputable def sg4(i:Int):Nat:=[32,97,126,122].getD i.toNat 32
theorem au(i:Int):atI (Str.ofString " a~z").cps.toList (i%4)=some (sg4 (i%4)):=by
 have e:(Str.ofString " a~z").cps.toList=[32,97,126,122]:=by decide +kernel
 rw[e];have:i%4=0\/i%4=1\/i%4=2\/i%4=3:=by lia
 rcases this with h|h|h|h<;>rw[h]<;>rfl
theorem Va(i:Int):CF (sg4 (i%4))=true:=by
 have:i%4=0\/i%4=1\/i%4=2\/i%4=3:=by lia
 rcases this with h|h|h|h<;>rw[h]<;>decide
noncomputable def p4(k:Int):Int:=if k=0 then 1 else if k=1 then 4 else 16
theorem bK{k:Int}(h0:0<=k)(h1:k<3):atI [D.int 1,.int 4,.int 16] k=some (.int (p4 k)):=by
 have:k=0\/k=1\/k=2:=by lia
 rcases this with rfl|rfl|rfl<;>rfl
theorem VM(k:Int):0<p4 k/\p4 k<1073741824:=by unfold p4;split<;>(try split)<;>lia
theorem fG{x:Str}{i:Int}(h:x.length<=LIM)(e:atI x.cps.toList i=some n)(p:P (.str ⟨#[n]⟩) t):W (ixD (.str x) (.int i)) t P:=W_ix_str.mpr ⟨h,n,e,p⟩
def ch4(l:Int)(d:D):Nat:=match d with
 |.int k=>sg4 (l/p4 k%4)
 |_=>32
theorem LS{d:D}(h:d∈Bx 0 n):∃k:Int,d=.int k/\0<=k/\k<n:=by
 clear 5(List.getElem_of_mem h)j hj e;have e1:d::(Bx 0 n).drop (j+1)=(Bx 0 n).drop j:=by rw[<-e];exact(ub1 hj).symm
 obtain⟨rfl,_,hlt⟩:=N4 e1;exact⟨0+j,rfl,by lia,by lia⟩
theorem aJ(hc:JF c n):JF (fnOf 2 10 (ES c)) (n+1):=by
 intro s hs hw hn ht cell S;have hL:LIM=100000:=rfl;refine Am rfl ?_;unfold ES
 cases s with
 |nothing=>
   rw[Sh.d];right;exact⟨rfl,_,_,rfl,rfl⟩
 |number lo hi=>
   simp only[wf,ug8,uf9] at hw;simp only[CS,uf9] at hn;rw[Sh.d];right;rw[7,GX ∅];rw[7,Kc ∅ ∅];refine⟨rfl,_,_,rfl,?_⟩;have h1:=ui8 cell (b:=hi-lo+1) ∅;have h2:=ue9 cell (b:=hi-lo+1) ∅;simp only[Ap,ug8,uf9];lia
 |text m=>
   simp only[wf,ug8,uf9] at hw;simp only[EV,uf9] at ht;rw[Sh.d];right;refine GX ∅ ?_;have h1:=ui8 cell (b:=m+1) ∅;have h2:=ue9 cell (b:=m+1) ∅;right;rw[7,Kc ∅ ∅];rw[7,cU];refine IX (DO ∅ ∅) ?_;refine(H9 (f:=λd=>.str ⟨#[ch4 (cell/(m+1)) d]⟩) (fr:=[vw (.int (cell/(m+1)))]) ?_).mono ?_
   .intro d hd;clear 5(LS hd)k rfl k0 k1;right;refine BJ (bK k0 ∅) ?_;rw[7,Kc (VM k).1 (VM k).2];refine fG (by decide +kernel) (au _) ?_;exact⟨rfl,rfl⟩
   .rintro xs t' ⟨rfl,hS⟩;refine DF (by rw[uh7,ET,hL];lia) ?_;right;have e1:(Bx 0 (cell%(m+1)).toNat).map (λd=>D.str ⟨#[ch4 (cell/(m+1)) d]⟩)=((Bx 0 (cell%(m+1)).toNat).map (ch4 (cell/(m+1)))).map λn=>D.str ⟨#[n]⟩:=by rw[ll];rfl
    refine⟨_,_,_,rfl,rfl,by rw[e1];exact IV _,⟨by decide +kernel,by rw[uh7,uh7,ET];lia⟩,?_⟩;right;refine⟨hS,_,_,rfl,?_⟩;simp only[Ap,ug8,uf9];rw[GG,P6,uh7,ET];refine⟨by lia,?_⟩;rw[uh0];intro z hz;clear 5(ul2.mp hz)d hd rfl;obtain⟨k,rfl,_,_⟩:=LS hd;exact Va _
 |list s m=>
   rw[Sh.depth] at hs;simp only[wf,ug8,uf9] at hw;rw[CS] at hn;simp only[EV,ug8,uf9] at ht;rw[Sh.d];right;refine GX ∅ ?_;have h1:=ui8 cell (b:=m+1) ∅;have h2:=ue9 cell (b:=m+1) ∅;right;rw[7,Kc ∅ ∅];refine IX (DO ∅ ∅) ?_;refine EI (λr t=>∃(l:Int) (ds:List D) (e6 e7 e8 e9:Option Sl),ds.length+r.length=(cell%(m+1)).toNat/\(∀d∈ds,Ap s d=true)/\t=⟨[vw (.tup [.str "list",s.d,.int m]),vw (.int cell),vw (.str "list"),vw (.int (cell%(m+1))),vw (.int l),some (.own ds),e6,e7,e8,e9],S⟩) _ _ ⟨_,[],none,none,none,none,by rw[ET];simp,by simp,rfl⟩ ?_ ?_
   .rintro d r t ⟨l,ds,e6,e7,e8,e9,hl,hf,rfl⟩ _;rw[ug2] at hl;right;refine(hc s ∅ hw.2 hn ht.2 l S).mono λr' S' z9=>?_;clear 5 z9 e v l2 er hv;subst e er;right;refine DF (by rw[hL];lia) ?_;refine⟨l2,ds++[v],_,_,_,_,by rw[ue5];simp only[ug2,ui5];lia,?_,rfl⟩;intro d hd;rcases uh5.mp hd with h|h
    .exact hf d h
    .rw[ue7] at h;subst h;exact hv
   .rintro t ⟨l,ds,e6,e7,e8,e9,hl,hf,rfl⟩;rw[ui5] at hl;right;refine⟨rfl,_,_,rfl,?_⟩;simp only[Ap,ug8,uf9,uh0];exact⟨by lia,hf⟩
 |pair s r=>
   rw[Sh.depth] at hs;simp only[wf,ug8] at hw;simp only[CS,ug8] at hn;simp only[EV,ug8] at ht;rw[Sh.d];right;refine(hc s ∅ hw.1 hn.1 ht.1 cell S).mono λr' S' z9=>?_;clear 5 z9 e v l2 er hv;subst e er;right;refine(hc r ∅ hw.2 hn.2 ht.2 l2 _).mono λr' S' z9=>?_;clear 5 z9 e v' l3 er hv';subst e er;right;exact⟨rfl,_,_,rfl,by rw[Ap,hv,hv'];rfl⟩
 |choice ss=>
   rw[Sh.depth] at hs;simp only[wf,ug8,uf9] at hw;rw[CS] at hn;rw[EV] at ht;have h1:=ui8 cell (b:=(ss.length:Int)) ∅;have h2:=ue9 cell (b:=(ss.length:Int)) ∅;have hk:(cell%(ss.length:Int)).toNat<ss.length:=by lia
   have e1:ss[(cell%(ss.length:Int)).toNat]?=some ss[(cell%(ss.length:Int)).toNat]:=ub3 hk;have ea:atI (shD ss) (cell%(ss.length:Int))=some (ss[(cell%(ss.length:Int)).toNat]).d:=by
    unfold atI;rw[EZ h1 (by rw[Ex];exact h2)];show(shD ss)[(cell%(ss.length:Int)).toNat]?=_;rw[Hh,e1];rfl
   rw[Sh.d];right;rw[Ex];rw[7,GX ∅];rw[7,Gz ea];rw[Ex];rw[7,Kc ∅ ∅];refine(hc _ (uk9 (Ej ss _ _ e1) ∅) (F3 hw.2 _ (uh3 hk)) (JB hn _ (uh3 hk)) (MB ht _ (uh3 hk)) _ _).mono λr' S' z9=>?_;clear 5 z9 e v l2 er hv;subst e er;right;have ho:LF (Str.ofString "of")=true:=by decide +kernel
   exact⟨rfl,_,_,rfl,by simp only[Ap,ho,h1,h2,decide_true,uk4,uk2,Eb ss _ _ _ e1,hv]⟩
theorem GM{i j:Int}(h1 : -18446744073709551616<j)(h2:j<18446744073709551616)(h:P (.int (i*j)) t):W (EC (.int i) (.int j)) t P:=QQ (O3 h1 h2) h
def Yp(f:Fn):Prop:=∀(cell k:Int) (S:List Ob),0<=k->k<=10->Wf f [.int cell,.int k] S λr S'=>S'=S/\∃n:Int,r=.int n
theorem Zt:Yp (fnOf 2 3 EQ):=by
 intro cell k S k0 k1;refine Am rfl ?_;unfold EQ;right;refine CZ (λq=>?_) λq=>?_
 .right;exact⟨rfl,_,rfl⟩
 .right;rw[7,GM (by decide) (by decide)];rw[7,GM ∅ ∅];rw[7,GM ∅ ∅];rw[7,GM ∅ ∅];have b0:=ui8 (cell*48271+7919*k*k+104729*k+13) (b:=2147483647) (by decide);have b1:=ue9 (cell*48271+7919*k*k+104729*k+13) (b:=2147483647) (by decide);generalize (cell*48271+7919*k*k+104729*k+13)%2147483647=x at b0 b1;rw[7,GM ∅ ∅];have d0:=ui8 (x*x) (b:=2147483629) (by decide);have d1:=ue9 (x*x) (b:=2147483629) (by decide);generalize x*x%2147483629=y at d0 d1;rw[7,GM ∅ ∅];rw[7,GM ∅ ∅];rw[7,GM ∅ ∅];exact⟨rfl,_,rfl⟩
def Tin(x:GS):Prop:=∀w∈x.ws,Dr 2 w.2.1
def StC(f:Fn):Prop:=∀(cell k many:Int) (S:List Ob),0<=k->k<=10->1<=many->many<=6->Wf f [.int cell,.int k,.int many] S λr S'=>S'=S/\∃x:GS,r=x.d/\GSOk many x/\Tin x
noncomputable def names3:List Str:=[Str.ofString "go",Str.ofString "no",Str.ofString "ask"]
theorem names3_nd:names3.Nodup:=by decide +kernel
theorem Si:∀x∈names3,x.length<=90000:=by decide +kernel
theorem dN(i:Int):BZ (names3.map D.str) none (some (1+i%3))=(names3.take (1+i%3).toNat).map D.str:=by
 have:i%3=0\/i%3=1\/i%3=2:=by lia
 rcases this with h|h|h<;>rw[h]<;>rfl
theorem bZ(i:Int):∃s:Str,atI [D.str (Str.ofString "left"),.str (Str.ofString "right")] (i%2)=some (.str s)/\(s=Str.ofString "left"\/s=Str.ofString "right"):=by
 have:i%2=0\/i%2=1:=by lia
 rcases this with h|h<;>rw[h]
 .exact⟨_,rfl,.inl rfl⟩
 .exact⟨_,rfl,.inr rfl⟩
def Mp(C3:Fn):M Out:=
 (Ag (Gp 4 (Bc Ad))
 (Ag (Ar 5 (Ac (AL (Bc (Ab (fC (.str "left")) (Ab (fC (.str "right")) Ad)))) (Ac (Ac (Aa 3) (ia 5) A9) (ia 2) Bf) ixD))
 (Ag (Ar 6 (Ac (ia 1) (Ac (Ac (Aa 3) (ia 10) A9) (ia 3) Bf) AZ))
 (Ag (Ar 3 (Ac (Aa 3) (ia 30) A9))
 (Ag (Dh (EA (fSl (AL (Bc (Ab (fC (.str "go")) (Ab (fC (.str "no")) (Ab (fC (.str "ask")) Ad))))) fNo (DX (Aa 6)) FS)) (Au 7)
   (Ag (Bw (Aj C3 (Ab (Aa 3) (Ab (ia 2) Ad))) (unS 2 (AA (Au 8) (AA (Au 3) BL))))
 (Ag (ownM 4 Cu (Ab (AE (Ab (Aa 7) (Ab (Aa 8) (Ab (Ac (Aa 3) (Aa 2) Bf) Ad)))) Ad))
 (Ar 3 (Ac (Aa 3) (Aa 2) A9)))))
 (Al (AE (Ab (Aa 5) (Ab (Aa 4) Ad)))))))))
theorem Pk{cs:Fn}(hs:GY cs 2){cell k many n:Int}{S:List Ob}(m0:1<=many)(m1:many<=6):W (Mp cs) ⟨[vw (.int cell),vw (.int k),vw (.int many),vw (.int n),none,none,none,none,none],S⟩ λo t=>∃x:GS,o=.ret x.d/\t.S=S/\GSOk many x/\Tin x:=by
 have hL:LIM=100000:=rfl;clear 5(bZ (n/5))side hsd hside;unfold Mp;right;rw[7,BJ hsd];show W (Dp _ _ (BZ (names3.map D.str) none (some (1+n/10%3)))) _ _;rw[dN];refine EI (λr t=>∃(ws:List (Str×Sh×Int)) (rs:List Str) (l:Int) (e7 e8:Option Sl),r=rs.map D.str/\ws.map (·.1)++rs=names3.take (1+n/10%3).toNat/\(∀w∈ws,WOk many w/\Dr 2 w.2.1)/\t=⟨[vw (.int cell),vw (.int k),vw (.int many),vw (.int l),some (.own (ws.map wdD)),vw (.str side),vw (.int (1+n/10%3)),e7,e8],S⟩) _ _ ⟨[],names3.take (1+n/10%3).toNat,_,none,none,rfl,rfl,by simp,rfl⟩ ?_ ?_
 .rintro d r t ⟨ws,rs,l,e7,e8,hr,hn,hw,rfl⟩ _
  cases rs with
  |nil=>cases hr
  |cons nm rs=>
    rw[uj8] at hr;injection hr with h1 h2
    subst h1 h2;have hl:ws.length<=3:=by
     have:=lD List.length hn;rw[ue5,uh7,ug4] at this;have:names3.length=3:=rfl;lia
    have hmem:nm∈names3:=List.mem_of_mem_take (by rw[<-hn];simp);right;refine(hs _ S).mono λr' S' z9=>?_;clear 5 z9 e s l2 er hd;subst e er;right;rw[7,GX ∅];refine DF (by rw[uh7,hL];lia) ?_;right;refine Kc ∅ ∅ ?_;refine⟨ws++[(nm,s,l2%many)],rs,_,_,_,rfl,by rw[ui7,uf5];exact hn,?_,by rw[ui7];rfl⟩;intro w hw';rcases uh5.mp hw' with h|h
    .exact hw w h
    .rw[ue7] at h;subst h;exact⟨⟨hd.ok,hd.dep,ui8 _ ∅,ue9 _ ∅,Si nm hmem⟩,hd⟩
 .rintro t ⟨ws,rs,l,e7,e8,hr,hn,hw,rfl⟩
  cases rs with
  |cons _ _=>cases hr
  |nil=>
    rw[uh9] at hn;have hl:=lD List.length hn;rw[uh7,ug4] at hl;have hl3:names3.length=3:=rfl;right;refine⟨.st side ws,rfl,rfl,.st hside ∅ ∅ (by rw[hn];exact names3_nd.sublist (List.take_sublist _ _)) λw h=>(hw w h).1,λw h=>(hw w h).2⟩
variable{cm:Fn}
theorem eG{cs:Fn}(hs:GY cs 2)(hm:Yp cm):StC (fnOf 3 9 (ER cs cm)):=by
 intro cell k many S k0 k1 m0 m1;refine Am rfl ?_;unfold ER;right;refine(hm cell k S k0 k1).mono λr S' z9=>?_;clear 5 z9 e n er;subst e er;right;refine CZ (λq=>?_) λq=>?_
 .right;refine CZ (λq2=>?_) λq2=>?_
  .right;exact⟨rfl,.fin,rfl,.fin,λw h=>by cases h⟩
  .right;refine CZ (λq3=>?_) λq3=>?_
   .right;exact⟨rfl,.fin,rfl,.fin,λw h=>by cases h⟩
   .refine QT (BM ?_);exact(Pk hs m0 m1).mono λo t ⟨x,eo,es,h1,h2⟩=>by subst eo;exact⟨es,x,rfl,h1,h2⟩
 .refine DV rfl (QT (BM ?_));exact(Pk hs m0 m1).mono λo t ⟨x,eo,es,h1,h2⟩=>by subst eo;exact⟨es,x,rfl,h1,h2⟩
variable{Q:List D->T->Prop}
theorem cJ{f:M (List D)}(h:W f t λds t1=>∃xs,ds=[.lst xs]/\Q (EK 0 xs) t1):W (PQ f) t Q:=BR (h.mono λds t1 ⟨xs,e,q⟩=>by subst e;exact⟨_,_,rfl,q⟩)
def GrC(f:Fn):Prop:=∀(cells:List Int) (S:List Ob),1<=cells.length->cells.length<=6->Wf f [.lst (cells.map .int)] S λr S'=>S'=S/\∃g:List GS,r=.lst (g.map GS.d)/\GOk g/\∀x∈g,Tin x
theorem d4{cs:Fn}(hs:StC cs):GrC (fnOf 1 1 (Ed cs)):=by
 intro cells S h1 h2;have hL:LIM=100000:=rfl;refine Am rfl ?_;unfold Ed;right;rw[7,cJ];refine⟨_,rfl,?_⟩;refine(Kh (P:=λxs t'=>t'.S=S/\∃g:List GS,xs=g.map GS.d/\g.length=cells.length/\∀x∈g,GSOk cells.length x/\Tin x) (λacc r t=>∃(g:List GS) (cs:List Int) (e0 e1:Option Sl),acc=g.map GS.d/\r=EK g.length (cs.map .int)/\g.length+cs.length=cells.length/\(∀x∈g,GSOk cells.length x/\Tin x)/\t=⟨[e0,e1,vw (.lst (cells.map .int))],S⟩) (EK 0 (cells.map .int)) [] _ ⟨[],cells,none,none,rfl,rfl,by simp,by simp,rfl⟩ ?_ ?_).mono ?_
 .rintro acc d r t ⟨g,cs',e0,e1,ha,hr,hl,hg,rfl⟩ _
  cases cs' with
  |nil=>cases hr
  |cons c cs'=>
    rw[uj8,EK] at hr;injection hr with q1 q2
    subst q1 q2;rw[ug2] at hl;right;rw[lJ rfl];right;rw[uh7];refine(hs c _ _ S ∅ ∅ ∅ ∅).mono λr' S' z9=>?_;clear 5 z9 e x er hx ht;subst e er ha;refine⟨g++[x],cs',_,_,by rw[ui7];rfl,by rw[ue5];rfl,by rw[ue5];simp only[ug2,ui5];lia,?_,rfl⟩;intro y hy;rcases uh5.mp hy with h|h
    .exact hg y h
    .rw[ue7] at h;subst h;exact⟨hx,ht⟩
 .rintro acc t ⟨g,cs',e0,e1,ha,hr,hl,hg,rfl⟩
  cases cs' with
  |cons _ _=>cases hr
  |nil=>exact⟨rfl,g,ha,by simpa using hl,hg⟩
 .rintro xs t' ⟨hS,g,rfl,hl,hg⟩;refine DF (by rw[uh7,hL];lia) ?_;exact⟨hS,g,rfl,⟨by lia,by lia,λx h=>by rw[hl];exact(hg x h).1⟩,λx h=>(hg x h).2⟩
def Vs(f:Fn):Prop:=∀(ns:List Int) (k:Int),0<=k->k<=1000->∃c:Int,Pure1 f [.scr ns,.int k] (.int c)
theorem YC:Vs (fnOf 2 2 DZ):=by
 intro ns k h0 h1
 by_cases z:k<ns.length
 .have hk:k.toNat<ns.length:=by lia
  refine⟨ns[k.toNat],λS=>Am rfl ?_⟩;unfold DZ;right;rw[7,Fe (uj5 ∅)];refine W_ix_scr.mpr ⟨ns[k.toNat],?_,?_⟩
  .unfold atI;rw[EZ h0 ∅];show ns[k.toNat]?=_;rw[ub3 hk]
  .right;exact⟨rfl,rfl⟩
 .refine⟨0,λS=>Am rfl ?_⟩;unfold DZ;right;rw[7,DV (ui9 ∅)];exact⟨rfl,rfl⟩
theorem NI(hq:q<g.length):AW g q∈g:=by
 unfold AW;rw[ua8,ub3 hq];exact uh3 hq
theorem MF{g:List GS}(hg:GOk g)(sd:Str):∀(q:Nat) (mv:List Mv),okQ g q mv->isB (Fi g sd q mv)
 |_,[],_=>λd h=>nomatch h
 |q,(p,v)::r,h=>by
   rw[okQ] at h;have hw:=Le hg h.1.lt h.1.pl;have hgs:=En hg h.1.lt;have hp:=h.1.pl;have hp9:p<256:=by
    cases e:AW g q with
    |fin=>rw[e] at hp;exact absurd hp (Nat.not_lt_zero _)
    |st s ws=>
      rw[e] at hp hgs
      cases hgs with
      |st _ _ h3 _ _=>exact ue0 hp (uk9 h3 (by decide))
   rw[Fi];refine LC ?_ (MF hg sd _ r h.2)
   split
   .exact Gc hp9 (F8 3 _ hw.dep hw.ok v h.1.fit)
   .exact λd h=>nomatch h
section
variable{α:Type}{o:Str}{x y z:α}
theorem NS:onS o (onS o x y) (onS o y x)=x:=by unfold onS;split<;>rfl
theorem ZA:onS o x (onS o y z)=onS o x z:=by unfold onS;split<;>rfl
theorem ZB:onS o (onS o y z) x=onS o y x:=by unfold onS;split<;>rfl
theorem eA(hs:s=sL\/s=sR)(ho:o=sL\/o=sR)(n:s≠o):onS s (onS o x y) (onS o y x)=y:=by
 unfold onS;rcases hs with rfl|rfl<;>rcases ho with rfl|rfl
 .exact absurd rfl n
 .rw[lJ rfl,lK (Ne.symm sLR)]
 .rw[lK (Ne.symm sLR),lJ rfl]
 .exact absurd rfl n
end
abbrev w1(g:List GS)(o:Str)(w:List Nat)(F h a:Nat)(t:List D):Rs:=Bh g (onS o w []) (onS o [] w) F h (onS o a 0) (onS o 0 a) t
abbrev s1(g:List GS)(o:Str)(w:List Nat)(h a:Nat):Sr:=Bv g (onS o w []) (onS o [] w) h (onS o a 0) (onS o 0 a)
theorem UY(hg:GOk g){o:Str}(ho:o=sL\/o=sR){w:List Nat}{h a:Nat}(hh:h<g.length)(n:(AW g h).side≠o):s1 g o w h a=.stop:=by
 have hgs:=En hg hh;unfold s1 Bv
 cases e:AW g h with
 |fin=>rfl
 |st side ws=>
   rw[e] at hgs n;have hs:side=sL\/side=sR:=by cases hgs with|st hs1 _ _ _ _=>exact hs1
   dsimp only;rw[eA hs ho n];rfl
set_option tactic.hygienic true in
theorem am{o:Str}{ws:List (Str×Sh×Int)}(e:AW g h=.st o ws):s1 g o w h a=match msgR o ws w a with
 |(.short,_)=>.stop
 |(.broken k,_)=>.brk k o
 |(.told v e,c)=>.next (.tup [.str o,.str (ws.getD c (Str.ofString "",.nothing,0)).1,v]) (ws.getD c (Str.ofString "",.nothing,0)).2.2.toNat (onS o e 0) (onS o 0 e):=by
 unfold s1 Bv;rw[e];dsimp only;rw[NS,NS];generalize msgR o ws w a=m;clear 5 m r c
 cases r<;>dsimp only
 rw[ZA,ZB]
abbrev mbQ(g:List GS)(q p:Nat)(v:D):List D:=.int (p:Int)::Bn (wdAt g q p).2.1 v
abbrev d1(o:Str)(d:D):List (Key×D):=[(.inr o,d)]
theorem Ky{o:Str}{d:D}:Bb (d1 o d) (.inr o)=some d:=by simp[Bb,ui4]
theorem YH{o:Str}{d:D}(n:s≠o):Bb (d1 o d) (.inr s)=none:=by
 unfold Bb;rw[ui4,show decide ((Sum.inr o:Key)=.inr s)=false from ui9 λh=>n (Sum.inr.inj h).symm];rfl
theorem YI{o:Str}{d e:D}:BP (d1 o d) (.inr o) e=d1 o e:=by
 unfold BP;rw[lJ (by simp)];simp only[uj8,ul1,lH]
def Kx(F:List Nat)(S S':List Ob):Prop:=S.length<=S'.length/\∀i,i<S.length->i∉F->S'[i]?=S[i]?
section
variable{F:List Nat}{S S1 S2:List Ob}{k:Nat}{o:Ob}
theorem Kx.refl:Kx F S S:=⟨ul4 _,λ_ _ _=>rfl⟩
theorem Kx.trans(a:Kx F S S1)(b:Kx F S1 S2):Kx F S S2:=⟨uk9 a.1 b.1,λi h n=>(b.2 i (ue0 h a.1) n).trans (a.2 i h n)⟩
theorem Kx.set(a:Kx F S S1)(h:k∈F):Kx F S (S1.set k o):=⟨by rw[ui2];exact a.1,λi hi n=>by rw[ud2 (λe=>n (by rw[<-e];exact h))];exact a.2 i hi n⟩
theorem Kx.setN(a:Kx F S S1)(h:S.length<=k):Kx F S (S1.set k o):=⟨by rw[ui2];exact a.1,λi hi n=>by rw[ud2 ∅];exact a.2 i hi n⟩
theorem Kx.gr(a:Kx F S S1)(b:Gr S1 S2):Kx F S S2:=⟨uk9 a.1 b.1,λi h n=>(b.2 i (ue0 h a.1)).trans (a.2 i h n)⟩
theorem Kx.get(a:Kx F S S1)(n:k∉F)(h:S[k]?=some o):S1[k]?=some o:=by rw[a.2 k (AO h) n];exact h
end
abbrev lsF(g:List GS)(x:Str)(h tk hd W P q:Nat):List (Str×D):=[("grammar",.lst (g.map GS.d)),("standing",.int (h:Nat)),("wires",.obj W),("places",.obj P),("side",.str x),("said",.obj q),("taken",.int (tk:Nat)),("handed",.int (hd:Nat))]
structure Lst(S:List Ob)(g:List GS)(x o:Str)(h a tk hd:Nat)(w sd:List Nat)(k l q W P:Nat):Prop where
 ik:S[k]?=some (.ins "Lasting" (lsF g x h tk hd W P q))
 iw:S[W]?=some (.dct (d1 o (.obj l)))
 ip:S[P]?=some (.dct (d1 o (.int (a:Nat))))
 il:S[l]?=some (.lst (wD w))
 iq:S[q]?=some (.lst (wD sd))
 ne:l≠q
section
variable{S S':List Ob}{g:List GS}{x o:Str}{h a tk hd:Nat}{w sd:List Nat}{k l q W P:Nat}
end
def Two(x o:Str):Prop:=(x=sL/\o=sR)\/(x=sR/\o=sL)
theorem Two.swap{x o:Str}(h:Two x o):Two o x:=h.elim (λh=>.inr ⟨h.2,h.1⟩) λh=>.inl ⟨h.2,h.1⟩
theorem Two.x{x o:Str}(h:Two x o):x=sL\/x=sR:=h.imp (·.1) (·.1)
theorem Two.o{x o:Str}(h:Two x o):o=sL\/o=sR:=h.swap.x
def E3(f:Fn):Prop:=∀x o:Str,Two x o->Pure1 f [.str x] (.str o)
theorem ZO:E3 (fnOf 1 1 Gh):=by
 intro x o h S;refine Am rfl ?_;unfold Gh;rcases h with⟨rfl,rfl⟩|⟨rfl,rfl⟩
 .symm;exact⟨rfl,rfl⟩
 .symm;exact⟨rfl,rfl⟩
theorem aW{k:Nat}{lo hi:Option Int}(e:t.S[k]?=some (.lst ds))(h:P (.lst (BZ ds lo hi)) t):W (LV (.obj k) lo hi) t P:=⟨_,_,by simp only[LV,e],h⟩
abbrev heF(g:List GS)(W P:Nat):List (Str×D):=[("grammar",.lst (g.map GS.d)),("standing",.int (0:Nat)),("wires",.obj W),("places",.obj P)]
structure Hea(S S':List Ob)(k W P l:Nat)(o:Str)(fs:List (Str×D)):Prop where
 kp:Kp k S S'
 ik:S'[k]?=some (.ins "Lasting" fs)
 iw:S'[W]?=some (.dct (d1 o (.obj l)))
 ip:S'[P]?=some (.dct (d1 o (.int (0:Nat))))
 il:S'[l]?=some (.lst [])
 gw:S.length<=W
 gp:S.length<=P
 gl:S.length<=l
mutual
inductive Ow(S:List Ob):D->D->List Nat->Prop
 |non:Ow S .non .non []
 |int (i:Int):Ow S (.int i) (.int i) []
 |str (x:Str):Ow S (.str x) (.str x) []
 |tup {ds vs:List D}{fp:List Nat}:Ows S ds vs fp->Ow S (.tup ds) (.tup vs) fp
 |obj {k:Nat}{ds vs:List D}{fp:List Nat}:S[k]?=some (.lst ds)->Ows S ds vs fp->k∉fp->Ow S (.obj k) (.lst vs) (k::fp)
inductive Ows(S:List Ob):List D->List D->List Nat->Prop
 |nil:Ows S [] [] []
 |cons {d v:D}{fp fp':List Nat}{ds vs:List D}:Ow S d v fp->Ows S ds vs fp'->(∀k∈fp,k∉fp')->Ows S (d::ds) (v::vs) (fp++fp')
end
theorem QK{d:D}{m:String}(e:P4 d=false)(h:W (CY [d,.ty m]) t P):W (JU [d,.ty m]) t P:=by
 cases d<;>first|exact h|cases e
variable{tst:M Bool}
theorem GO{g:Gd}{st:D->M Unit}{P:List D->T->Prop}(h:Gon g t.S)(q:P [] t):W (compG g st tst elt []) t P:=by
 unfold compG;exact W_bnd.mpr ⟨_,_,Kv h,W_ret.mpr q⟩
set_option tactic.hygienic true in
theorem E5{g:Gd}{st:D->M Unit}{d:D}{r:List D}{P:List D->T->Prop}(h:Gon g t.S)(q:W (st d) t λ_ t1=>W tst t1 λk t2=>
 if k=true then W elt t2 λx t3=>W (compG g st tst elt r) t3 λxs t4=>P (x::xs) t4 else W (compG g st tst elt r) t2 P):W (compG g st tst elt (d::r)) t P:=by
 rw[compG];refine W_bnd.mpr ⟨_,_,Kv h,W_bnd.mpr (q.mono λ_ t1 q=>W_bnd.mpr (q.mono λk t2 q=>?_))⟩
 split
 .next hk=>
  rw[lJ hk] at q;exact W_bnd.mpr (q.mono λx t3 q=>W_bnd.mpr (q.mono λxs t4 q=>W_ret.mpr q))
 .next hk=>
  rw[lK hk] at q;exact q
theorem Oh{fr:List Nat}{f:M (Gd×List D)}{st:D->M Unit}{P:List D->T->Prop}(h:W f t λp t1=>W (compG p.1 st tst elt p.2) ⟨cenv n fr t1.env,t1.S⟩ λxs t2=>HA xs.length (P xs {t1 with S:=t2.S})):W (Ga n fr f st tst elt) t P:=by
 refine W_bnd.mpr (h.mono λp t1 h=>?_);clear 5 h xs t2 e l q;refine⟨xs,_,?_,q⟩;simp only[e,lJ l]
theorem NH:Gon none S:=λ_ _ z=>nomatch z
theorem JS{k:Nat}(h:S[k]?=some (.lst xs)):Gon (some (k,xs)) S:=λ_ _ z=>by cases z;exact h
theorem Lc{k:Nat}(e:t.S[k]?=some (.lst ds))(h:Q ds t):W (Ds [.obj k]) t Q:=⟨_,_,by simp only[Ds,e],h⟩
def prt(g:List GS)(mv:List Mv)(i:Nat):List D:=match mv[i]? with
 |some (p,v)=>.int (p:Int)::Bn (wdAt g (KL g 0 (mv.take i)) p).2.1 v
 |none=>[]
structure Due(g:List GS)(mv:List Mv)(rl rr k:Nat):Prop where
 le:k<=mv.length
 a:(Fi g sL 0 (mv.take k)).length<=rl
 b:(Fi g sR 0 (mv.take k)).length<=rr
 z:k=mv.length\/(k<mv.length/\onS (AW g (KL g 0 (mv.take k))).side rl rr<onS (AW g (KL g 0 (mv.take k))).side (Fi g sL 0 (mv.take k)).length (Fi g sR 0 (mv.take k)).length+(prt g mv k).length)
local macro_rules | `(tactic| walk_at"y1")=>`(tactic| first
 |walk_at"x1" |clear 32 QK)
theorem QL{P:Gd×List D->T->Prop}(h:W f t λd t1=>W (Iw d) t1 P):W (Lx f) t P:=W_bnd.mpr h
theorem QM{k:Nat}{P:Gd×List D->T->Prop}(e:t.S[k]?=some (.lst ds))(h:P (some (k,ds),ds) t):W (Iw (.obj k)) t P:=⟨_,_,by simp only[Iw,e],h⟩
set_option tactic.hygienic true in
theorem PC{g:Gd}{st:D->M Unit}{b:M Out}{P:Out->T->Prop}(h:Gon g t.S)(q:P .next t):W (forG g st b []) t P:=by
 unfold forG;exact W_bnd.mpr ⟨_,_,Kv h,W_ret.mpr q⟩
abbrev PureO(S:List Ob)(f:Fn)(ds:List D)(r:D):Prop:=Wf f ds S λx S'=>x=r/\S'=S
theorem PureO.use{f:Fn}(h:PureO S f ds r){P:D->List Ob->Prop}(p:P r S):Wf f ds S P:=Wf.mono h λ_ _ ⟨e1,e2⟩=>by subst e1 e2;exact p
set_option tactic.hygienic true in
theorem Li{g:Gd}{st:D->M Unit}{b:M Out}{P:Out->T->Prop}(I:List D->T->Prop)(hg:∀r t,I r t->Gon g t.S):∀(ds:List D) (t:T),I ds t->
 (∀d r t,I (d :: r) t->W (st d) t λ_ t1=>W b t1 λo t2=>match o with
   |.next=>I r t2
   |.cont=>I r t2
   |.brk=>P .next t2
   |.ret x=>P (.ret x) t2)->(∀t,I [] t->P .next t)->W (forG g st b ds) t P
 |[],t,h,_,fin=>PC (hg _ _ h) (fin t h)
 |d::r,t,h,turn,fin=>by
   rw[forG];refine W_bnd.mpr ⟨_,_,Kv (hg _ _ h),W_bnd.mpr ((turn d r t h).mono λ_ t1 q=>W_bnd.mpr (q.mono λo t2 q=>?_))⟩
   cases o with
   |next=>exact Li I hg r t2 q turn fin
   |cont=>exact Li I hg r t2 q turn fin
   |brk=>exact W_ret.mpr q
   |ret x=>exact W_ret.mpr q
theorem aQ{f:M (Gd×List D)}{st:D->M Unit}{b:M Out}{P:Out->T->Prop}(h:W f t λp t1=>W (forG p.1 st b p.2) t1 P):W (KD f st b) t P:=W_bnd.mpr h
noncomputable def eY:List D->Bool
 |[_,_]=>true
 |[.str _,.int _,_]=>true
 |_=>false
mutual
def tm:D->Bool
 |.non=>true
 |.int _=>true
 |.str x=>decide (x.length<=90000)
 |.lst xs=>decide (xs.length<=1000)&&tms xs
 |.tup xs=>tms xs&&eY xs
 |_=>false
def tms:List D->Bool
 |[]=>true
 |d::r=>tm d&&tms r
end
abbrev bsF(g:List GS)(x:Str)(h W P:Nat)(E:List (Str×D)):List (Str×D):=("grammar",.lst (g.map GS.d))::("standing",.int (h:Nat))::("wires",.obj W)::("places",.obj P)::("side",.str x)::E
structure Ins(S:List Ob)(n:Str)(E:List (Str×D))(g:List GS)(x o:Str)(h a:Nat)(w:List Nat)(k l W P:Nat):Prop where
 ik:S[k]?=some (.ins n (bsF g x h W P E))
 iw:S[W]?=some (.dct (d1 o (.obj l)))
 ip:S[P]?=some (.dct (d1 o (.int (a:Nat))))
 il:S[l]?=some (.lst (wD w))
 el:E.length<=100
variable{F:List Nat}
section
variable{S S':List Ob}{n:Str}{E:List (Str×D)}{g:List GS}{x o:Str}{h a:Nat}{w:List Nat}{k l W P:Nat}
theorem Ins.keep(R:Ins S n E g x o h a w k l W P)(K:Kx F S S')(n1:k∉F)(n2:l∉F)(n4:W∉F)(n5:P∉F):Ins S' n E g x o h a w k l W P:=
 ⟨K.get n1 R.ik,K.get n4 R.iw,K.get n5 R.ip,K.get n2 R.il,R.el⟩
theorem Ins.gr(R:Ins S n E g x o h a w k l W P)(G:Gr S S'):Ins S' n E g x o h a w k l W P:=⟨G.get R.ik,G.get R.iw,G.get R.ip,G.get R.il,R.el⟩
theorem Ins.ext(R:Ins S n E g x o h a w k l W P)(y:List Nat):Ins (S.set l (.lst (wD w++wD y))) n E g x o h a (w++y) k l W P:=
 ⟨Ae R.ik (AD R.il R.ik (by simp)),Ae R.iw (AD R.il R.iw (by simp)),Ae R.ip (AD R.il R.ip (by simp)),by rw[<-Lb];exact AN R.il,R.el⟩
theorem Ins.put{h' a' Q:Nat}{E':List (Str×D)}(R:Ins S n E g x o h a w k l W P)(e:S[Q]?=some (.dct (d1 o (.int (a':Nat)))))(l':E'.length<=100):Ins (S.set k (.ins n (bsF g x h' W Q E'))) n E' g x o h' a' w k l W Q:=
 ⟨AN R.ik,Ae R.iw (AD R.ik R.iw (by simp)),Ae e (AD R.ik e (by simp)),Ae R.il (AD R.ik R.il (by simp)),l'⟩
theorem Ins.fl(R:Ins S n E g x o h a w k l W P):(bsF g x h W P E).length<1000:=by
 have:=R.el;show E.length+1+1+1+1+1<1000;lia
end
theorem Oj{k:Nat}{g:M (List D)}(w:L2.W f t λo t1=>o=.obj k/\(∃xs0,t1.S[k]?=some (.lst xs0))/\L2.W g t1 λds t2=>ds=[.obj j]/\∃xs ys,t2.S[k]?=some (.lst xs)/\t2.S[j]?=some (.lst ys)/\xs.length+ys.length<=LIM/\P .non ⟨t2.env,t2.S.set k (.lst (xs++ys))⟩):L2.W (objX f g) t P:=by
 refine BR (w.mono λo t1 z=>?_);obtain⟨rfl,⟨x0,e0⟩,ds,t2,e1,rfl,xs,ys,e2,e3,e4,p⟩:=z;refine⟨_,_,?_,p⟩;simp only[e0,bnd,e1,e2,e3,lJ e4]
theorem QR{g:M D}(h:L2.W f t P):L2.W (FL f g) t P:=by
 clear 5 h r t' e p;exact⟨r,t',by simp only[FL,e],p⟩
theorem QS{g:M D}(e:f t=none)(h:L2.W g t P):L2.W (FL f g) t P:=by
 clear 5 h r t' e' p;exact⟨r,t',by simp only[FL,e,e'],p⟩
theorem IE{n:Str}{fl:M (List D)}{k:Nat}{fs:List (Str×D)}{env:List (Option Sl)}{i:Nat}(e:env[i]?=some (vw (.obj k)))(hk:S[k]?=some (.ins n fs))(hn:n≠m):AR m c (Aa i) fl ⟨env,S⟩=none:=by
 unfold AR;have h1:Aa i ⟨env,S⟩=some (.obj k,⟨env,S⟩):=by simp only[Aa,e]
 simp only[bnd,h1,FM,hk,lK hn];rfl
abbrev lE(q tk hd:Nat):List (Str×D):=[("said",.obj q),("taken",.int (tk:Nat)),("handed",.int (hd:Nat))]
structure HeaG(n:Str)(S S':List Ob)(k W P l:Nat)(o:Str)(fs:List (Str×D)):Prop where
 kp:Kp k S S'
 ik:S'[k]?=some (.ins n fs)
 iw:S'[W]?=some (.dct (d1 o (.obj l)))
 ip:S'[P]?=some (.dct (d1 o (.int (0:Nat))))
 il:S'[l]?=some (.lst [])
 gw:S.length<=W
 gp:S.length<=P
 gl:S.length<=l
theorem HeaG.put{n:Str}{k W P l:Nat}{o:Str}{fs fs':List (Str×D)}(R:HeaG n S S' k W P l o fs):HeaG n S (S'.set k (.ins n fs')) k W P l o fs':=
 ⟨R.kp.setk,AN R.ik,Ae R.iw (AD R.ik R.iw (by simp)),Ae R.ip (AD R.ik R.ip (by simp)),Ae R.il (AD R.ik R.il (by simp)),R.gw,R.gp,R.gl⟩
theorem HeaG.app{n:Str}{S S':List Ob}{k W P l:Nat}{o:Str}{fs:List (Str×D)}{b:Ob}(R:HeaG n S S' k W P l o fs):HeaG n S (S'++[b]) k W P l o fs:=
 ⟨R.kp.app,AM R.ik,AM R.iw,AM R.ip,AM R.il,R.gw,R.gp,R.gl⟩
theorem QU{l u:M (Option Int)}(h:L2.W f t λd t1=>L2.W l t1 λa t2=>L2.W u t2 λb t3=>L2.W (slF d a b) t3 Q):L2.W (Ly f l u) t Q:=BR (h.mono λ_ _ h=>BR (h.mono λ_ _ h=>BR h))
theorem QV{k:Nat}{lo hi:Option Int}(e:t.S[k]?=some (.lst ds))(h:Q (BZ ds lo hi) t):L2.W (slF (.obj k) lo hi) t Q:=⟨_,_,by simp only[slF,e],h⟩
def JC(f:Fn):Prop:=∀(S:List Ob) (g:List GS) (x o:Str) (h a m:Nat) (w sd:List Nat) (k l W P q tk hd:Nat),hd<=m->m<=sd.length->S[q]?=some (.lst (wD sd))->Ins S "Lasting" (lE q tk hd) g x o h a w k l W P->
 Wf f [.obj k,.int (m:Nat)] S λr S'=>∃j,r=.obj j/\S'[j]?=some (.lst (wD (sd.drop m)))/\S.length<=j/\Kx [k] S S'/\Ins S' "Lasting" (lE q tk m) g x o h a w k l W P
def MZ(f:Fn):Prop:=∀(S:List Ob) (g:List GS) (x o:Str) (h a:Nat) (m:Int) (w sd:List Nat) (k l W P q tk hd:Nat),(m<hd\/(sd.length:Int)<m)->S[q]?=some (.lst (wD sd))->Ins S "Lasting" (lE q tk hd) g x o h a w k l W P->PureO S f [.obj k,.int m] (.exc "NoName" [])
theorem t9c{a0 a1 a2 a3 a4 a6 e7 e8:Option Sl}{x:D}(h:x=y):(⟨[a0,a1,a2,a3,a4,vw x,a6,e7,e8],S⟩:T)=⟨[a0,a1,a2,a3,a4,vw y,a6,e7,e8],S⟩:=by subst h;rfl
def eD(S S':List Ob)(o:Str)(r:D):Rs->Prop
 |(t,h,a,b,none)=>∃T0 K,r=.tup [.obj T0,.int (h:Nat),.obj K]/\S'[T0]?=some (.lst t)/\S'[K]?=some (.dct (d1 o (.int (onS o a b:Nat))))/\S.length<=T0
 |(_,_,_,_,some (k,s))=>r=.exc "Broken" [.int (k:Nat),.str s]
def JE(f:Fn):Prop:=∀(g:List GS) (o:Str) (w:List Nat) (dw:D) (h a W P:Nat) (S:List Ob),GOk g->(o=sL\/o=sR)->h<g.length->a<=w.length->w.length<=25000->Wir S dw w->S[W]?=some (.dct (d1 o dw))->S[P]?=some (.dct (d1 o (.int (a:Nat))))->
 Wf f [.lst (g.map GS.d),.int (h:Nat),.obj W,.obj P] S λr S'=>Gr S S'/\eD S S' o r (w1 g o w (w.length+1) h a [])
set_option tactic.hygienic true in
theorem N1(hc:Ts c):JE (fnOf 4 9 (Gi c)):=by
 intro g o w dw h a W P S hg ho hh ha hl hv hW hP;have hL:LIM=100000:=rfl;rw[9,Gi];rw[6,aM (AM hP)];generalize hR:w1 g o w (w.length+1) h a []=R;obtain⟨K,hK⟩:∃K,K=(S++[Ob.lst []]).length:=⟨_,rfl⟩;have hKS:K=S.length+1:=by rw[hK,ue5];rfl
 rw[<-hK];refine JG (λn t=>∃(h' a':Nat) (tk:List D) (S':List Ob) (e7 e8:Option Sl),h'<g.length/\a'<=w.length/\w.length+1<=n+a'/\tk.length+n<=w.length+1/\w1 g o w n h' a' tk=R/\Gr S S'/\S'[K]?=some (.dct (d1 o (.int (a':Nat))))/\S'[S.length]?=some (.lst tk)/\t=⟨[vw (.lst (g.map GS.d)),vw (.int h),vw (.obj W),vw (.obj P),vw (.obj S.length),vw (.int h'),vw (.obj K),e7,e8],S'⟩) ?_ MP (w.length+1) _ ?_ ?_
 .rintro n t ⟨h',a',tk,S',e7,e8,hh',ha',hn,ht,hR',hG,hK',hT',rfl⟩;obtain⟨m,rfl⟩:∃m,n=m+1:=jm ∅;have hgs:=En hg hh';have hix:=Gb hh';have hW':=hG.get hW
  by_cases z:(AW g h').side=o
  .cases eg:AW g h' with
   |fin=>
     rw[eg] at z;rcases ho with rfl|rfl<;>exact absurd z (by decide +kernel)
   |st side ws=>
     rw[eg] at z;have z:side=o:=z;subst z;rw[eg] at hix hgs;have hix2:=hix;rw[GS.d] at hix2;symm;rw[6,BJ hix2];refine aR hW' ?_;rw[Ky];symm;refine⟨m,rfl,?_⟩;symm;rw[6,BJ hix2];rw[6,BJ hix];rw[6,AS hW' Ky];rw[6,AS hK' Ky];have hst:s1 g side w h' a'=_:=am eg;have hms:=hc S' dw g.length side ws w a' (hv.gr hG) hgs ha' ∅;have hR2:Bh g (onS side w []) (onS side [] w) (m+1) h' (onS side a' 0) (onS side 0 a') tk=R:=hR';rw[Bh,show Bv g (onS side w []) (onS side [] w) h' (onS side a' 0) (onS side 0 a')=_ from hst] at hR2;unfold FQ at hms;generalize hmr:msgR side ws w a'=mr at hms hR2 hst;clear 5 mr r0 c0
     cases r0 with
     |short=>
       dsimp only at hms hR2;rw[6,hms.use];refine W_ret.mpr ?_;show DM _ _ Out.next _;symm;subst hR2;exact⟨rfl,hG,S.length,K,rfl,hT',by rw[NS];exact hK',ul4 _⟩
     |broken k=>
       dsimp only at hms hR2;rw[6,hms.use];subst hR2;exact⟨hG,rfl⟩
     |told v e=>
       dsimp only at hms hR2 hst;have pl:Pl g (onS side w []) (onS side [] w) h' (onS side a' 0) (onS side 0 a'):=⟨hh',by unfold onS;split<;>first|exact ha'|exact ul5 _,by unfold onS;split<;>first|exact ha'|exact ul5 _⟩
       clear 5(GK hg pl hst)p2 hlt;have hae:a'<e:=by unfold onS at hlt;split at hlt<;>lia
       have hel:e<=w.length:=by
        have h1:=p2.a;have h2:=p2.b;unfold onS at h1 h2
        split at h1
        .exact h1
        .next q=>simp only[lK q] at h2;exact h2
       rw[6,hms.use];rw[6,Js (k:=S.length)];refine⟨rfl,_,hT',?_⟩;symm;refine⟨_,tk++[.tup [.str side,.str (ws.getD c0 (Str.ofString "",.nothing,0)).1,v]],hT',by simp only[Cu];rw[lJ (by rw[hL];lia)],?_⟩;have hK2:=Ae (o:=.lst (tk++[.tup [.str side,.str (ws.getD c0 (Str.ofString "",.nothing,0)).1,v]])) hK' (by lia:S.length≠K);have hT2:=AN (o':=.lst (tk++[.tup [.str side,.str (ws.getD c0 (Str.ofString "",.nothing,0)).1,v]])) hT';have hG2:=hG.set (o:=.lst (tk++[.tup [.str side,.str (ws.getD c0 (Str.ofString "",.nothing,0)).1,v]])) (ul4 _);generalize S'.set S.length (.lst (tk++[.tup [.str side,.str (ws.getD c0 (Str.ofString "",.nothing,0)).1,v]]))=S'' at hK2 hT2 hG2⊢;symm;refine Em hK2 (by show 1<100000;decide) ?_;rw[YI];have hwl:(0:Int)<=(ws.getD c0 (Str.ofString "",.nothing,0)).2.2:=by
        cases hgs with
        |st _ h2 _ _ h5=>
          cases hq:ws[c0]? with
          |none=>rw[ua8,hq];exact Int.le_refl _
          |some wd=>rw[ua8,hq];exact(h5 wd (ud3 hq)).lo
       refine⟨_,e,tk++[_],_,_,_,p2.h,hel,by lia,by rw[ue5,uc9];lia,hR2,hG2.set ∅,AN hK2,Ae hT2 ∅,t9c (lD D.int (Int.toNat_of_nonneg hwl).symm)⟩
  .have hR2:R=(tk,h',onS o a' 0,onS o 0 a',none):=by rw[<-hR'];exact To (UY hg ho hh' z) _
   have hsd:atI [(D.str (AW g h').side)] 0=some (.str (AW g h').side):=rfl;have fin:∀(t:T) (Q:D->T->Prop),Q (.str (AW g h').side) t->L2.W (ixD (AW g h').d (.int 0)) t Q:=λt Q h=>by
    cases e:AW g h' with
    |fin=>rw[e] at h;rw[GS.d];exact Gz Hl h
    |st s w=>rw[e] at h;rw[GS.d];exact Gz Hl h
   symm;rw[6,BJ hix];rw[6,fin _ _];refine aR hW' ?_;rw[YH z];symm;show DM _ _ Out.next _;symm;subst hR2;exact⟨rfl,hG,S.length,K,rfl,hT',by rw[NS];exact hK',ul4 _⟩
 .show _<1000000;lia
 .exact⟨h,a,[],_,none,none,hh,ha,by lia,by simp,hR,Gr.app.trans Gr.app,by rw[hK];exact AU,AM AU,rfl⟩
def hhR(S S':List Ob)(n:Str)(E:List (Str×D))(g:List GS)(x o:Str)(h a:Nat)(w:List Nat)(k l W P:Nat)(r:D):Rs->Prop
 |(t,h',a1,b1,none)=>∃T0 P',r=.obj T0/\S'[T0]?=some (.lst t)/\S.length<=T0/\Ins S' n E g x o h' (onS o a1 b1) w k l W P'
 |(_,_,_,_,some (j,s))=>r=.exc "Broken" [.int (j:Nat),.str s]/\Ins S' n E g x o h a w k l W P
def Pt(f:Fn):Prop:=∀(S:List Ob) (n:Str) (E:List (Str×D)) (g:List GS) (x o:Str) (h a:Nat) (w y:List Nat) (k l W P p0:Nat),GOk g->Two x o->h<g.length->a<=w.length->(w++y).length<=25000->S[p0]?=some (.lst (wD y))->Ins S n E g x o h a w k l W P->
 Wf f [.obj k,.str o,.obj p0] S λr S'=>Kx [k,l] S S'/\hhR S S' n E g x o h a (w++y) k l W P r (w1 g o (w++y) ((w++y).length+1) h a [])
theorem Ue(hc:JE c):Pt (fnOf 3 4 (EN c)):=by
 intro S n E g x o h a w y k l W P p0 hg ho hh ha hl hp0 R;have hL:LIM=100000:=rfl;have hly:w.length+y.length<=25000:=by rw[ue5] at hl;exact hl
 rw[9,EN];rw[6,Oj (k:=l) (j:=p0)];rw[6,BG R.ik rfl];refine AS R.iw Ky ?_;refine⟨rfl,⟨_,R.il⟩,?_⟩;symm;refine⟨rfl,_,_,R.il,hp0,by rw[Bj,Bj,hL];lia,?_⟩;have R1:=R.ext y;have K1:Kx [k,l] S (S.set l (.lst (wD w++wD y))):=Kx.refl.set (by simp);have hlen:S.length<=(S.set l (.lst (wD w++wD y))).length:=by rw[ui2];exact ul4 _
 generalize S.set l (.lst (wD w++wD y))=S1 at R1 K1 hlen⊢;symm;rw[6,BG R1.ik rfl];rw[6,BG R1.ik rfl];rw[6,BG R1.ik rfl];rw[6,BG R1.ik rfl];refine(hc g o (w++y) (.obj l) h a W P S1 hg ho.o hh (by rw[ue5];lia) hl (.inr ⟨l,rfl,R1.il⟩) R1.iw R1.ip).mono λr S2 z9=>?_;clear 5 z9 hG hr;have R2:=R1.gr hG;have K2:=K1.gr hG;generalize w1 g o (w++y) ((w++y).length+1) h a []=Z at hr⊢;clear 5 Z t h' a1 b1 z
 cases z with
 |none=>
   clear 5 hr T0 K rfl hT hK hTl;symm;rw[6,Ck R2.ik R2.fl];rw[6,Ck (AN R2.ik) R2.fl];refine⟨rfl,(K2.set (by simp)).set (by simp),T0,K,rfl,Ae (Ae hT (AD R2.ik hT (by simp))) (AD R2.ik hT (by simp)),by lia,?_⟩;show Ins ((S2.set k (.ins n (bsF g x h' W P E))).set k (.ins n (bsF g x h' W K E))) n E g x o h' (onS o a1 b1) (w++y) k l W K;rw[List.set_set];exact R2.put hK R2.el
 |some z=>
   clear 5 z cc s;have hr:r=.exc "Broken" [.int cc,.str s]:=hr;subst hr;symm;exact⟨K2,rfl,R2⟩
def Ja(f:Fn):Prop:=∀(S:List Ob) (n:Str) (E:List (Str×D)) (g:List GS) (x o:Str) (h a:Nat) (w y:List Nat) (k l W P p0:Nat),(n = "Lasting"\/n = "Side")->GOk g->Two x o->h<g.length->a<=w.length->(w++y).length<=25000->S[p0]?=some (.lst (wD y))->Ins S n E g x o h a w k l W P->
 Wf f [.obj k,.obj p0] S λr S'=>Kx [k,l] S S'/\hhR S S' n E g x o h a (w++y) k l W P r (w1 g o (w++y) ((w++y).length+1) h a [])
variable{co:Fn}
theorem P8{ch:Fn}(h1:E3 co)(h2:Pt ch):Ja (fnOf 2 2 (EO co ch)):=by
 intro S n E g x o h a w y k l W P p0 hn hg ho hh ha hl hp0 R;refine Am rfl ?_;unfold EO;have key:∀m:Str,n=m->∀Q:D->T->Prop,(∀r S',Kx [k,l] S S'/\hhR S S' n E g x o h a (w++y) k l W P r (w1 g o (w++y) ((w++y).length+1) h a [])->Q r ⟨[vw (.obj k),vw (.obj p0)],S'⟩)->L2.W (AR m ch (Aa 0) (Ab (Aj co (Ab (Cv "side" (Aa 0)) Ad)) (Ab (Aa 1) Ad))) ⟨[vw (.obj k),vw (.obj p0)],S⟩ Q:=by
  intro m hm Q hQ;subst hm;symm;refine⟨k,_,rfl,R.ik,?_⟩;symm;rw[6,BG R.ik rfl];rw[6,(h1 x o ho).use];exact(h2 S n E g x o h a w y k l W P p0 hg ho hh ha hl hp0 R).mono λr S' z=>hQ r S' z
 refine aU ?_;rcases hn with hn|hn
 .exact QR (key _ hn _ λr S' z=>z)
 .exact QS (IE rfl R.ik (by rw[hn];decide)) (key _ hn _ λr S' z=>z)
def GZ(f:Fn):Prop:=∀(S:List Ob) (g:List GS) (x o:Str) (h a:Nat) (w y:List Nat) (k l W P p0:Nat),GOk g->Two x o->h<g.length->a<=w.length->(w++y).length<=25000->S[p0]?=some (.lst (wD y))->Ins S "Side" [] g x o h a w k l W P->
 Wf f [.obj k,.obj p0] S λr S'=>Kx [k,l] S S'/\hhR S S' "Side" [] g x o h a (w++y) k l W P r (w1 g o (w++y) ((w++y).length+1) h a [])
theorem Tf(hc:Ja c):GZ (fnOf 2 2 (Fw c)):=by
 intro S g x o h a w y k l W P p0 hg ho hh ha hl hp0 R;rw[9,Fw];refine⟨k,_,rfl,R.ik,?_⟩;symm;refine(hc S "Side" [] g x o h a w y k l W P p0 (.inr rfl) hg ho hh ha hl hp0 R).mono λr S' z=>?_;symm;exact z
def tlR(S S':List Ob)(g:List GS)(x o:Str)(h a:Nat)(w:List Nat)(m k l W P q tk hd:Nat)(r:D):Rs->Prop
 |(t,h',a1,b1,none)=>∃T0 P',r=.obj T0/\S'[T0]?=some (.lst t)/\S.length<=T0/\Ins S' "Lasting" (lE q (tk+m) hd) g x o h' (onS o a1 b1) w k l W P'
 |(_,_,_,_,some (j,s))=>r=.exc "Broken" [.int (j:Nat),.str s]/\Ins S' "Lasting" (lE q tk hd) g x o h a w k l W P
def E4(f:Fn):Prop:=∀(S:List Ob) (g:List GS) (x o:Str) (h a:Nat) (w y:List Nat) (k l W P p0 q tk hd:Nat),GOk g->Two x o->h<g.length->a<=w.length->(w++y).length<=25000->S[p0]?=some (.lst (wD y))->p0≠l->Ins S "Lasting" (lE q tk hd) g x o h a w k l W P->
 Wf f [.obj k,.obj p0] S λr S'=>Kx [k,l] S S'/\tlR S S' g x o h a (w++y) y.length k l W P q tk hd r (w1 g o (w++y) ((w++y).length+1) h a [])
theorem Te(hc:Ja c):E4 (fnOf 2 3 (Fv c)):=by
 intro S g x o h a w y k l W P p0 q tk hd hg ho hh ha hl hp0 hpl R;rw[9,Fv];refine⟨k,_,rfl,R.ik,?_⟩;symm;refine(hc S "Lasting" _ g x o h a w y k l W P p0 (.inl rfl) hg ho hh ha hl hp0 R).mono λr S' z=>?_;clear 5 z K hr;generalize w1 g o (w++y) ((w++y).length+1) h a []=Z at hr⊢;clear 5 Z t h' a1 b1 z
 cases z with
 |none=>
   clear 5 hr T0 P' rfl hT hTl R';have hp1:=K.get (by simp only[uj7,uh1,lG,lL];exact⟨AD hp0 R.ik (by simp),hpl⟩) hp0;symm;rw[6,BG R'.ik rfl];rw[6,FX hp1];rw[6,Ck R'.ik R'.fl];refine⟨rfl,K.set (by simp),T0,P',rfl,Ae hT (AD R'.ik hT (by simp)),hTl,?_⟩;rw[Bj];exact R'.put (E':=lE q (tk+y.length) hd) R'.ip (by show 3<=100;decide)
 |some z=>
   clear 5 z j s;clear 5 hr hr R';subst hr;symm;exact⟨K,rfl,R'⟩
local macro_rules | `(tactic| walk_at"y1")=>`(tactic| first
 |walk_at"x1" |clear 31 Hi QJ Jt Oi Ld QP QO|clear 32 QK)
def Nop(g:List GS)(q:Nat)(x nm:Str)(v:D):Prop:=match AW g q with
 |.fin=>True
 |.st side ws=>x≠side\/match ws.findIdx? (λw=>w.1==nm) with
   |none=>True
   |some p=>∀w,ws[p]?=some w->Ap w.2.1 v=false
variable{E:List (Str×D)}
theorem Ins.setL{n:Str}{x o:Str}{k l W P:Nat}{b:Ob}{d:List D}(R:Ins S n E g x o h a w k l W P)(e:S[j]?=some (.lst d))(n1:j≠l):Ins (S.set j b) n E g x o h a w k l W P:=
 ⟨Ae R.ik (AD e R.ik (by simp)),Ae R.iw (AD e R.iw (by simp)),Ae R.ip (AD e R.ip (by simp)),Ae R.il n1,R.el⟩
theorem Kx.sub{F':List Nat}(a:Kx F S S')(h:∀i∈F,i∈F'):Kx F' S S':=⟨a.1,λi hi n=>a.2 i hi λz=>n (h i z)⟩
theorem Zs(ht:∀x∈g,Tin x){q p:Nat}{v:D}(hm:MvOk g q p v):(mbQ g q p v).length<=41:=by
 have h1:=ht _ (NI hm.lt);clear 5(KZ hm.pl)side ws e hpl ew;have h2:wdAt g q p∈(AW g q).ws:=by rw[e];exact ud3 ew
 have h3:=(h1 _ h2).few v hm.fit;rw[ug2];exact Nat.succ_le_succ h3
theorem Za{x:GS}(h:P (.str x.side) t):W (ixD x.d (.int 0)) t P:=by
 cases x with
 |fin=>rw[GS.d];exact Gz Hl h
 |st s w=>rw[GS.d];exact Gz Hl h
def nmN(r:Int)(j:Nat):Str:=Txt.mul ⟨#[97+j]⟩ r
inductive GRn(N:Nat)(S:List Ob):List D->List GS->Prop
 |nil:GRn N S [] []
 |fin {ds:List D}{g:List GS}:GRn N S ds g->GRn N S (.tup [.str (Str.ofString "end")]::ds) (.fin::g)
 |st {j:Nat}{side:Str}{ws:List (Str×Sh×Int)}{ds:List D}{g:List GS}:S[j]?=some (.lst (ws.map wdD))->N<=j->GRn N S ds g->GRn N S (.tup [.str side,.obj j]::ds) (.st side ws::g)
theorem GRn.gr{N:Nat}{S S':List Ob}(G:Gr S S'):∀{ds:List D}{g:List GS},GRn N S ds g->GRn N S' ds g
 |_,_,.nil=>.nil
 |_,_,.fin h=>.fin (GRn.gr G h)
 |_,_,.st e l h=>.st (G.get e) l (GRn.gr G h)
theorem GRn.length{N:Nat}{S:List Ob}:∀{ds:List D}{g:List GS},GRn N S ds g->ds.length=g.length
 |_,_,.nil=>rfl
 |_,_,.fin h=>by rw[ug2,ug2,GRn.length h]
 |_,_,.st e l h=>by rw[ug2,ug2,GRn.length h]
theorem RQ{side:Str}(hs:side=sL\/side=sR)(d:D)(S:List Ob):PureS S (fnOf 1 1 Cg) [.tup [.str side,d]] (.bl false):=by
 rw[9,Cg];refine⟨?_,rfl⟩;rcases hs with rfl|rfl<;>exact lD D.bl (by decide)
theorem Hx{gd:Gd}{S:List Ob}{n:Int}{N:Nat}(hg:Gon gd S):∀{ds:List D}{xs:List GS} (z:Option Sl),GRn N S ds xs->(∀x∈xs,GSOk n x)->L2.W (compG gd (Au 0) EU (fIf (Ai (Aj (fnOf 1 1 Cg) (Ab (Aa 0) Ad))) (Aa 0) (AE (Ab (Ac (Aa 0) (ia 0) ixD) (Ab (AL (fBF (Ab (Ac (Aa 0) (ia 1) ixD) Ad) Ds)) Ad)))) ds) ⟨[z],S⟩ λrs t'=>rs=xs.map GS.d/\t'.S=S
 |_,_,z,.nil,_=>GO hg ⟨rfl,rfl⟩
 |_,_,z,.fin q,h=>by
   refine E5 hg ?_;rw[6,Ke];rw[lJ rfl];symm;refine(Iu n .fin .fin S).mono ?_;rintro r S' ⟨rfl,rfl⟩;rw[GS.isFin];symm;exact(Hx hg _ q λy m=>h y (ud1 _ m)).mono λds t' ⟨e1,e2⟩=>⟨by rw[e1];rfl,e2⟩
 |_,_,z,@GRn.st _ _ j side ws ds g e l q,h=>by
   have hs:side=sL\/side=sR:=by cases h _ ue1 with|st h1 _ _ _ _=>exact h1
   refine E5 hg ?_;rw[6,Ke];rw[lJ rfl];symm;rw[6,(RQ hs (.obj j) S).use];rw[6,Lc e];exact(Hx hg _ q λy m=>h y (ud1 _ m)).mono λds t' ⟨e1,e2⟩=>⟨by rw[e1];rfl,e2⟩
def Ym(f:Fn):Prop:=∀(g:List GS) (S:List Ob) (G N:Nat) (ds:List D),GOk g->S[G]?=some (.lst ds)->GRn N S ds g->PureS S f [.obj G] (.lst (g.map GS.d))
theorem RJ:Ym (fnOf 1 1 (Bl (fnOf 1 1 Cg))):=by
 intro g S G N ds hg hG hgr;have hL:LIM=100000:=rfl;rw[9,Bl];refine Oh ?_;rw[6,QL];refine QM hG ?_;refine(Hx (JS hG) none hgr hg.all).mono λxs t' z9=>?_;clear 5 z9 e1 e2;subst e1;have:=hg.le;refine DF (by rw[uh7,hL];lia) ?_;symm;exact⟨rfl,e2⟩
theorem Zb{n:Str}{k:Nat}{o:Str}{d:D}(hc:PureS S c [d] (.lst (g.map GS.d)))(hk:S[k]?=some (.ins n [])):Wf (fnOf 3 4 (Da c)) [.obj k,d,.tup [.str o]] S λr S'=>r=.non/\∃W P l,HeaG n S S' k W P l o (heF g W P):=by
 have hkl:=AO hk;rw[9,Da];rw[6,hc.use];refine Ck hk (by show 0<1000;decide) ?_;have k1:Kp k S (S.set k (.ins n [("grammar",.lst (g.map GS.d))])):=Kp.refl.setk;have g1:(S.set k (.ins n [("grammar",.lst (g.map GS.d))]))[k]?=some (.ins n [("grammar",.lst (g.map GS.d))]):=AN hk;show DM _ _ Out.next ⟨_,S.set k (.ins n [("grammar",.lst (g.map GS.d))])⟩;generalize S.set k (.ins n [("grammar",.lst (g.map GS.d))])=S1 at k1 g1⊢;symm;refine Ck g1 (by show 1<1000;decide) ?_;have k2:Kp k S (S1.set k (.ins n [("grammar",.lst (g.map GS.d)),("standing",.int (0:Nat))])):=k1.setk;have g2:(S1.set k (.ins n [("grammar",.lst (g.map GS.d)),("standing",.int (0:Nat))]))[k]?=some (.ins n [("grammar",.lst (g.map GS.d)),("standing",.int (0:Nat))]):=AN g1;show DM _ _ Out.next ⟨_,S1.set k (.ins n [("grammar",.lst (g.map GS.d)),("standing",.int (0:Nat))])⟩;generalize S1.set k (.ins n [("grammar",.lst (g.map GS.d)),("standing",.int (0:Nat))])=S2 at k2 g2⊢;symm;refine Ck (AM g2) (by show 2<1000;decide) ?_;obtain⟨W,hW⟩:∃W,W=S2.length:=⟨_,rfl⟩;have w3:((S2++[Ob.dct []]).set k (.ins n [("grammar",.lst (g.map GS.d)),("standing",.int (0:Nat)),("wires",.obj W)]))[W]?=some (.dct []):=by rw[hW];exact Ae AU (uk8 (AO g2))
 have k3:Kp k S ((S2++[Ob.dct []]).set k (.ins n [("grammar",.lst (g.map GS.d)),("standing",.int (0:Nat)),("wires",.obj W)])):=k2.app.setk;have g3:((S2++[Ob.dct []]).set k (.ins n [("grammar",.lst (g.map GS.d)),("standing",.int (0:Nat)),("wires",.obj W)]))[k]?=some (.ins n [("grammar",.lst (g.map GS.d)),("standing",.int (0:Nat)),("wires",.obj W)]):=AN (AM g2);have hSW:S.length<=W:=by rw[hW];exact k2.1
 show DM _ _ Out.next ⟨_,(S2++[Ob.dct []]).set k (.ins n [("grammar",.lst (g.map GS.d)),("standing",.int (0:Nat)),("wires",.obj S2.length)])⟩;rw[<-hW];generalize (S2++[Ob.dct []]).set k (.ins n [("grammar",.lst (g.map GS.d)),("standing",.int (0:Nat)),("wires",.obj W)])=S3 at w3 k3 g3⊢;symm;refine Ck (AM g3) (by show 3<1000;decide) ?_;obtain⟨P,hP⟩:∃P,P=S3.length:=⟨_,rfl⟩;have w4:((S3++[Ob.dct []]).set k (.ins n (heF g W P)))[W]?=some (.dct []):=Ae (AM w3) (AD g3 w3 (by simp));have p4:((S3++[Ob.dct []]).set k (.ins n (heF g W P)))[P]?=some (.dct []):=by rw[hP];exact Ae AU (uk8 (AO g3))
 have k4:Kp k S ((S3++[Ob.dct []]).set k (.ins n (heF g W P))):=k3.app.setk;have g4:((S3++[Ob.dct []]).set k (.ins n (heF g W P)))[k]?=some (.ins n (heF g W P)):=AN (AM g3);have hWP:W<P:=by rw[hP];exact AO w3
 show DM _ _ Out.next ⟨_,(S3++[Ob.dct []]).set k (.ins n (heF g W S3.length))⟩;rw[<-hP];generalize (S3++[Ob.dct []]).set k (.ins n (heF g W P))=S4 at w4 p4 k4 g4⊢;symm;have hWk:W≠k:=λe=>by subst e;lia
 have hPk:P≠k:=λe=>by subst e;lia
 rw[6,W_forL_cons.mpr];rw[6,BG (AM g4) rfl];refine Em (AM w4) (by show 0<100000;decide) ?_;obtain⟨l,hl⟩:∃l,l=S4.length:=⟨_,rfl⟩;have hlk:k<l:=by rw[hl];exact AO g4
 have hlW:W<l:=by rw[hl];exact AO w4
 have hlP:P<l:=by rw[hl];exact AO p4
 have k5:Kp k S ((S4++[Ob.lst []]).set W (.dct (d1 o (.obj l)))):=k4.app.set hSW;have g5:((S4++[Ob.lst []]).set W (.dct (d1 o (.obj l))))[k]?=some (.ins n (heF g W P)):=Ae (AM g4) hWk;have w5:((S4++[Ob.lst []]).set W (.dct (d1 o (.obj l))))[W]?=some (.dct (d1 o (.obj l))):=AN (AM w4);have p5:((S4++[Ob.lst []]).set W (.dct (d1 o (.obj l))))[P]?=some (.dct []):=Ae (AM p4) ∅;have l5:((S4++[Ob.lst []]).set W (.dct (d1 o (.obj l))))[l]?=some (.lst []):=by rw[hl];exact Ae AU ∅
 show DM _ _ Out.next ⟨_,(S4++[Ob.lst []]).set W (.dct (d1 o (.obj S4.length)))⟩;rw[<-hl];generalize (S4++[Ob.lst []]).set W (.dct (d1 o (.obj l)))=S5 at k5 g5 w5 p5 l5⊢;symm;rw[6,BG g5 rfl];refine Em p5 (by show 0<100000;decide) ?_;show L2.W (Dp _ _ []) ⟨_,S5.set P (.dct (d1 o (.int (0:Nat))))⟩ _;refine W_forL_nil.mpr ?_;exact⟨rfl,W,P,l,k5.set ∅,Ae g5 hPk,Ae w5 ∅,AN p5,Ae l5 ∅,hSW,by lia,by lia⟩
theorem SW{n:Str}{k:Nat}{x o:Str}{d:D}(h1:E3 co)(ho:Two x o)(hc:PureS S c [d] (.lst (g.map GS.d)))(hk:S[k]?=some (.ins n [])):Wf (fnOf 3 3 (EL co (fnOf 3 4 (Da c)))) [.obj k,d,.str x] S λr S'=>r=.non/\∃W P l,HeaG n S S' k W P l o (bsF g x 0 W P []):=by
 rw[9,EL];rw[6,(h1 x o ho).use];refine(Zb (o:=o) hc hk).mono λr S' z9=>?_;clear 5 z9 e W P l R;subst e;symm;refine Ck R.ik (by show 4<1000;decide) ?_;symm;exact⟨rfl,W,P,l,R.put⟩
abbrev InS(S:List Ob)(g:List GS)(x o:Str)(h a:Nat)(w:List Nat)(k l W P:Nat):Prop:=Ins S "Side" [] g x o h a w k l W P
theorem ax{x o:Str}{k l W P:Nat}(R:InS S g x o h a w k l W P):PureO S (fnOf 1 1 Be) [.obj k] (.int (h:Nat)):=by
 rw[9,Be];refine BG R.ik rfl ?_;exact⟨rfl,rfl⟩
def Lh(f:Fn):Prop:=∀(g:List GS) (q:Nat) (x nm:Str) (v:D) (S:List Ob),GOk g->q<g.length->(x=sL\/x=sR)->okD v=true->Nop g q x nm v->PureO S f [(AW g q).d,.tup [.str x,.str nm,v]] .non
theorem Ql{cf:Fn}(hf:F4 cf 3)(hp:Hk cp):Lh (fnOf 2 3 (Eg cf cp)):=by
 intro g q x nm d S hg hq hx htm hN;have hgs:=En hg hq;refine Am rfl ?_;unfold Eg;unfold Nop at hN
 cases e:AW g q with
 |fin=>
   rw[GS.d];right;refine Fe (by rcases hx with rfl|rfl<;>decide) ?_;right;exact⟨rfl,rfl⟩
 |st side ws=>
   rw[e] at hgs hN;dsimp only at hN;show L2.W _ ⟨[vw (.tup [.str side,.lst (ws.map wdD)]),vw (.tup [.str x,.str nm,d]),none],S⟩ _
   by_cases hxs:x=side
   .subst hxs;have hN:=hN.resolve_left (λz=>z rfl);right;rw[7,DV (by simp)];have hpn:=hp g.length (.st x ws) nm hgs;rw[show(GS.st x ws).ws=ws from rfl] at hpn;refine hpn.use ?_
    cases ei:ws.findIdx? (λw=>w.1==nm) with
    |none=>
      right;exact⟨rfl,rfl⟩
    |some p=>
      rw[ei] at hN;have hpl:p<ws.length:=by
       rw[ua0] at ei;exact ei.1
      have ew:ws[p]?=some ws[p]:=ub3 hpl;have hwo:WOk g.length ws[p]:=by cases hgs with|st _ _ _ _ h5=>exact h5 _ (uh3 hpl)
      show DM _ _ .next ⟨[vw (.tup [.str x,.lst (ws.map wdD)]),vw (.tup [.str x,.str nm,d]),vw (.int p)],S⟩;right;refine BJ (Hj ew) ?_;unfold wdD;right;refine(hf _ hwo.dep _ htm).use ?_;rw[hN _ ew];right;exact⟨rfl,rfl⟩
   .right;rw[7,Fe (by simp[hxs])];exact⟨rfl,rfl⟩
def Pw(f:Fn):Prop:=∀(g:List GS) (q p:Nat) (v:D),GOk g->MvOk g q p v->(Bn (wdAt g q p).2.1 v).length+1<=LIM->Pure1 f [(AW g q).d,.int p,v] (.lst (mbQ g q p v))
theorem Ux(hc:I9 c 3):Pw (fnOf 3 3 (Ef c)):=by
 intro g q p v hg hm hl S;clear 5(KZ hm.pl)side ws e hpl ew;have hw:=Le hg hm.lt hm.pl;have hfit:=hm.fit;refine Am rfl ?_;unfold Ef mbQ;rw[e];generalize wdAt g q p=w at ew hw hfit hl⊢;rw[GS.d];refine HR ?_;rw[6,BR];rw[6,Gy];refine BJ (Hj ew) ?_;unfold wdD;symm;refine(hc w.2.1 hw.dep hw.ok v hfit ∅).use ?_;refine⟨_,rfl,?_⟩;symm;refine DF (by simp only[ug2,ui5];lia) ?_;exact⟨rfl,rfl⟩
def F7(f:Fn):Prop:=∀(S:List Ob) (n:Str) (E:List (Str×D)) (g:List GS) (x o:Str) (h a:Nat) (w y:List Nat) (k l W P p:Nat) (v:D),GOk g->MvOk g h p v->(AW g h).side=x->mbQ g h p v=wD y->y.length<=25000->Ins S n E g x o h a w k l W P->
 Wf f [.obj k,.str (wdAt g h p).1,v] S λr S'=>∃j,r=.obj j/\S'[j]?=some (.lst (wD y))/\S.length<=j/\Kx [k] S S'/\Ins S' n E g x o (Ct g h p) a w k l W P
theorem SX(hm:Pw cm)(hn:M1 cn)(hp:JD cp):F7 (fnOf 3 5 (Db cm cn cp)):=by
 intro S n E g x o h a w y k l W P p v hg hv hx hy hl R;have hL:LIM=100000:=rfl;refine Am rfl ?_;unfold Db;have hpl:=hp g h p v hg hv;unfold Qg at hpl;rw[hx] at hpl;have hyl:(Bn (wdAt g h p).2.1 v).length+1=y.length:=by
  have:=lD List.length hy;rw[ug2,Bj] at this;exact this
 symm;rw[6,BG R.ik rfl];rw[6,BG R.ik rfl];rw[6,BJ (Gb hv.lt)];rw[6,BG R.ik rfl];rw[6,hpl.use];rw[6,BG R.ik rfl];rw[6,BG R.ik rfl];rw[6,(hn g h p hg hv.lt hv.pl).use];refine Ck R.ik R.fl ?_;have R1:=R.put (h':=Ct g h p) R.ip R.el;have K1:Kx [k] S (S.set k (.ins n (bsF g x (Ct g h p) W P E))):=Kx.refl.set (by simp);show DM _ _ Out.next ⟨_,S.set k (.ins n (bsF g x (Ct g h p) W P E))⟩;generalize S.set k (.ins n (bsF g x (Ct g h p) W P E))=S1 at R1 K1⊢;symm;rw[6,Gy];refine(hm g h p v hg hv (by rw[hL];lia)).use ?_;refine⟨_,rfl,?_⟩;rw[hy];symm;exact⟨rfl,S1.length,rfl,AU,K1.1,K1.gr Gr.app,R1.gr Gr.app⟩
def bg(f:Fn):Prop:=∀(S:List Ob) (g:List GS) (x o:Str) (h a:Nat) (w y:List Nat) (k l W P p:Nat) (v:D),GOk g->MvOk g h p v->(AW g h).side=x->mbQ g h p v=wD y->y.length<=25000->Ins S "Side" [] g x o h a w k l W P->
 Wf f [.obj k,.str (wdAt g h p).1,v] S λr S'=>∃j,r=.obj j/\S'[j]?=some (.lst (wD y))/\S.length<=j/\Kx [k] S S'/\Ins S' "Side" [] g x o (Ct g h p) a w k l W P
theorem U1(hc:F7 c):bg (fnOf 3 3 (BV c)):=by
 intro S g x o h a w y k l W P p v hg hv hx hy hl R;rw[9,BV];refine⟨k,_,rfl,R.ik,?_⟩;symm;refine(hc S "Side" [] g x o h a w y k l W P p v hg hv hx hy hl R).mono λr S' z=>?_;clear 5 z j rfl z;symm;exact⟨j,rfl,z⟩
def bf(f:Fn):Prop:=∀(S:List Ob) (g:List GS) (x o:Str) (h a:Nat) (w y sd:List Nat) (k l W P p q tk hd:Nat) (v:D),GOk g->MvOk g h p v->(AW g h).side=x->mbQ g h p v=wD y->sd.length+y.length<=25000->S[q]?=some (.lst (wD sd))->l≠q->Ins S "Lasting" (lE q tk hd) g x o h a w k l W P->
 Wf f [.obj k,.str (wdAt g h p).1,v] S λr S'=>∃j,r=.obj j/\S'[j]?=some (.lst (wD y))/\S.length<=j/\Kx [k,q] S S'/\S'[q]?=some (.lst (wD (sd++y)))/\Ins S' "Lasting" (lE q tk hd) g x o (Ct g h p) a w k l W P
theorem U0(hc:F7 c):bf (fnOf 3 4 (Bz c)):=by
 intro S g x o h a w y sd k l W P p q tk hd v hg hv hx hy hl hq hlq R;have hL:LIM=100000:=rfl;rw[9,Bz];refine⟨k,_,rfl,R.ik,?_⟩;symm;refine(hc S "Lasting" _ g x o h a w y k l W P p v hg hv hx hy ∅ R).mono λr S' z=>?_;clear 5 z j rfl hj hjl K R';have hq':=K.get (by simp only[ue7];exact AD hq R.ik (by simp)) hq;have hql:=AO hq;symm;rw[6,Oj (k:=q) (j:=j)];refine BG R'.ik rfl ?_;refine⟨rfl,⟨_,hq'⟩,?_⟩;symm;refine⟨rfl,_,_,hq',hj,by rw[Bj,Bj,hL];lia,?_⟩;symm;have K2:Kx [k,q] S (S'.set q (.lst (wD sd++wD y))):=Kx.set ⟨K.1,λi hi n=>K.2 i hi (λz=>n (by rw[ue7] at z;rw[z];exact ue1))⟩ (by simp);refine⟨rfl,j,rfl,Ae hj ∅,hjl,K2,by rw[Lb];exact AN hq',?_⟩;exact⟨Ae R'.ik (AD hq' R'.ik (by simp)),Ae R'.iw (AD hq' R'.iw (by simp)),Ae R'.ip (AD hq' R'.ip (by simp)),Ae R'.il (Ne.symm hlq),R'.el⟩
def Fl(f:Fn):Prop:=∀(S:List Ob) (n:Str) (E:List (Str×D)) (g:List GS) (x o:Str) (h a:Nat) (w:List Nat) (k l W P:Nat) (nm:Str) (v:D),GOk g->h<g.length->Two x o->okD v=true->Nop g h x nm v->Ins S n E g x o h a w k l W P->PureO S f [.obj k,.str nm,v] (.exc "NoTalk" [.int 0])
theorem QC(hp:Lh cp):Fl (fnOf 3 5 (Db cm cn cp)):=by
 intro S n E g x o h a w k l W P nm v hg hh ho htm hN R;rw[9,Db];rw[6,BG R.ik rfl];rw[6,BG R.ik rfl];rw[6,BJ (Gb hh)];rw[6,BG R.ik rfl];rw[6,(hp g h x nm v S hg hh ho.x htm hN).use];exact⟨rfl,rfl⟩
theorem SS(hc:Fl c){S:List Ob}{E:List (Str×D)}{g:List GS}{x o:Str}{h a:Nat}{w:List Nat}{k l W P:Nat}{nm:Str}{v:D}(hg:GOk g)(hh:h<g.length)(ho:Two x o)(htm:okD v=true)(hN:Nop g h x nm v)(R:Ins S "Side" E g x o h a w k l W P):PureO S (fnOf 3 3 (BV c)) [.obj k,.str nm,v] (.exc "NoTalk" [.int 0]):=by
 rw[9,BV];refine⟨k,_,rfl,R.ik,?_⟩;symm;rw[6,(hc S "Side" E g x o h a w k l W P nm v hg hh ho htm hN R).use];exact⟨rfl,rfl⟩
theorem SR(hc:Fl c){S:List Ob}{E:List (Str×D)}{g:List GS}{x o:Str}{h a:Nat}{w:List Nat}{k l W P:Nat}{nm:Str}{v:D}(hg:GOk g)(hh:h<g.length)(ho:Two x o)(htm:okD v=true)(hN:Nop g h x nm v)(R:Ins S "Lasting" E g x o h a w k l W P):PureO S (fnOf 3 4 (Bz c)) [.obj k,.str nm,v] (.exc "NoTalk" [.int 0]):=by
 rw[9,Bz];refine⟨k,_,rfl,R.ik,?_⟩;symm;rw[6,(hc S "Lasting" E g x o h a w k l W P nm v hg hh ho htm hN R).use];exact⟨rfl,rfl⟩
variable{cL cS:Fn}
theorem KN{k:Nat}{n:Str}{fs:List (Str×D)}{nm:Str}{P:D->List Ob->Prop}(hk:S[k]?=some (.ins n fs))(hn:(n = "Lasting"/\Wf cL [.obj k,.str nm,v] S λr S'=>(∃j,r=.obj j/\P (.tup [.obj j,.non]) S')\/(r=.exc "NoTalk" [.int 0]/\P (.tup [.non,.int 0]) S'))\/(n = "Side"/\Wf cS [.obj k,.str nm,v] S λr S'=>(∃j,r=.obj j/\P (.tup [.obj j,.non]) S')\/(r=.exc "NoTalk" [.int 0]/\P (.tup [.non,.int 0]) S'))) :
 Wf (fnOf 3 6 (Cs cL cS)) [.obj k,.str nm,v] S P:=by
 rw[9,Cs];rcases hn with⟨hn,h⟩|⟨hn,h⟩
 .rw[6,QR];refine⟨k,_,rfl,by rw[<-hn];exact hk,?_⟩;symm;refine h.mono λr S' z=>?_;rcases z with⟨j,rfl,p⟩|⟨rfl,p⟩
  .symm;exact p
  .symm;exact p
 .refine QS (IE rfl hk (by rw[hn];decide)) ?_;symm;refine⟨k,_,rfl,by rw[<-hn];exact hk,?_⟩;symm;refine h.mono λr S' z=>?_;rcases z with⟨j,rfl,p⟩|⟨rfl,p⟩
  .symm;exact p
  .symm;exact p
abbrev bD7(j:Nat)(s:Str):D:=.tup [.non,.lst [.tup [.int (j:Nat),.str s]]]
theorem O1{k p0:Nat}{n:Str}{fs:List (Str×D)}{P:D->List Ob->Prop}(hk:S[k]?=some (.ins n fs))(hn:(n = "Lasting"/\Wf cL [.obj k,.obj p0] S λr S'=>(∃j,r=.obj j/\P (.tup [.obj j,.non]) S')\/(∃(j:Nat) (s:Str),r=.exc "Broken" [.int (j:Nat),.str s]/\P (bD7 j s) S'))\/(n = "Side"/\Wf cS [.obj k,.obj p0] S λr S'=>(∃j,r=.obj j/\P (.tup [.obj j,.non]) S')\/(∃(j:Nat) (s:Str),r=.exc "Broken" [.int (j:Nat),.str s]/\P (bD7 j s) S'))) :
 Wf (fnOf 2 5 (Bm cL cS)) [.obj k,.obj p0] S P:=by
 rw[9,Bm];have cmp:∀(j:Nat) (s:Str) (S':List Ob) (fr:List (Option Sl)) (Q:List D->T->Prop),(∀t',t'.S=S'->Q [.tup [.int (j:Nat),.str s]] t')->L2.W (B8 (Au 0) (Ai (bnd (Aa 0) (Iv "Broken"))) (AE (Ab (bnd (Aa 0) (FH "at")) (Ab (bnd (Aa 0) (FH "side")) Ad))) [.exc "Broken" [.int (j:Nat),.str s]]) ⟨none::fr,S'⟩ Q:=by
  intro j s S' fr Q hQ;rw[E6];symm;rw[lJ (by decide)];symm;refine W_compL_nil.mpr ?_;exact hQ _ rfl
 rcases hn with⟨hn,h⟩|⟨hn,h⟩
 .rw[6,QR];refine⟨k,_,rfl,by rw[<-hn];exact hk,?_⟩;symm;refine h.mono λr S' z=>?_;rcases z with⟨j,rfl,p⟩|⟨j,s,rfl,p⟩
  .symm;exact p
  .symm;refine cmp j s S' _ _ λt' e=>?_;symm;show P _ t'.S;rw[e];exact p
 .refine QS (IE rfl hk (by rw[hn];decide)) ?_;symm;refine⟨k,_,rfl,by rw[<-hn];exact hk,?_⟩;symm;refine h.mono λr S' z=>?_;rcases z with⟨j,rfl,p⟩|⟨j,s,rfl,p⟩
  .symm;exact p
  .symm;refine cmp j s S' _ _ λt' e=>?_;symm;show P _ t'.S;rw[e];exact p
def Yq(g:List GS)(h:Nat)(x nm:Str)(v:D):Prop:=okD v=true/\((∃p,MvOk g h p v/\(AW g h).side=x/\nm=(wdAt g h p).1)\/Nop g h x nm v)
theorem Jo{x nm:Str}(hh:h<g.length)(hv:okD v=true):Yq g h x nm v:=by
 refine⟨hv,?_⟩;unfold Nop
 cases e:AW g h with
 |fin=>exact .inr trivial
 |st side ws=>
   dsimp only
   by_cases q:x=side
   .cases e2:ws.findIdx? (λw=>w.1==nm) with
    |none=>exact .inr (.inr trivial)
    |some p=>
      obtain⟨hp,hn,_⟩:=ua0.mp e2;have ew:ws[p]?=some ws[p]:=ub3 hp;have hwd:wdAt g h p=ws[p]:=by unfold wdAt;rw[e];show ws.getD p _=_;rw[ua8,ew];rfl
      cases f:Ap ws[p].2.1 v with
      |true=>exact .inl ⟨p,⟨hh,by rw[e];exact hp,by rw[hwd];exact f⟩,q.symm,by rw[hwd];exact(eq_of_beq hn).symm⟩
      |false=>exact .inr (.inr λw hw=>by rw[ew] at hw;cases hw;exact f)
   .exact .inr (.inl q)
variable{cv:Fn}
theorem Us(hv:JF cv 3){g:List GS}(hg:GOk g)(ht:∀s∈g,Tin s){h:Nat}(hh:h<g.length){x:Str}(hx:x=sL\/x=sR){cell:Int}{S:List Ob} :
 Wf (fnOf 4 9 (CJ cv)) [.lst (g.map GS.d),.int (h:Nat),.str x,.int cell] S λr S'=>S'=S/\∃nm v,r=.tup [.str nm,v]/\Yq g h x nm v:=by
 have hL:LIM=100000:=rfl;refine Am rfl ?_;unfold CJ;have hgs:=En hg hh;have hix:=Gb hh;symm;rw[6,BJ hix];rw[6,Za];refine CZ (λz=>?_) λz=>?_
 .symm;exact⟨rfl,_,_,rfl,Jo hh rfl⟩
 .have hsd:(AW g h).side=x:=by simpa using z
  obtain⟨ws,e⟩:∃ws,AW g h=.st x ws:=by
   cases e:AW g h with
   |fin=>rw[e] at hsd;rcases hx with q|q<;>(rw[q] at hsd;exact absurd hsd (by decide +kernel))
   |st s ws=>rw[e] at hsd;exact⟨ws,by rw[<-show s=x from hsd]⟩
  rw[e] at hgs hix;rw[GS.d] at hix;have hw0:0<ws.length/\ws.length<=9:=by cases hgs with|st _ h1 h2 _ _=>exact⟨h1,h2⟩
  symm;rw[6,BJ hix];rw[uh7];rw[6,GX ∅];clear 5(ub7 (ui8 (cell/4) (b:=(ws.length:Int)) ∅))p hp;have h2:=ue9 (cell/4) (b:=(ws.length:Int)) ∅;have hpl:p<ws.length:=by lia
  have ew:ws[p]?=some ws[p]:=ub3 hpl;have hdr:Dr 2 ws[p].2.1:=ht _ (NI hh) _ (by rw[e];exact uh3 hpl);rw[hp];refine BJ (Hj ew) ?_;unfold wdD;symm;refine(hv _ hdr.dep hdr.ok hdr.nar hdr.tin _ S).mono ?_;rintro r0 S0 ⟨e0,v,l,rfl,hf⟩;have e0:=e0.symm;subst e0;have hok:okD v=true:=Fr 3 _ hdr.dep hdr.ok v hf;symm;refine CZ (λz=>?_) λz=>?_
  .symm;exact⟨rfl,_,_,rfl,Jo hh hok⟩
  .symm;refine CZ (λz=>?_) λz=>?_
   .symm;exact⟨rfl,_,_,rfl,Jo hh (by decide +kernel)⟩
   .symm;exact⟨rfl,_,_,rfl,Jo hh hok⟩
structure B7(S:List Ob)(g:List GS)(x o:Str)(h a:Nat)(w sd:List Nat)(tk hd k l W P q kb lb Wb Pb:Nat):Prop where
 L:Ins S "Lasting" (lE q tk hd) g x o h a w k l W P
 B:Ins S "Side" [] g x o h a w kb lb Wb Pb
 iq:S[q]?=some (.lst (wD sd))
 lq:l≠q
 bq:lb≠q
 bl:lb≠l
variable{tk hd:Nat}
theorem B7.kk{x o:Str}{sd:List Nat}{k l W P kb lb Wb Pb:Nat}(R:B7 S g x o h a w sd tk hd k l W P q kb lb Wb Pb):kb≠k:=λe=>by
 have h1:=R.L.ik;have h2:=R.B.ik;rw[e,h1] at h2;injection h2 with h2
 injection h2 with h2 _
 exact absurd h2 (by decide)
theorem Bi{i:Nat}{n:Str}{fs:List (Str×D)}(h1:S[i]?=some (.ins n fs))(h2:S[j]?=some (.lst ds)):i≠j:=λe=>by rw[e,h2] at h1;cases h1
theorem CA{i:Nat}{n:List (Key×D)}(h1:S[i]?=some (.dct n))(h2:S[j]?=some (.lst ds)):i≠j:=λe=>by rw[e,h2] at h1;cases h1
theorem EM{i:Nat}{n:List (Key×D)}{fs:List (Str×D)}(h1:S[i]?=some (.dct n))(h2:S[j]?=some (.ins m fs)):i≠j:=λe=>by rw[e,h2] at h1;cases h1
theorem YJ{y:List D}(h:Pu y):eqN EQD (.tup [.lst y,.non]) (.tup [.lst y,.non])=some true:=by
 have h1:eqN (38+1) (.lst y) (.lst y)=some true:=OL λx hx=>by
  clear 5(h x hx)i rfl;exact OK
 show eqN (39+1) _ _=_;exact Lw (by simp only[ud4];exact⟨h1,rfl,λ_ z=>nomatch z⟩)
theorem Ez{y:List Nat}:Pu (wD y):=λx hx=>by
 obtain⟨i,_,rfl⟩:=ul2.mp hx;exact⟨_,rfl⟩
theorem Zp(hc:F7 c)(hcn:Fl c)(hv:JF cv 3){S:List Ob}{g:List GS}{x o:Str}{h a:Nat}{w sd z:List Nat}{tk hd k l W P q kb lb Wb Pb j:Nat}{cell:Int}(hg:GOk g)(ht:∀s∈g,Tin s)(ho:Two x o)(hh:h<g.length)(hs:sd.length<=20000)(hz:z.length<=20000)
 (R:B7 S g x o h a w sd tk hd k l W P q kb lb Wb Pb) (hj:S[j]?=some (.lst (wD z))) (n1:j≠l) (n2:j≠lb) (n3:j≠q) :
 Wf (fnOf 5 11 (CP (fnOf 3 6 (Cs (fnOf 3 4 (Bz c)) (fnOf 3 3 (BV c)))) (fnOf 1 1 Be) (fnOf 4 9 (CJ cv)))) [.tup [.obj k,.obj kb],.lst (g.map GS.d),.str x,.int cell,.obj j] S λr S'=>r=.bl true/\∃(h':Nat) (y:List Nat),h'<g.length/\y.length<=41/\B7 S' g x o h' a w (sd++y) tk hd k l W P q kb lb Wb Pb/\S'[j]?=some (.lst (wD (z++y)))/\Kx [k,kb,q,j] S S':=by
 have hL:LIM=100000:=rfl;rw[9,CP];refine⟨kb,_,rfl,R.B.ik,W_ret.mpr ?_⟩;rw[6,(ax R.B).use];refine(Us hv hg ht hh ho.x).mono ?_;rintro r S1 ⟨rfl,nm,v,rfl,hok,hsy⟩;symm;rcases hsy with⟨p,hm,hsd,rfl⟩|hN
 .obtain⟨y,hy,_⟩:=RN (MF hg x h [(p,v)] ⟨hm,trivial⟩);rw[Fi,Fi,uh9,lJ hsd] at hy;have hy:mbQ g h p v=wD y:=hy;have hyl:=Zs ht hm;rw[hy,Bj] at hyl;have hnx:Ct g h p<g.length:=WV hg hh hm.pl;refine(KN (P:=λr S'=>∃j1,r=.tup [.obj j1,.non]/\S'[j1]?=some (.lst (wD y))/\S1.length<=j1/\Kx [k,q] S1 S'/\S'[q]?=some (.lst (wD (sd++y)))/\Ins S' "Lasting" (lE q tk hd) g x o (Ct g h p) a w k l W P) R.L.ik (.inl ⟨rfl,?_⟩)).mono ?_
  .exact(U0 hc S1 g x o h a w y sd k l W P p q tk hd v hg hm hsd hy ∅ R.iq R.lq R.L).mono λr S' ⟨j1,e1,e2,e3,e4,e5,e6⟩=>.inl ⟨j1,e1,j1,rfl,e2,e3,e4,e5,e6⟩
  rintro r S2 ⟨j1,rfl,hj1,hl1,K1,hq1,L1⟩;have hkk:=R.kk;have m (i:Nat) (h1:i≠k) (h2:i≠q):i∉[k,q]:=by simp only[uj7,uh1,lG,lL];exact⟨h1,h2⟩
  have B1:Ins S2 "Side" [] g x o h a w kb lb Wb Pb:=R.B.keep K1 (m _ hkk (Bi R.B.ik R.iq)) (m _ (Ne.symm (Bi R.L.ik R.B.il)) R.bq) (m _ (EM R.B.iw R.L.ik) (CA R.B.iw R.iq)) (m _ (EM R.B.ip R.L.ik) (CA R.B.ip R.iq));symm;refine(KN (P:=λr S'=>∃j2,r=.tup [.obj j2,.non]/\S'[j2]?=some (.lst (wD y))/\S2.length<=j2/\Kx [kb] S2 S'/\Ins S' "Side" [] g x o (Ct g h p) a w kb lb Wb Pb) B1.ik (.inr ⟨rfl,?_⟩)).mono ?_
  .exact(U1 hc S2 g x o h a w y kb lb Wb Pb p v hg hm hsd hy ∅ B1).mono λr S' ⟨j2,e1,e2,e3,e4,e5⟩=>.inl ⟨j2,e1,j2,rfl,e2,e3,e4,e5⟩
  rintro r S3 ⟨j2,rfl,hj2,hl2,K2,B2⟩;have hj13:S3[j1]?=some (.lst (wD y)):=K2.get (by simp only[ue7];exact Ne.symm (Bi B1.ik hj1)) hj1;symm;refine HN (d:=.tup [.lst (wD y),.non]) (by simp only[CV,uj8,ul1,Cj,hj13]) (by simp only[CV,uj8,ul1,Cj,hj2]) ?_ (YJ Ez) ?_
  .simp only[Bu,FR,E1 Ez,uk3,uk2]
  symm;rw[6,cR hj13];have hjl:=AO hj;have hj2':S2[j]?=some (.lst (wD z)):=K1.get (m _ (Ne.symm (Bi R.L.ik hj)) n3) hj;have hj3:S3[j]?=some (.lst (wD z)):=K2.get (by simp only[ue7];exact Ne.symm (Bi R.B.ik hj)) hj2';rw[6,Oj (k:=j) (j:=j1)];refine⟨rfl,⟨_,hj3⟩,?_⟩;symm;refine⟨rfl,_,_,hj3,hj13,by rw[Bj,Bj,hL];lia,?_⟩;symm;have hj14:(S3.set j (.lst (wD z++wD y)))[j1]?=some (.lst (wD y)):=Ae hj13 ∅;rw[6,Js (k:=j1)];refine⟨rfl,_,hj14,?_⟩;symm;refine⟨_,wD y++[.int 7],hj14,by simp only[Cu];rw[lJ (by rw[hL,Bj];lia)],?_⟩;symm;have hj24:j≠j1:=by lia
  have s1:∀i,i≠j->i≠j1->((S3.set j (.lst (wD z++wD y))).set j1 (.lst (wD y++[.int 7])))[i]?=S3[i]?:=λi h1 h2=>by rw[ud2 (Ne.symm h2),ud2 (Ne.symm h1)]
  have lt1:∀i (b:Ob),S1[i]?=some b->i≠j1:=λi b e=>by have:=AO e;lia
  have kq:k≠q:=Bi R.L.ik R.iq;have K1':∀i (b:Ob),S2[i]?=some b->i≠kb->S3[i]?=some b:=λi b e n=>K2.get (by simp only[ue7];exact n) e;have gt2:∀i (b:Ob),S1[i]?=some b->i≠k->i≠q->S2[i]?=some b:=λi b e h1 h2=>K1.get (m i h1 h2) e;refine⟨rfl,Ct g h p,y,hnx,hyl,⟨⟨?_,?_,?_,?_,L1.el⟩,⟨?_,?_,?_,?_,B2.el⟩,?_,R.lq,R.bq,R.bl⟩,?_,?_⟩
  .rw[s1 _ (Ne.symm (Ne.symm (Bi R.L.ik hj))) (lt1 _ _ R.L.ik)];exact K1' _ _ L1.ik (Ne.symm hkk)
  .rw[s1 _ (CA R.L.iw hj) (lt1 _ _ R.L.iw)];exact K1' _ _ L1.iw (EM R.L.iw R.B.ik)
  .rw[s1 _ (CA R.L.ip hj) (lt1 _ _ R.L.ip)];exact K1' _ _ L1.ip (EM R.L.ip R.B.ik)
  .rw[s1 _ (Ne.symm n1) (lt1 _ _ R.L.il)];exact K1' _ _ L1.il (Ne.symm (Bi R.B.ik R.L.il))
  .rw[s1 _ (Bi R.B.ik hj) (lt1 _ _ R.B.ik)];exact B2.ik
  .rw[s1 _ (CA R.B.iw hj) (lt1 _ _ R.B.iw)];exact B2.iw
  .rw[s1 _ (CA R.B.ip hj) (lt1 _ _ R.B.ip)];exact B2.ip
  .rw[s1 _ (Ne.symm n2) (lt1 _ _ R.B.il)];exact B2.il
  .rw[s1 _ (Ne.symm n3) (lt1 _ _ R.iq)];exact K1' _ _ hq1 (Ne.symm (Bi R.B.ik R.iq))
  .rw[ud2 (Ne.symm hj24),Lb];exact AN hj3
  .refine⟨?_,λi hi n=>?_⟩
   .rw[ui2,ui2];exact uk9 K1.1 K2.1
   .simp only[uj7,uh1,lG,lL] at n;rw[s1 _ n.2.2.2 ∅];exact(K2.2 i (ue0 hi K1.1) (by simp only[ue7];exact n.2.1)).trans (K1.2 i hi (m i n.1 n.2.2.1))
 .refine(KN (P:=λr S'=>r=.tup [.non,.int 0]/\S'=S1) R.L.ik (.inl ⟨rfl,?_⟩)).mono ?_
  .exact(SR hcn hg hh ho hok hN R.L).mono λr S' ⟨e1,e2⟩=>.inr ⟨e1,rfl,e2⟩
  rintro r S2 ⟨rfl,rfl⟩;symm;refine(KN (P:=λr S'=>r=.tup [.non,.int 0]/\S'=S2) R.B.ik (.inr ⟨rfl,?_⟩)).mono ?_
  .exact(SS hcn hg hh ho hok hN R.B).mono λr S' ⟨e1,e2⟩=>.inr ⟨e1,rfl,e2⟩
  rintro r S3 ⟨rfl,rfl⟩;symm;rw[6,HN (d:=.tup [.non,.int 0]) rfl rfl rfl (by decide +kernel)];rw[6,LZ rfl (by decide +kernel)];exact⟨rfl,h,[],hh,by decide,by simpa using R,by simpa using hj,Kx.refl⟩
def tkR(S S':List Ob)(g:List GS)(x o:Str)(h a:Nat)(w:List Nat)(m k l W P q tk hd:Nat)(r:D):Rs->Prop
 |(t,h',a1,b1,none)=>∃T0 P',r=.tup [.obj T0,.non]/\S'[T0]?=some (.lst t)/\S.length<=T0/\Ins S' "Lasting" (lE q (tk+m) hd) g x o h' (onS o a1 b1) w k l W P'
 |(_,_,_,_,some (j,s))=>r=bD7 j s/\Ins S' "Lasting" (lE q tk hd) g x o h a w k l W P
def tsR(S S':List Ob)(g:List GS)(x o:Str)(h a:Nat)(w:List Nat)(k l W P:Nat)(r:D):Rs->Prop
 |(t,h',a1,b1,none)=>∃T0 P',r=.tup [.obj T0,.non]/\S'[T0]?=some (.lst t)/\S.length<=T0/\Ins S' "Side" [] g x o h' (onS o a1 b1) w k l W P'
 |(_,_,_,_,some (j,s))=>r=bD7 j s/\Ins S' "Side" [] g x o h a w k l W P
theorem VI(hc:E4 cL){S:List Ob}{g:List GS}{x o:Str}{h a:Nat}{w y:List Nat}{k l W P p0 q tk hd:Nat}(hg:GOk g)(ho:Two x o)(hh:h<g.length)(ha:a<=w.length)(hl:(w++y).length<=25000)(hp0:S[p0]?=some (.lst (wD y)))(hpl:p0≠l)(R:Ins S "Lasting" (lE q tk hd) g x o h a w k l W P) :
 Wf (fnOf 2 5 (Bm cL cS)) [.obj k,.obj p0] S λr S'=>Kx [k,l] S S'/\tkR S S' g x o h a (w++y) y.length k l W P q tk hd r (w1 g o (w++y) ((w++y).length+1) h a []):=by
 refine O1 R.ik (.inl ⟨rfl,(hc S g x o h a w y k l W P p0 q tk hd hg ho hh ha hl hp0 hpl R).mono λr S' z=>?_⟩);clear 5 z K hr;generalize w1 g o (w++y) ((w++y).length+1) h a []=Z at hr⊢;clear 5 Z t h' a1 b1 z
 cases z with
 |none=>
   clear 5 hr T0 P' rfl hT hTl R';exact .inl ⟨T0,rfl,K,T0,P',rfl,hT,hTl,R'⟩
 |some z=>
   clear 5 z j s;clear 5 hr hr R';exact .inr ⟨j,s,hr,K,rfl,R'⟩
theorem bI(hc:GZ cS){S:List Ob}{g:List GS}{x o:Str}{h a:Nat}{w y:List Nat}{k l W P p0:Nat}(hg:GOk g)(ho:Two x o)(hh:h<g.length)(ha:a<=w.length)(hl:(w++y).length<=25000)(hp0:S[p0]?=some (.lst (wD y)))(R:Ins S "Side" [] g x o h a w k l W P) :
 Wf (fnOf 2 5 (Bm cL cS)) [.obj k,.obj p0] S λr S'=>Kx [k,l] S S'/\tsR S S' g x o h a (w++y) k l W P r (w1 g o (w++y) ((w++y).length+1) h a []):=by
 refine O1 R.ik (.inr ⟨rfl,(hc S g x o h a w y k l W P p0 hg ho hh ha hl hp0 R).mono λr S' z=>?_⟩);clear 5 z K hr;generalize w1 g o (w++y) ((w++y).length+1) h a []=Z at hr⊢;clear 5 Z t h' a1 b1 z
 cases z with
 |none=>
   clear 5 hr T0 P' rfl hT hTl R';exact .inl ⟨T0,rfl,K,T0,P',rfl,hT,hTl,R'⟩
 |some z=>
   clear 5 z j s;clear 5 hr hr R';exact .inr ⟨j,s,hr,K,rfl,R'⟩
theorem LG{x o:Str}{k l W P:Nat}(R:Ins S "Lasting" (lE q tk hd) g x o h a w k l W P):PureO S (fnOf 1 1 BA) [.obj k] (.int (tk:Nat)):=by
 rw[9,BA];refine BG R.ik rfl ?_;exact⟨rfl,rfl⟩
def Rd.tells(P:D->Prop):Rd->Prop
 |.done v=>P v
 |.need _ nx=>∀b,(nx b).tells P
theorem SO{P:D->Prop}:∀(p:Rd) (a:Nat),p.tells P->p.run w a=.told v b->P v:=by
 intro p
 induction p with
 |done u=>intro a h e;cases e;exact h
 |need ok nx ih=>
   intro a h e
   cases hb:w[a]? with
   |none=>rw[BQ hb] at e;cases e
   |some c=>
     rw[BF hb] at e
     split at e
     .exact ih c (a+1) (h c) e
     .cases e
theorem GL{P Q:D->Prop}{k:D->Rd}(hk:∀v,P v->(k v).tells Q):∀p:Rd,p.tells P->(p.bnd k).tells Q:=by
 intro p
 induction p with
 |done u=>exact hk u
 |need ok nx ih=>exact λh b=>ih b (h b)
local macro_rules | `(tactic| walk_at"y1")=>`(tactic| first
 |walk_at"x1" |clear 31 Hi QJ Jt Ld QP QO)
section
variable{n0:Nat}{S S1 S2:List Ob}{k:Nat}{g:List GS}{vl vr:List Nat}{h a b W P l r:Nat}{o:Ob}
end
def Bk(g:List GS)(vl vr:List Nat)(h a b c:Nat)(s:Str):Prop:=Pl g vl vr h a b/\∃t h' a' b',Bh g vl vr (Fu vl vr) h a b []=(t,h',a',b',some (c,s))
set_option tactic.hygienic true in
theorem Bk.more{g:List GS}(hg:GOk g){vl vr:List Nat}{h a b c:Nat}{s:Str}(B:Bk g vl vr h a b c s)(xl xr:List Nat):Bk g (vl++xl) (vr++xr) h a b c s:=by
 clear 5 B p t h' a' b' e;have w:=Ol hg _ _ _ _ _ _ _ _ _ p e;have h3:=w.2.1;refine⟨p.more xl xr,t,h',a',b',w.2.2.2.1 (vl++xl) (vr++xr) (Fu (vl++xl) (vr++xr)) (λi hi=>?_) (λi hi=>?_) (by show vl.length+vr.length+1<=(vl++xl).length+(vr++xr).length+1;rw[ue5,ue5];lia)⟩
 .refine ub0 ?_;unfold onS at hi h3
  split at hi
  .next q=>rw[lJ q] at h3;lia
  .exact hi
 .refine ub0 ?_;unfold onS at hi h3
  split at hi
  .exact hi
  .next q=>rw[lK q] at h3;lia
section
variable{F:List (Nat×Ob)}{n0:Nat}{S S1:List Ob}{k:Nat}{g:List GS}{vl vr:List Nat}{h a b W P l r m R:Nat}
end
theorem aK(hg:GOk g){o:Str}(ho:o=sL\/o=sR){w:List Nat}{h a j:Nat}{s:Str}{t:List D}{h' a1 b1:Nat}(hh:h<g.length)(ha:a<=w.length)(e:w1 g o w (w.length+1) h a []=(t,h',a1,b1,some (j,s)))(x:List Nat):∃t' h'' a'' b'',w1 g o (w++x) ((w++x).length+1) h a []=(t',h'',a'',b'',some (j,s)):=by
 rcases ho with rfl|rfl
 .have B:Bk g w [] h a 0 j s:=⟨⟨hh,ha,ul5 _⟩,t,h',a1,b1,e⟩;obtain⟨_,t',h'',a'',b'',e'⟩:=B.more hg x [];exact⟨t',h'',a'',b'',e'⟩
 .have e0:Bh g [] w (w.length+1) h 0 a []=(t,h',a1,b1,some (j,s)):=e;have B:Bk g [] w h 0 a j s:=⟨⟨hh,ul5 _,ha⟩,t,h',a1,b1,by show Bh g [] w (0+w.length+1) h 0 a []=_;rw[lf];exact e0⟩;obtain⟨_,t',h'',a'',b'',e'⟩:=B.more hg [] x;refine⟨t',h'',a'',b'',?_⟩;show Bh g [] (w++x) ((w++x).length+1) h 0 a []=_;have e2:Bh g [] (w++x) (0+(w++x).length+1) h 0 a []=(t',h'',a'',b'',some (j,s)):=e';rw[lf] at e2;exact e2
theorem Qa(hc:E4 cL){S:List Ob}{g:List GS}{x o:Str}{h a:Nat}{w y:List Nat}{k l W P p0 q tk hd j:Nat}{s:Str}{t:List D}{h' a1 b1:Nat}(hg:GOk g)(ho:Two x o)(hh:h<g.length)(ha:a<=w.length)(hl:(w++y).length<=25000)(e:w1 g o w (w.length+1) h a []=(t,h',a1,b1,some (j,s)))(hp0:S[p0]?=some (.lst (wD y)))(hpl:p0≠l)(R:Ins S "Lasting" (lE q tk hd) g x o h a w k l W P) :
 Wf (fnOf 2 5 (Bm cL cS)) [.obj k,.obj p0] S λr S'=>r=bD7 j s/\Kx [k,l] S S'/\Ins S' "Lasting" (lE q tk hd) g x o h a (w++y) k l W P:=by
 clear 5(aK hg ho.o hh ha e y)t' h'' a'' b'' e';refine(VI (cS:=cS) hc hg ho hh ha hl hp0 hpl R).mono λr S' z=>?_;rw[e'] at z;exact⟨z.2.1,z.1,z.2.2⟩
theorem JI:eqN EQD (bD7 j s) (bD7 j s)=some true:=by
 have h1:eqN (37+1) (.tup [.int (j:Nat),.str s]) (.tup [.int (j:Nat),.str s])=some true:=Lw (by simp only[ud4];exact⟨OK,V9,λ_ z=>nomatch z⟩);have h2:eqN (38+1) (.lst [.tup [.int (j:Nat),.str s]]) (.lst [.tup [.int (j:Nat),.str s]])=some true:=OL (by simp only[ud4];exact⟨h1,λ_ z=>nomatch z⟩);show eqN (39+1) _ _=_;exact Lw (by simp only[ud4];exact⟨rfl,h2,λ_ z=>nomatch z⟩)
theorem Zm(hc:E4 cL)(hb:JC cb){S:List Ob}{g:List GS}{x o:Str}{h a:Nat}{w sd:List Nat}{k l W P q tk hd j:Nat}{s:Str}{t:List D}{h' a1 b1:Nat}(hg:GOk g)(ho:Two x o)(hh:h<g.length)(ha:a<=w.length)(hl:w.length<=24000)(hsl:sd.length<=24000)(hd1:hd<=sd.length)(e:w1 g o w (w.length+1) h a []=(t,h',a1,b1,some (j,s)))(hq:S[q]?=some (.lst (wD sd)))(hlq:l≠q)(R:Ins S "Lasting" (lE q tk hd) g x o h a w k l W P) :
 Wf (fnOf 4 6 (CW (fnOf 2 5 (Bm cL cS)) cb (fnOf 1 1 BA))) [.obj k,.lst (wD sd),.int (hd:Nat),.int (tk:Nat)] S λr _=>r=.bl true:=by
 have hL:LIM=100000:=rfl;refine Am rfl ?_;unfold CW;have kq:k≠q:=Bi R.ik hq;have hll:=AO R.il;symm;refine(Qa (cS:=cS) (y:=[]) hc hg ho hh ha (by rw[uh9];lia) e AU ∅ (R.gr Gr.app)).mono ?_;rintro r S1 ⟨rfl,K1,R1⟩;rw[uh9] at R1;have m (i:Nat) (h1:i≠k) (h2:i≠l):i∉[k,l]:=by simp only[uj7,uh1,lG,lL];exact⟨h1,h2⟩
 have hq1:S1[q]?=some (.lst (wD sd)):=K1.get (m _ (Ne.symm kq) (Ne.symm hlq)) (AM hq);symm;refine⟨k,_,rfl,R1.ik,W_ret.mpr ?_⟩;rw[6,(LG R1).use];rw[6,DV (by simp)];refine⟨k,_,rfl,R1.ik,?_⟩;symm;refine Vu ?_;refine(hb S1 g x o h a hd w sd k l W P q tk hd (ul4 _) hd1 hq1 R1).mono ?_;rintro r S2 ⟨j2,rfl,hj2,hl2,K2,R2⟩;have hq2:S2[q]?=some (.lst (wD sd)):=K2.get (by simp only[ue7];exact Ne.symm kq) hq1;refine⟨rfl,?_⟩;symm;rw[Ih];rw[6,HN (d:=.lst (wD (sd.drop hd))) (by simp only[CV,Cj,hj2]) rfl (by simp only[Bu,E1 Ez]) (Ir Ez)];refine⟨k,_,rfl,R2.ik,?_⟩;symm;refine Vu ?_;rw[Bj];refine(hb S2 g x o h a sd.length w sd k l W P q tk hd hd1 (ul4 _) hq2 R2).mono ?_;rintro r S3 ⟨j3,rfl,hj3,hl3,K3,R3⟩;rw[ug7] at hj3;refine⟨rfl,?_⟩;symm;refine HN (d:=.lst []) (by simp only[CV,Cj,hj3];rfl) rfl rfl (by decide +kernel) ?_;symm;refine⟨k,_,rfl,R3.ik,W_ret.mpr ?_⟩;rw[6,(LG R3).use];rw[6,DV (by simp)];have hl3:=AO R3.il;refine(Qa (cS:=cS) (y:=[]) hc hg ho hh ha (by rw[uh9];lia) e AU ∅ (R3.gr Gr.app)).mono ?_;rintro r S4 ⟨rfl,K4,R4⟩;rw[uh9] at R4;symm;rw[6,LZ rfl JI];have hl4:=AO R4.il;refine(Qa (cS:=cS) (y:=[0]) hc hg ho hh ha (by simp only[ue5,uc9];lia) e AU ∅ (R4.gr Gr.app)).mono ?_;rintro r S5 ⟨rfl,K5,R5⟩;symm;rw[6,LZ rfl JI];rfl
theorem dW{a b c d e:Int}(i:Int):∃T:Int,atI [D.int a,.int b,.int c,.int d,.int e] (i%5)=some (.int T)/\(T=a\/T=b\/T=c\/T=d\/T=e):=by
 have:i%5=0\/i%5=1\/i%5=2\/i%5=3\/i%5=4:=by lia
 rcases this with q|q|q|q|q<;>rw[q]
 .exact⟨a,rfl,.inl rfl⟩
 .exact⟨b,rfl,.inr (.inl rfl)⟩
 .exact⟨c,rfl,.inr (.inr (.inl rfl))⟩
 .exact⟨d,rfl,.inr (.inr (.inr (.inl rfl)))⟩
 .exact⟨e,rfl,.inr (.inr (.inr (.inr rfl)))⟩
theorem Zq(hb:JC cb)(hn:MZ cb){S:List Ob}{g:List GS}{x o:Str}{h a:Nat}{w sd:List Nat}{k l W P q tk hd:Nat}{cell:Int}(hsl:sd.length<=24000)(hd1:hd<=sd.length)(hq:S[q]?=some (.lst (wD sd)))(R:Ins S "Lasting" (lE q tk hd) g x o h a w k l W P) :
 Wf (fnOf 4 7 (BH cb)) [.obj k,.lst (wD sd),.int (hd:Nat),.int cell] S λr S'=>∃hd':Nat,r=.int (hd':Nat)/\hd<=hd'/\hd'<=sd.length/\Kx [k] S S'/\Ins S' "Lasting" (lE q tk hd') g x o h a w k l W P:=by
 have hL:LIM=100000:=rfl;rw[9,BH];rw[Bj];rw[6,GX ∅];have h1:=ui8 (cell/5) (b:=((sd.length:Nat):Int)-((hd:Nat):Int)+1) ∅;have h2:=ue9 (cell/5) (b:=((sd.length:Nat):Int)-((hd:Nat):Int)+1) ∅;generalize cell/5%(((sd.length:Nat):Int)-((hd:Nat):Int)+1)=z at h1 h2⊢;clear 5(dW (a:=hd) (b:=(hd:Int)+z) (c:=(sd.length:Nat)) (d:=(hd:Int)-1) (e:=(sd.length:Int)+1) cell)T eT hT;rw[6,BJ eT];refine⟨k,_,rfl,R.ik,?_⟩;symm
 by_cases hin:(hd:Int)<=T/\T<=(sd.length:Int)
 .clear 5(ub7 (show 0<=T by lia))m rfl;refine(hb S g x o h a m w sd k l W P q tk hd ∅ ∅ hq R).mono ?_;rintro r S1 ⟨j,rfl,hj,hjl,K1,R1⟩;symm;rw[6,DV (ui9 ∅)];rw[6,DV (ui9 ∅)];rw[Ih];rw[6,HN (d:=.lst (wD (sd.drop m))) (by simp only[CV,Cj,hj]) rfl (by simp only[Bu,E1 Ez]) (Ir Ez)];exact⟨m,rfl,by lia,by lia,K1,R1⟩
 .rw[6,(hn S g x o h a T w sd k l W P q tk hd ∅ hq R).use];have hc:T<(hd:Int)\/(sd.length:Int)<T:=by lia
  rcases hc with c|c
  .rw[6,Fe (uj5 c)];exact⟨hd,rfl,ul4 _,hd1,Kx.refl,R⟩
  .rw[6,DV (ui9 ∅)];rw[6,Fe (uj5 c)];exact⟨hd,rfl,ul4 _,hd1,Kx.refl,R⟩
def Pq(n:Nat)(d:D):Prop:=Rq n d/\Bu d=true
theorem Qq:∀{xs:List D},(∀x∈xs,Bu x=true)->FR xs=true
 |[],_=>rfl
 |x::r,h=>by rw[FR,h x ue1,Qq λy m=>h y (ud1 _ m)];rfl
theorem IQ(h:∀x∈xs,Pq n x):Pq (n+1) (.tup xs):=⟨ak λx hx=>(h x hx).1,by rw[Bu];exact Qq λx hx=>(h x hx).2⟩
theorem IN(h:∀x∈xs,Pq n x):Pq (n+1) (.lst xs):=⟨ai λx hx=>(h x hx).1,by rw[Bu];exact Qq λx hx=>(h x hx).2⟩
theorem IP{i:Str}:Pq n (.str i):=⟨aj,rfl⟩
theorem SG{i:Int}:Pq n (.int i):=⟨ah,rfl⟩
theorem Mz{k M:Nat}{lo:Int}:∀r x:Nat,(IK lo M r x).tells (Pq k)
 |0,x=>SG
 |r+1,x=>λb=>Mz r _
theorem MA{k:Nat}:∀(n:Nat) (cs:List Nat),(JZ n cs).tells (Pq k)
 |0,cs=>IP
 |n+1,cs=>λc=>MA n _
theorem My{k:Nat}{p:Rd}(hp:p.tells (Pq k)):∀(n:Nat) (ds:List D),(∀d∈ds,Pq k d)->(IJ p n ds).tells (Pq (k+1))
 |0,ds,h=>IN h
 |n+1,ds,h=>GL (λv hv=>My hp n _ λd hd=>(uh5.mp hd).elim (h d) λz=>by rw[ue7.mp z];exact hv) p hp
theorem Gx:∀(n:Nat) (s:Sh),(pSh n s).tells (Pq n)
 |0,_=>⟨KW,rfl⟩
 |n+1,.nothing=>⟨KW,rfl⟩
 |n+1,.number lo hi=>Mz _ _
 |n+1,.text q=>λb=>MA _ _
 |n+1,.list s q=>λb=>My (Gx n s) b [] (λ_ z=>nomatch z)
 |n+1,.pair s r=>GL (P:=Pq n) (Q:=Pq (n+1)) (k:=λv=>(pSh n r).bnd λu=>.done (.tup [v,u])) (λv hv=>GL (P:=Pq n) (Q:=Pq (n+1)) (k:=λu=>.done (.tup [v,u])) (λu hu=>show Pq (n+1) (.tup [v,u]) from IQ (PJ hv hu)) _ (Gx n r)) _ (Gx n s)
 |n+1,.choice ss=>λb=>GL (P:=Pq n) (Q:=Pq (n+1)) (k:=λv=>.done (.tup [.str "of",.int b,v])) (λv hv=>show Pq (n+1) (.tup [.str "of",.int b,v]) from IQ (Yv IP SG hv)) _ (Gx n _)
set_option tactic.hygienic true
theorem XZ{m:D}{h' a' b':Nat}(e:Bv g wl wr h a b=.next m h' a' b'):Pq 5 m:=by
 unfold Bv at e
 cases eg:AW g h with
 |fin=>rw[eg] at e;cases e
 |st side ws=>
   rw[eg] at e;dsimp only at e;unfold msgR at e
   cases hb:(onS side wl wr)[onS side a b]? with
   |none=>rw[hb] at e;cases e
   |some c=>
     rw[hb] at e;dsimp only at e
     cases hw:ws[c]? with
     |none=>rw[hw] at e;cases e
     |some wd=>
       rw[hw] at e;dsimp only at e
       cases er:(pSh 3 wd.2.1).run (onS side wl wr) (onS side a b+1) with
       |short=>rw[er] at e;cases e
       |broken k=>rw[er] at e;cases e
       |told v x=>
         rw[er] at e;injection e with e1 e2 e3 e4
         rw[<-e1];have hv:=SO _ _ (Gx 3 _) er;exact IQ (n:=4) (Yv IP IP ⟨hv.1.mono (by decide),hv.2⟩)
theorem Po{g:List GS}{wl wr:List Nat}:∀(f h a b:Nat) (t:List D),(∀x∈t,Pq 5 x)->∀x∈(Bh g wl wr f h a b t).1,Pq 5 x
 |0,h,a,b,t,ht=>ht
 |f+1,h,a,b,t,ht=>by
   unfold Bh
   cases e:Bv g wl wr h a b with
   |stop=>exact ht
   |brk k s=>exact ht
   |next m h' a' b'=>
     refine Po f h' a' b' _ λx hx=>?_;rcases uh5.mp hx with hx|hx
     .exact ht x hx
     .rw[ue7.mp hx];exact XZ e
theorem Pn{g:List GS}{wl wr:List Nat}(hg:GOk g):∀(f h a b:Nat) (t:List D),Pl g wl wr h a b->Pl g wl wr (Bh g wl wr f h a b t).2.1 (Bh g wl wr f h a b t).2.2.1 (Bh g wl wr f h a b t).2.2.2.1
 |0,h,a,b,t,p=>p
 |f+1,h,a,b,t,p=>by
   unfold Bh
   cases e:Bv g wl wr h a b with
   |stop=>exact p
   |brk k s=>exact p
   |next m h' a' b'=>exact Pn hg f h' a' b' _ (GK hg p e).1
theorem Pp{g:List GS}{wl wr:List Nat}:∀(f h a b:Nat) (t:List D),(Bh g wl wr f h a b t).1.length<=t.length+f
 |0,h,a,b,t=>ul4 _
 |f+1,h,a,b,t=>by
   unfold Bh
   cases e:Bv g wl wr h a b with
   |stop=>exact ug9 _ _
   |brk k s=>exact ug9 _ _
   |next m h' a' b'=>
     have:=Pp (g:=g) (wl:=wl) (wr:=wr) f h' a' b' (t++[m]);rw[ue5,uc9] at this;exact uk9 this ∅
set_option tactic.hygienic false
theorem X5{g:List GS}(hg:GOk g){o:Str}{w:List Nat}{h a:Nat}{t:List D}{h' a1 b1:Nat}{z:Option (Nat×Str)}(hh:h<g.length)(ha:a<=w.length)(e:w1 g o w (w.length+1) h a []=(t,h',a1,b1,z)):h'<g.length/\onS o a1 b1<=w.length/\(∀x∈t,Pq 5 x)/\t.length<=w.length+1:=by
 unfold w1 at e;have pl:Pl g (onS o w []) (onS o [] w) h (onS o a 0) (onS o 0 a):=⟨hh,by unfold onS;split<;>first|exact ha|exact ul5 _,by unfold onS;split<;>first|exact ha|exact ul5 _⟩
 have p:=Pn hg (w.length+1) h (onS o a 0) (onS o 0 a) [] pl;have q:=Po (g:=g) (wl:=onS o w []) (wr:=onS o [] w) (w.length+1) h (onS o a 0) (onS o 0 a) [] (λ_ z=>nomatch z);have r:=Pp (g:=g) (wl:=onS o w []) (wr:=onS o [] w) (w.length+1) h (onS o a 0) (onS o 0 a) [];rw[e] at p q r;refine⟨p.h,?_,q,by simpa using r⟩;have:=ZC (s:=o) p.a p.b;have e2:onS o (onS o w []) (onS o [] w)=w:=by unfold onS;split<;>rfl
 rw[e2] at this;exact this
theorem aO{g:Bool->Bool}{x d1 d2:D}{b:Bool}(hx:CV t.S x=d1)(hy:CV t.S y=d2)(h1:Bu d1=true)(h2:Bu d2=true)(he:eqN EQD d1 d2=some b)(h:P (.bl (g b)) t):L2.W (eqT g x y) t P:=
 ⟨_,_,by unfold eqT;rw[hx,hy,h1,h2,he];rfl,h⟩
theorem YF{k:Nat}:BZ (wD w) none (some (k:Int))=wD (w.take k):=by
 by_cases h:k<=w.length
 .rw[TN ∅ (by rw[Bj];lia),uf3];unfold wD;rw[List.map_take]
 .have:HT.sIx (wD w).length (wD w).length (some (k:Int))=(wD w).length:=by simp only[HT.sIx];rw[lK ∅,Bj];lia
  unfold BZ;rw[this,uc3 (show w.length<=k by lia)];have z:HT.sIx (wD w).length 0 none=0:=rfl;rw[z,Nat.sub_zero,uj3,List.take_length]
theorem Th{a b c:Int}(i:Int):∃T:Int,atI [D.int a,.int b,.int c] (i%3)=some (.int T)/\(T=a\/T=b\/T=c):=by
 have:i%3=0\/i%3=1\/i%3=2:=by lia
 rcases this with q|q|q<;>rw[q]
 .exact⟨a,rfl,.inl rfl⟩
 .exact⟨b,rfl,.inr (.inl rfl)⟩
 .exact⟨c,rfl,.inr (.inr rfl)⟩
theorem WU{y:List Nat}(e:t.S[j]?=some (.lst (wD y)))(h:P (.bl (decide (y≠[]))) t):L2.W (eqT (λb=>!b) (.obj j) (.lst [])) t P:=by
 cases y with
 |nil=>exact aO (d1:=.lst []) (d2:=.lst []) (b:=true) (by simp only[CV,Cj,e];rfl) rfl rfl rfl (by decide +kernel) h
 |cons c r=>exact aO (d1:=.lst (wD (c::r))) (d2:=.lst []) (b:=false) (by simp only[CV,Cj,e]) rfl (by rw[Bu];exact E1 Ez) rfl rfl h
theorem ar{y:List Nat}{i c:Nat}:(wD y).set i (.int (c:Nat))=wD (y.set i c):=by unfold wD;rw[List.map_set]
theorem MW{m:M Out}{t':T}{P:Out->T->Prop}(e:t=t')(h:L2.W m t' P):L2.W m t P:=by rw[e];exact h
def tgR(S S':List Ob)(g:List GS)(x o:Str)(h a:Nat)(w sd z:List Nat)(tk hd k l W P q kb lb Wb m tk0:Nat)(hs:List D)(r:D):Prop:=
 (r=.int (-1)/\∃(y:List Nat) (i:Nat) (s:Str) (t:List D) (h' a1 b1:Nat),y.length<=z.length/\w1 g o (w++y) ((w++y).length+1) h a []=(t,h',a1,b1,some (i,s))/\Ins S' "Lasting" (lE q tk hd) g x o h a (w++y) k l W P/\Kx [k,l,kb,lb] S S')\/
 (∃(h' a' T P' Pb':Nat) (y:List Nat) (t:List D),y.length<=z.length/\r=.int ((tk0:Nat)+(y.length:Nat))/\h'<g.length/\a'<=(w++y).length/\B7 S' g x o h' a' (w++y) sd (tk+y.length) hd k l W P' q kb lb Wb Pb'/\S.length<=T/\S'[T]?=some (.lst (t++[.str "told"]))/\(∀x∈t,Pq 5 x)/\t.length<=25001/\S'[m]?=some (.lst (hs++[.tup [.obj T,.lst (t++[.str "told"])]]))/\Kx [k,l,kb,lb,m] S S')
theorem cM{g:Bool->Bool}(h:P (.bl (g false)) t):L2.W (eqS g .non (.lst [])) t P:=⟨_,_,rfl,h⟩
theorem B7.gr{S S':List Ob}{g:List GS}{x o:Str}{h a:Nat}{w sd:List Nat}{tk hd k l W P q kb lb Wb Pb:Nat}(R:B7 S g x o h a w sd tk hd k l W P q kb lb Wb Pb)(G:Gr S S'):B7 S' g x o h a w sd tk hd k l W P q kb lb Wb Pb:=⟨R.L.gr G,R.B.gr G,G.get R.iq,R.lq,R.bq,R.bl⟩
theorem WO(hcL:E4 cL)(hcS:GZ cS){S:List Ob}{g:List GS}{x o:Str}{h a:Nat}{w sd z:List Nat}{tk hd k l W P q kb lb Wb Pb j m tk0:Nat}{hs:List D}{cell:Int}(hg:GOk g)(ho:Two x o)(hh:h<g.length)(ha:a<=w.length)(hwl:w.length+z.length<=24000)
 (R:B7 S g x o h a w sd tk hd k l W P q kb lb Wb Pb) (hj:S[j]?=some (.lst (wD z))) (hm:S[m]?=some (.lst hs)) (m1:m≠l) (m2:m≠lb) (m3:m≠q) (hsl:hs.length<=1000) :
 Wf (fnOf 5 12 (Cz (fnOf 2 5 (Bm cL cS)))) [.tup [.obj k,.obj kb],.int cell,.obj j,.int (tk0:Nat),.obj m] S λr S'=>tgR S S' g x o h a w sd z tk hd k l W P q kb lb Wb m tk0 hs r:=by
 have hL:LIM=100000:=rfl;rw[9,Cz];rw[6,FX hj];rw[6,FX hj];rw[Bj];rw[6,GX ∅];have h1:=ui8 (cell/12) (b:=((z.length:Nat):Int)+1) ∅;generalize cell/12%(((z.length:Nat):Int)+1)=c12 at h1⊢;clear 5(Th (a:=(z.length:Nat)) (b:=1) (c:=c12) (cell/4))T eT hT;refine BJ eT ?_;clear 5(ub7 (show 0<=T by lia))N rfl;clear eT hT;symm;rw[6,QU];refine QV hj ?_;rw[YF];refine BM ?_;obtain⟨y0,hy0⟩:∃y0,y0=z.take N:=⟨_,rfl⟩;have hyl:y0.length<=z.length:=by rw[hy0,ug4];lia
 rw[<-hy0];obtain⟨p,hp⟩:∃p,p=S.length:=⟨_,rfl⟩;have hp1:(S++[Ob.lst (wD y0)])[p]?=some (.lst (wD y0)):=by rw[hp];exact AU
 have G1:Gr S (S++[Ob.lst (wD y0)]):=Gr.app;refine MW (t':=⟨[vw (.tup [.obj k,.obj kb]),vw (.int cell),vw (.obj j),vw (.int (tk0:Nat)),vw (.obj m),vw (.obj k),vw (.obj kb),vw (.int (N:Nat)),vw (.obj p),none,none,none],S++[Ob.lst (wD y0)]⟩) (by subst hp;rfl) ?_;generalize S++[Ob.lst (wD y0)]=S1 at hp1 G1⊢;clear hy0;refine IY ?_;refine(show L2.W _ _ (λoo t'=>∃(y:List Nat) (S2:List Ob),oo=Out.next/\t'=⟨[vw (.tup [.obj k,.obj kb]),vw (.int cell),vw (.obj j),vw (.int (tk0:Nat)),vw (.obj m),vw (.obj k),vw (.obj kb),vw (.int (N:Nat)),vw (.obj p),none,none,none],S2⟩/\y.length=y0.length/\S2[p]?=some (.lst (wD y))/\Kx [p] S1 S2) from ?_).mono ?_
 .have keep:∃(y:List Nat) (S2:List Ob),Out.next=Out.next/\(⟨[vw (.tup [.obj k,.obj kb]),vw (.int cell),vw (.obj j),vw (.int (tk0:Nat)),vw (.obj m),vw (.obj k),vw (.obj kb),vw (.int (N:Nat)),vw (.obj p),none,none,none],S1⟩:T)=⟨[vw (.tup [.obj k,.obj kb]),vw (.int cell),vw (.obj j),vw (.int (tk0:Nat)),vw (.obj m),vw (.obj k),vw (.obj kb),vw (.int (N:Nat)),vw (.obj p),none,none,none],S2⟩/\y.length=y0.length/\S2[p]?=some (.lst (wD y))/\Kx [p] S1 S2:=⟨y0,S1,rfl,rfl,rfl,hp1,Kx.refl⟩;symm;refine CZ (λc=>?_) λc=>?_
  .symm;rw[6,WU hp1];refine CZ (λc=>?_) λc=>?_
   .symm;have h2:=ui8 (cell/72) (b:=256) (by decide);clear 5(ub7 h2)c72 e72;rw[e72];clear 5(Th (a:=255) (b:=0) (c:=(c72:Nat)) (cell/8))V eV hV;clear 5(ub7 (show 0<=V by lia))v rfl;rw[6,BJ eV];refine FX hp1 ?_;have hy0:0<y0.length:=by
     have:=ug0 (by assumption:decide (y0≠[])=true);exact List.length_pos_iff.mpr this
    symm;rw[Bj];refine GX ∅ ?_;have h3:=ui8 (cell/24) (b:=(y0.length:Int)) ∅;have h4:=ue9 (cell/24) (b:=(y0.length:Int)) ∅;clear 5(ub7 h3)i ei;rw[ei];refine df hp1 (n:=i) (by rw[EZ ∅ (by rw[Bj];lia),uf3]) ?_;rw[ar];exact⟨y0.set i v,_,rfl,rfl,ui2 ..,AN hp1,Kx.refl.set (by simp)⟩
   .symm;exact keep
  .symm;exact keep
 rintro oo t' ⟨y,S2,rfl,rfl,hyy,hp2,K2⟩;symm;refine Lc hp2 ?_;have G2:Gr S S2:=⟨uk9 G1.1 K2.1,λi hi=>(K2.2 i (ue0 hi G1.1) (by simp only[ue7];lia)).trans (G1.2 i hi)⟩;symm;have hl2:=G2.1;have hp2l:=AO hp2;have hyz:y.length<=z.length:=by lia
 have hlwy:(w++y).length<=24000:=by rw[ue5];lia
 have hp:S.length<=p:=by lia
 clear hp1 G1 K2 hyy hyl;have G3:Gr S (S2++[Ob.lst (wD y)]):=G2.trans Gr.app;have e3:(S2++[Ob.lst (wD y)])[S2.length]?=some (.lst (wD y)):=AU;have e3p:(S2++[Ob.lst (wD y)])[p]?=some (.lst (wD y)):=AM hp2;have hl3:(S2++[Ob.lst (wD y)]).length=S2.length+1:=by rw[ue5];rfl
 have R3:=R.gr G3;have m3':=G3.get hm;have hml:=AO hm;have hll:=AO R.L.il;have hkl:=AO R.L.ik;have hbl:=AO R.B.ik;have hcl:=AO R.B.il;have hkk:=R.kk;have hzz:=@X5 g hg o (w++y) h a;have mm (i i1 i2:Nat) (h1:i≠i1) (h2:i≠i2):i∉[i1,i2]:=by simp only[uj7,uh1,lG,lL];exact⟨h1,h2⟩
 refine(VI (cS:=cS) hcL hg ho hh ha ∅ e3 ∅ R3.L).mono ?_;rintro r S4 ⟨K4,hr⟩;have eS:∀{cL':Fn}{j':Nat}{S':List Ob},S'[j']?=some (.lst (wD y))->Ins S' "Side" [] g x o h a w kb lb Wb Pb->Wf (fnOf 2 5 (Bm cL' cS)) [.obj kb,.obj j'] S' λr S''=>Kx [kb,lb] S' S''/\tsR S' S'' g x o h a (w++y) kb lb Wb Pb r (w1 g o (w++y) ((w++y).length+1) h a []):=λe R'=>bI hcS hg ho hh ha ∅ e R';have B4:Ins S4 "Side" [] g x o h a w kb lb Wb Pb:=R3.B.keep K4 (mm _ _ _ hkk (Bi R.B.ik R.L.il)) (mm _ _ _ (Ne.symm (Bi R.L.ik R.B.il)) R.bl) (mm _ _ _ (EM R.B.iw R.L.ik) (CA R.B.iw R.L.il)) (mm _ _ _ (EM R.B.ip R.L.ik) (CA R.B.ip R.L.il));have f4 (i:Nat) (b:Ob) (e:(S2++[Ob.lst (wD y)])[i]?=some b) (h1:i≠k) (h2:i≠l):S4[i]?=some b:=K4.get (mm _ _ _ h1 h2) e;have e4:=f4 _ _ e3 ∅ ∅;have e4p:=f4 _ _ e3p ∅ ∅;have m4:=f4 _ _ m3' (Ne.symm (Bi R.L.ik hm)) m1;have q4:=f4 _ _ R3.iq (Ne.symm (Bi R.L.ik R.iq)) (Ne.symm R.lq);have hl4:=K4.1;have KS4:Kx [k,l] S S4:=Kx.trans ⟨G3.1,λi h _=>G3.2 i h⟩ K4;generalize hZ:w1 g o (w++y) ((w++y).length+1) h a []=Z at hr eS;clear 5 Z t h' a1 b1 zz;clear 5(hzz hh (by rw[ue5];lia) hZ)hh' ha' htq htl;have sub1:∀i∈[k,l],i∈[k,l,kb,lb]:=λi hi=>by simp only[uj7,uh1,lG] at hi⊢;rcases hi with rfl|rfl<;>simp
 have sub2:∀i∈[kb,lb],i∈[k,l,kb,lb]:=λi hi=>by simp only[uj7,uh1,lG] at hi⊢;rcases hi with rfl|rfl<;>simp
 have eqw:∀{t0:T}{i1 i2:Nat}{P:D->T->Prop},t0.S[i1]?=some (.lst (wD y))->t0.S[i2]?=some (.lst (wD y))->P (.bl (!true)) t0->L2.W (eqT (λb=>!b) (.obj i1) (.obj i2)) t0 P:=λe1 e2 h=>HN (d:=.lst (wD y)) (by simp only[CV,Cj,e1]) (by simp only[CV,Cj,e2]) (by rw[Bu];exact E1 Ez) (Ir Ez) h
 cases zz with
 |none=>
   clear 5 hr T0 P' rfl hT hTl L4;symm;rw[6,eqw e4 e4p];rw[6,Lc e4p];refine(eS AU (B4.gr Gr.app)).mono ?_;rintro r S6 ⟨K6,T1,Pb',rfl,hT1,hTl1,B6⟩;have hl6:=K6.1;have hl5:(S4++[Ob.lst (wD y)]).length=S4.length+1:=by rw[ue5];rfl
   have f6 (i:Nat) (b:Ob) (e:S4[i]?=some b) (h1:i≠kb) (h2:i≠lb):S6[i]?=some b:=K6.get (mm _ _ _ h1 h2) (AM e);have hT6:=f6 _ _ hT ∅ ∅;have hqt:eqN EQD (.tup [.lst t,.non]) (.tup [.lst t,.non])=some true:=(IQ (n:=6) (PJ (IN htq) ⟨KW,rfl⟩)).1 EQD (by decide);rw[6,HN (d:=.tup [.lst t,.non]) (by simp only[CV,uj8,ul1,Cj,hT6]) (by simp only[CV,uj8,ul1,Cj,hT1]) (IQ (n:=6) (PJ (IN htq) ⟨KW,rfl⟩)).2 hqt];have e6:=f6 _ _ e4 ∅ ∅;have e6p:=f6 _ _ e4p ∅ ∅;have m6:=f6 _ _ m4 (Ne.symm (Bi R.B.ik hm)) m2;rw[6,cM];rw[6,Js (k:=S2.length)];refine⟨rfl,_,e6,?_⟩;symm;refine⟨_,wD y++[.int 7],e6,by simp only[Cu];rw[lJ (by rw[hL,Bj];lia)],?_⟩;symm;have nT0:T0≠S2.length:=by lia
   have hT7:=Ae (o:=.lst (wD y++[.int 7])) hT6 (Ne.symm nT0);have m7:=Ae (o:=.lst (wD y++[.int 7])) m6 (by lia:S2.length≠m);have p7:=Ae (o:=.lst (wD y++[.int 7])) e6p (by lia:S2.length≠p);rw[6,Js (k:=T0)];refine⟨rfl,_,hT7,?_⟩;symm;refine⟨_,t++[.str "told"],hT7,by simp only[Cu];rw[lJ (by rw[hL];lia)],?_⟩;symm;have hT8:=AN (o':=.lst (t++[.str "told"])) hT7;have m8:=Ae (o:=.lst (t++[.str "told"])) m7 (by lia:T0≠m);have p8:=Ae (o:=.lst (t++[.str "told"])) p7 (by lia:T0≠p);rw[6,Js (k:=m)];refine⟨rfl,_,m8,?_⟩;symm;rw[6,Lc hT8];refine⟨_,hs++[.tup [.obj T0,.lst (t++[.str "told"])]],m8,by simp only[Cu];rw[lJ (by rw[hL];lia)],?_⟩;symm;have p9:=Ae (o:=.lst (hs++[.tup [.obj T0,.lst (t++[.str "told"])]])) p8 (by lia:m≠p);rw[6,FX p9];rw[Bj];have q6:=f6 _ _ q4 (Ne.symm (Bi R.B.ik R.iq)) (Ne.symm R.bq);have hql:=AO R.iq;have L6:=(L4.gr (S':=S4++[Ob.lst (wD y)]) Gr.app).keep K6 (mm _ _ _ (Ne.symm hkk) (Bi R.L.ik R.B.il)) (mm _ _ _ (Ne.symm (Bi R.B.ik R.L.il)) (Ne.symm R.bl)) (mm _ _ _ (EM R.L.iw R.B.ik) (CA R.L.iw R.B.il)) (mm _ _ _ (EM L4.ip B4.ik) (CA L4.ip B4.il));refine .inr ⟨h',onS o a1 b1,T0,P',Pb',y,t,hyz,rfl,hh',ha',⟨((L6.setL e6 ∅).setL hT7 ∅).setL m8 m1,((B6.setL e6 ∅).setL hT7 ∅).setL m8 m2,?_,R.lq,R.bq,R.bl⟩,by lia,?_,htq,by lia,AN m8,?_⟩
   .exact Ae (Ae (Ae q6 ∅) ∅) m3
   .exact Ae hT8 ∅
   .exact((((((KS4.gr Gr.app).sub sub1).trans (K6.sub sub2)).setN ∅).setN ∅).sub (λi hi=>by simp only[uj7,uh1,lG] at hi⊢;rcases hi with rfl|rfl|rfl|rfl<;>simp)).set (by simp)
 |some zz=>
   clear 5 zz ii ss;clear 5 hr rfl L4;symm;rw[6,eqw e4 e4p];rw[6,Lc e4p];refine(eS AU (B4.gr Gr.app)).mono ?_;rintro r S6 ⟨K6,rfl,B6⟩;symm;rw[6,HN (d:=bD7 ii ss) rfl rfl rfl JI];have hl6:=K6.1;have hl5:(S4++[Ob.lst (wD y)]).length=S4.length+1:=by rw[ue5];rfl
   have f6 (i:Nat) (b:Ob) (e:S4[i]?=some b) (h1:i≠kb) (h2:i≠lb):S6[i]?=some b:=K6.get (mm _ _ _ h1 h2) (AM e);have e6:=f6 _ _ e4 ∅ ∅;rw[6,Js (k:=S2.length)];refine⟨rfl,_,e6,?_⟩;symm;refine⟨_,wD y++[.int 7],e6,by simp only[Cu];rw[lJ (by rw[hL,Bj];lia)],?_⟩;symm;have L6:=(L4.gr (S':=S4++[Ob.lst (wD y)]) Gr.app).keep K6 (mm _ _ _ (Ne.symm hkk) (Bi R.L.ik R.B.il)) (mm _ _ _ (Ne.symm (Bi R.B.ik R.L.il)) (Ne.symm R.bl)) (mm _ _ _ (EM R.L.iw R.B.ik) (CA R.L.iw R.B.il)) (mm _ _ _ (EM R.L.ip R.B.ik) (CA R.L.ip R.B.il));exact .inl ⟨rfl,y,ii,ss,t,h',a1,b1,hyz,hZ,L6.setL e6 ∅,((((KS4.gr Gr.app).sub sub1).trans (K6.sub sub2)).setN ∅)⟩
def lx(x:Str)(a b:D):List (Key×D):=lr (onS x a b) (onS x b a)
theorem EB{x o:Str}{a b:D}(h:Two x o):Bb (lx x a b) (.inr x)=some a:=by unfold lx;rw[R9 h.x,NS]
theorem Zr{x o:Str}{a b:D}(h:Two x o):Bb (lx x a b) (.inr o)=some b:=by
 unfold lx;rw[R9 h.o];rcases h with⟨rfl,rfl⟩|⟨rfl,rfl⟩<;>rfl
theorem Qb{x o:Str}{a b d:D}(h:Two x o):BP (lx x a b) (.inr x) d=lx x d b:=by unfold lx;rw[Sa h.x,ZA,ZB]
theorem bJ{x o:Str}{a b d:D}(h:Two x o):BP (lx x a b) (.inr o) d=lx x a d:=by
 unfold lx;rw[Sa h.o];rcases h with⟨rfl,rfl⟩|⟨rfl,rfl⟩<;>rfl
theorem Jj{x o:Str}{a b:D}(h:Two x o):lx x a b=lx o b a:=by
 rcases h with⟨rfl,rfl⟩|⟨rfl,rfl⟩<;>rfl
structure Sd7 where
 (k l W P q kb lb Wb Pb j h a tk ls:Nat)
 (w sd z:List Nat)
structure Ok7(S:List Ob)(g:List GS)(x o:Str)(A:Sd7):Prop where
 b:B7 S g x o A.h A.a A.w A.sd A.tk A.ls A.k A.l A.W A.P A.q A.kb A.lb A.Wb A.Pb
 j:S[A.j]?=some (.lst (wD A.z))
 hh:A.h<g.length
 ha:A.a<=A.w.length
 ls:A.ls<=A.sd.length
def Out7(S:List Ob)(A:Sd7)(i:Nat):Prop:=((∃ds,S[i]?=some (.lst ds))/\i∉[A.l,A.lb,A.q,A.j])\/((∃n fs,S[i]?=some (.ins n fs))/\i≠A.k/\i≠A.kb)\/∃kv,S[i]?=some (.dct kv)/\kv.length≠1
theorem Out7.l{S:List Ob}{A:Sd7}{i c:Nat}{ds:List D}(h:Out7 S A i)(e:S[c]?=some (.lst ds))(hc:c∈[A.l,A.lb,A.q,A.j]):c≠i:=λz=>by
 subst z;rcases h with⟨_,h⟩|⟨⟨_,_,h⟩,_⟩|⟨_,h,_⟩
 .exact h hc
 .rw[e] at h;cases h
 .rw[e] at h;cases h
theorem Out7.i{A:Sd7}{i c:Nat}{n:Str}{fs:List (Str×D)}(h:Out7 S A i)(e:S[c]?=some (.ins n fs))(hc:c=A.k\/c=A.kb):c≠i:=λz=>by
 subst z;rcases h with⟨⟨_,h⟩,_⟩|⟨_,h1,h2⟩|⟨_,h,_⟩
 .rw[e] at h;cases h
 .exact hc.elim h1 h2
 .rw[e] at h;cases h
theorem Out7.d{A:Sd7}{i c:Nat}{o:Str}{d:D}(h:Out7 S A i)(e:S[c]?=some (.dct (d1 o d))):c≠i:=λz=>by
 subst z;rcases h with⟨⟨_,h⟩,_⟩|⟨⟨_,_,h⟩,_⟩|⟨_,h,hl⟩
 .rw[e] at h;cases h
 .rw[e] at h;cases h
 .rw[e] at h;cases h;exact hl rfl
theorem Ok7.keep{S S':List Ob}{g:List GS}{x o:Str}{A:Sd7}{F:List Nat}(R:Ok7 S g x o A)(K:Kx F S S')(h:∀i∈F,Out7 S A i):Ok7 S' g x o A:=by
 have li:∀{c:Nat}{ds:List D},S[c]?=some (.lst ds)->c∈[A.l,A.lb,A.q,A.j]->c∉F:=λe hc z=>(h _ z).l e hc rfl;have ii:∀{c:Nat}{n:Str}{fs:List (Str×D)},S[c]?=some (.ins n fs)->(c=A.k\/c=A.kb)->c∉F:=λe hc z=>(h _ z).i e hc rfl;have di:∀{c:Nat}{o:Str}{d:D},S[c]?=some (.dct (d1 o d))->c∉F:=λe z=>(h _ z).d e rfl;exact⟨⟨R.b.L.keep K (ii R.b.L.ik (.inl rfl)) (li R.b.L.il (by simp)) (di R.b.L.iw) (di R.b.L.ip),R.b.B.keep K (ii R.b.B.ik (.inr rfl)) (li R.b.B.il (by simp)) (di R.b.B.iw) (di R.b.B.ip),K.get (li R.b.iq (by simp)) R.b.iq,R.b.lq,R.b.bq,R.b.bl⟩,K.get (li R.j (by simp)) R.j,R.hh,R.ha,R.ls⟩
abbrev Eo(LD SD WD PD TD ED HD:Nat):List (Key×D):=[(.inr "lastings",.obj LD),(.inr "sides",.obj SD),(.inr "wires",.obj WD),(.inr "spoken",.obj PD),(.inr "taken",.obj TD),(.inr "least",.obj ED),(.inr "held",.obj HD)]
abbrev Ls7(A B:Sd7)(HD:Nat):List Nat:=[A.l,A.lb,A.q,A.j,B.l,B.lb,B.q,B.j,HD]
def Hl7(S:List Ob)(F:List Nat)(u:D):Prop:=∃(T:Nat) (t:List D),u=.tup [.obj T,.lst t]/\S[T]?=some (.lst t)/\T∉F/\∀d∈t,Pq 5 d
structure Hd7(S:List Ob)(x:Str)(hd LD SD WD PD TD ED HD:Nat)(A B:Sd7)(hs:List D):Prop where
 e0:S[hd]?=some (.dct (Eo LD SD WD PD TD ED HD))
 e1:S[LD]?=some (.dct (lx x (.obj A.k) (.obj B.k)))
 e2:S[SD]?=some (.dct (lx x (.obj A.kb) (.obj B.kb)))
 e3:S[WD]?=some (.dct (lx x (.obj A.j) (.obj B.j)))
 e4:S[PD]?=some (.dct (lx x (.lst (wD A.sd)) (.lst (wD B.sd))))
 e5:S[TD]?=some (.dct (lx x (.int (A.tk:Nat)) (.int (B.tk:Nat))))
 e6:S[ED]?=some (.dct (lx x (.int (A.ls:Nat)) (.int (B.ls:Nat))))
 e7:S[HD]?=some (.lst hs)
variable{LD SD WD PD TD ED HD:Nat}{B:Sd7}{hs:List D}
theorem Hd7.swap{x o:Str}{A:Sd7}(h:Two x o)(R:Hd7 S x hd LD SD WD PD TD ED HD A B hs):Hd7 S o hd LD SD WD PD TD ED HD B A hs:=
 ⟨R.e0,by rw[<-Jj h];exact R.e1,by rw[<-Jj h];exact R.e2,by rw[<-Jj h];exact R.e3,by rw[<-Jj h];exact R.e4,by rw[<-Jj h];exact R.e5,by rw[<-Jj h];exact R.e6,R.e7⟩
structure HI7(S:List Ob)(g:List GS)(x o:Str)(hd LD SD WD PD TD ED HD n:Nat)(A B:Sd7)(hs:List D):Prop where
 a:Ok7 S g x o A
 b:Ok7 S g o x B
 ab:A.k≠B.k
 bb:A.kb≠B.kb
 nd:(Ls7 A B HD).Nodup
 dd:[hd,LD,SD,WD,PD,TD,ED].Nodup
 d:Hd7 S x hd LD SD WD PD TD ED HD A B hs
 held:∀u∈hs,Hl7 S (Ls7 A B HD) u
 hl:hs.length<=n
 sa:A.sd.length<=41*n
 sb:B.sd.length<=41*n
 wa:A.w.length+B.z.length<=41*n
 wb:B.w.length+A.z.length<=41*n
theorem ls_perm{A:Sd7}:(Ls7 A B HD).Perm (Ls7 B A HD):=(List.perm_append_comm (l₁:=[A.l,A.lb,A.q,A.j]) (l₂:=[B.l,B.lb,B.q,B.j])).append_right [HD]
theorem HI7.swap{S:List Ob}{g:List GS}{x o:Str}{hd LD SD WD PD TD ED HD n:Nat}{A B:Sd7}{hs:List D}(h:Two x o)(R:HI7 S g x o hd LD SD WD PD TD ED HD n A B hs):HI7 S g o x hd LD SD WD PD TD ED HD n B A hs:=
 ⟨R.b,R.a,Ne.symm R.ab,Ne.symm R.bb,(ls_perm.nodup_iff).mp R.nd,R.dd,R.d.swap h,λu hu=>by clear 5(R.held u hu)T t e1 e2 e3 e4;exact⟨T,t,e1,e2,λz=>e3 (ls_perm.mem_iff.mpr z),e4⟩,R.hl,R.sb,R.sa,R.wb,R.wa⟩
theorem Hl7.keep{X:List Nat}{u:D}(R:Hl7 S F u)(K:Kx X S S')(h:∀i∈X,(∃ds,S[i]?=some (.lst ds))->i∈F):Hl7 S' F u:=by
 clear 5 R T t e1 e2 e3 e4;exact⟨T,t,e1,K.get (λz=>e3 (h T z ⟨t,e2⟩)) e2,e3,e4⟩
theorem Hw{n:Int}:∀(xs:List GS) (S:List Ob) (z:Option Sl),(∀x∈xs,GSOk n x)->L2.W (compG none (Au 0) EU (fIf (Ai (Aj (fnOf 1 1 Cg) (Ab (Aa 0) Ad))) (Aa 0) (AE (Ab (Ac (Aa 0) (ia 0) ixD) (Ab (AL (fBF (Ab (Ac (Aa 0) (ia 1) ixD) Ad) Ds)) Ad)))) (xs.map GS.d)) ⟨[z],S⟩ λrs t'=>rs=xs.map GS.d/\t'.S=S
 |[],S,z,_=>GO NH ⟨rfl,rfl⟩
 |x::r,S,z,h=>by
   rw[uj8];refine E5 NH ?_;rw[6,Ke];rw[lJ rfl];symm
   cases x with
   |fin=>
     refine(Iu n .fin .fin S).mono ?_;rintro r0 S' ⟨rfl,rfl⟩;rw[GS.isFin];symm;exact(Hw r S' _ λy m=>h y (ud1 _ m)).mono λds t' ⟨e1,e2⟩=>⟨by rw[e1],e2⟩
   |st side ws=>
     have hs:side=sL\/side=sR:=by cases h _ ue1 with|st h1 _ _ _ _=>exact h1
     rw[GS.d];rw[6,(RQ hs (.lst (ws.map wdD)) S).use];exact(Hw r S _ λy m=>h y (ud1 _ m)).mono λds t' ⟨e1,e2⟩=>⟨by rw[e1],e2⟩
theorem Mj(hg:GOk g)(S:List Ob):PureS S (fnOf 1 1 (Bl (fnOf 1 1 Cg))) [.lst (g.map GS.d)] (.lst (g.map GS.d)):=by
 have hL:LIM=100000:=rfl;rw[9,Bl];refine Oh ?_;rw[6,QL];refine⟨_,_,rfl,?_⟩;refine(Hw g S none hg.all).mono λxs t' z9=>?_;clear 5 z9 e1 e2;subst e1;have:=hg.le;refine DF (by rw[uh7,hL];lia) ?_;symm;exact⟨rfl,e2⟩
theorem Zo{k:Nat}{x o:Str}{d:D}(hc:Wf cS [.obj k,d,.str x] S λr S'=>r=.non/\∃W P l,HeaG "Lasting" S S' k W P l o (bsF g x 0 W P [])):Wf (fnOf 3 3 (Ce cS)) [.obj k,d,.str x] S λr S'=>r=.non/\Kp k S S'/\∃W P l q,Ins S' "Lasting" (lE q 0 0) g x o 0 0 [] k l W P/\S'[q]?=some (.lst [])/\l≠q/\S.length<=l/\S.length<=q:=by
 rw[9,Ce];refine hc.mono λr S1 z9=>?_;clear 5 z9 e W P l R;subst e;symm;refine Ck (AM R.ik) (by show 5<1000;decide) ?_;obtain⟨q,hq⟩:∃q,q=S1.length:=⟨_,rfl⟩;have R1:=R.app (b:=.lst []);have q1:(S1++[Ob.lst []])[q]?=some (.lst []):=by rw[hq];exact AU
 have hlq:l≠q:=by rw[hq];exact uk8 (AO R.il)
 have hSq:S.length<=q:=by rw[hq];exact R.kp.1
 have R2:=R1.put (fs':=bsF g x 0 W P [("said",.obj q)]);have q2:=Ae (o:=.ins "Lasting" (bsF g x 0 W P [("said",.obj q)])) q1 (AD R1.ik q1 (by simp));show DM _ _ Out.next ⟨_,(S1++[Ob.lst []]).set k (.ins "Lasting" (bsF g x 0 W P [("said",.obj S1.length)]))⟩;rw[<-hq];generalize (S1++[Ob.lst []]).set k (.ins "Lasting" (bsF g x 0 W P [("said",.obj q)]))=S2 at R2 q2⊢;symm;refine Ck R2.ik (by show 6<1000;decide) ?_;have R3:=R2.put (fs':=bsF g x 0 W P [("said",.obj q),("taken",.int (0:Nat))]);have q3:=Ae (o:=.ins "Lasting" (bsF g x 0 W P [("said",.obj q),("taken",.int (0:Nat))])) q2 (AD R2.ik q2 (by simp));show DM _ _ Out.next ⟨_,S2.set k (.ins "Lasting" (bsF g x 0 W P [("said",.obj q),("taken",.int (0:Nat))]))⟩;generalize S2.set k (.ins "Lasting" (bsF g x 0 W P [("said",.obj q),("taken",.int (0:Nat))]))=S3 at R3 q3⊢;symm;refine Ck R3.ik (by show 7<1000;decide) ?_;have R4:=R3.put (fs':=bsF g x 0 W P (lE q 0 0));have q4:=Ae (o:=.ins "Lasting" (bsF g x 0 W P (lE q 0 0))) q3 (AD R3.ik q3 (by simp));symm;exact⟨rfl,R4.kp,W,P,l,q,⟨R4.ik,R4.iw,R4.ip,R4.il,by show 3<=100;decide⟩,q4,hlq,R4.gl,hSq⟩
theorem R6{k:Nat}{b:Ob}(hk:k=S.length)(K:Kp k (S++[b]) S'):Gr S S':=by
 have h1:=K.1;rw[ue5] at h1;exact⟨by lia,λi hi=>(K.2 i (by rw[ue5];lia) ∅).trans (ub0 hi)⟩
noncomputable abbrev GF(co:Fn):Fn:=fnOf 3 3 (EL co (fnOf 3 4 (Da (fnOf 1 1 (Bl (fnOf 1 1 Cg))))))
theorem Zu(h1:E3 co){x o:Str}(ho:Two x o){S:List Ob}{g:List GS}{d:D}(hc:∀S',Gr S S'->PureS S' (fnOf 1 1 (Bl (fnOf 1 1 Cg))) [d] (.lst (g.map GS.d))):Wf (fnOf 3 3 (Ce (GF co))) [.obj S.length,d,.str x] (S++[.ins "Lasting" []]) λr S'=>r=.non/\Gr S S'/\∃W P l q,Ins S' "Lasting" (lE q 0 0) g x o 0 0 [] S.length l W P/\S'[q]?=some (.lst [])/\l≠q/\S.length<l/\S.length<q:=by
 refine(Zo (SW h1 ho (hc _ Gr.app) AU)).mono ?_;rintro r S' ⟨e,K,W,P,l,q,R,hq,n,l1,l2⟩;rw[ue5] at l1 l2;exact⟨e,R6 rfl K,W,P,l,q,R,hq,n,l1,l2⟩
theorem Zv(h1:E3 co){x o:Str}(ho:Two x o){S:List Ob}{g:List GS}{d:D}(hc:∀S',Gr S S'->PureS S' (fnOf 1 1 (Bl (fnOf 1 1 Cg))) [d] (.lst (g.map GS.d))):Wf (GF co) [.obj S.length,d,.str x] (S++[.ins "Side" []]) λr S'=>r=.non/\Gr S S'/\∃W P l,Ins S' "Side" [] g x o 0 0 [] S.length l W P/\S.length<l:=by
 refine(SW h1 ho (hc _ Gr.app) AU).mono ?_;rintro r S' ⟨e,W,P,l,R⟩;have l1:=R.gl;rw[ue5] at l1;exact⟨e,R6 rfl R.kp,W,P,l,⟨R.ik,R.iw,R.ip,R.il,ul5 _⟩,l1⟩
theorem JT{n:Int}{N:Nat}:∀(xs:List GS) (S:List Ob) (z:Option Sl),N<=S.length->(∀x∈xs,GSOk n x)->L2.W (B8 (Au 0) EU (fIf (Ai (Ac (fB (Ab (Aa 0) Ad) A4) (ia 1) gtA)) (AE (Ab (Ac (Aa 0) (ia 0) ixD) (Ab (B5 (fBF (Ab (Ac (Aa 0) (fUn (ia 1) IG) ixD) Ad) Ds)) Ad))) (Aa 0)) (xs.map GS.d)) ⟨[z],S⟩ λds t'=>Gr S t'.S/\GRn N t'.S ds xs
 |[],S,z,_,_=>W_compL_nil.mpr ⟨.refl,.nil⟩
 |x::r,S,z,hN,h=>by
   rw[uj8,E6];rw[6,Ke];rw[lJ rfl]
   cases x with
   |fin=>
     rw[GS.d];symm;exact(JT (n:=n) (N:=N) r S _ hN λy m=>h y (ud1 _ m)).mono λds t' ⟨e1,e2⟩=>⟨e1,.fin e2⟩
   |st side ws=>
     rw[GS.d];symm;refine(JT (n:=n) (N:=N) r (S++[.lst (ws.map wdD)]) _ (by rw[ue5];lia) λy m=>h y (ud1 _ m)).mono ?_;rintro ds t' ⟨e1,e2⟩;exact⟨Gr.trans Gr.app e1,GRn.st (e1.get AU) hN e2⟩
theorem HM{g:M D}(h:L2.W f ⟨t.env,t.S++[.dct []]⟩ λa t1=>L2.W g t1 λb t2=>t2.S[t.S.length]?=some (.dct [])/\P (.obj t.S.length) ⟨t2.env,t2.S.set t.S.length (.dct (lx sL a b))⟩):L2.W (Dk [("left",f),("right",g)]) t P:=by
 refine V0 (HQ (h.mono λa t1 h1=>HQ (h1.mono λb t2 h2=>MD ⟨h2.1,by show 2<=15;decide,?_⟩)));rw[show DT [(Sum.inr (Str.ofString "left"),a),(Sum.inr (Str.ofString "right"),b)]=lx sL a b from Ur];exact h2.2
theorem Ya{x:Str}(h:L2.W f ⟨t.env,t.S++[.dct []]⟩ λa t1=>t1.S[t.S.length]?=some (.dct [])/\P (.obj t.S.length) ⟨t1.env,t1.S.set t.S.length (.dct [(.inr x,a)])⟩):L2.W (Dk [(x,f)]) t P:=by
 refine V0 (HQ (h.mono λa t1 h1=>MD ⟨h1.1,by show 1<=15;decide,?_⟩));rw[show DT [((Sum.inr x:Key),a)]=[(.inr x,a)] from by simp[DT,BP]];exact h1.2
variable{kv:List (Key×D)}
theorem Xr{k:Key}{d:D}(h:(kv.any λp=>decide (p.1=k))=false):BP kv k d=kv++[(k,d)]:=by unfold BP;rw[lK (by rw[h];decide)]
def HdC(S:List Ob)(lo hi:Nat)(d:D):Prop:=d=.tup [.str (Str.ofString "end")]\/∃(s:Str) (j:Nat) (xs:List D),d=.tup [.str s,.obj j]/\S[j]?=some (.lst xs)/\lo<=j/\j<hi
theorem HdC.set{S:List Ob}{lo hi i:Nat}{d:D}(h:HdC S lo hi d):HdC (S.set i (.lst [])) lo hi d:=by
 rcases h with h|⟨s,j,xs,h1,h3,h4⟩
 .exact .inl h
 .by_cases z:i=j
  .subst z;exact .inr ⟨s,i,_,h1,AN h3,h4⟩
  .exact .inr ⟨s,j,xs,h1,Ae h3 z,h4⟩
theorem GRn.hdc{N hi:Nat}(r:GRn N S ds g)(hk:∀i,i<S.length->S'[i]?=S[i]?)(hl:S.length<=hi):∀d∈ds,HdC S' N hi d:=by
 induction r with
 |nil=>exact λ_ h=>nomatch h
 |fin _ ih=>
   intro d hd;rcases uj7.mp hd with rfl|hd
   .exact .inl rfl
   .exact ih d hd
 |st e hj _ ih=>
   intro d hd;rcases uj7.mp hd with rfl|hd
   .have lj:=AO e;exact .inr ⟨_,_,_,rfl,(hk _ lj).trans e,hj,by lia⟩
   .exact ih d hd
theorem VZ{k:Nat}(w:L2.W f t λo t1=>o=.obj k/\t1.S[k]?=some (.lst xs)/\P .non ⟨t1.env,t1.S.set k (.lst [])⟩):L2.W (NR f) t P:=by
 refine BR (w.mono λo t1 z=>?_);clear 5 z rfl e p;exact⟨_,_,by simp only[e],p⟩
theorem QE{x:Str}{d:D}(e:t.S[hd]?=some (.dct kv))(hn:(kv.any λp=>decide (p.1=.inr x))=false)(hl:kv.length<100000)(h:U () ⟨t.env,t.S.set hd (.dct (kv++[(.inr x,d)]))⟩):L2.W (F0 (.obj hd) (.str x) d) t U:=Em e hl (by rw[Xr hn];exact h)
theorem kt1{LD:D}:([((.inr (Str.ofString "lastings"):Key),LD)].any λp=>decide (p.1=.inr (Str.ofString "sides")))=false:=rfl
theorem Ins.setE{n:Str}{x o:Str}{k l W P:Nat}{b:Ob}(R:Ins S n E g x o h a w k l W P)(e:S[j]?=some (.dct kv))(n1:kv.length≠1):Ins (S.set j b) n E g x o h a w k l W P:=
 ⟨Ae R.ik (AD e R.ik (by simp)),Ae R.iw (AD e R.iw (λz=>by injection z with z;exact n1 (by rw[z];rfl))),Ae R.ip (AD e R.ip (λz=>by injection z with z;exact n1 (by rw[z];rfl))),Ae R.il (AD e R.il (by simp)),R.el⟩
theorem Ins.kx1{n:Str}{x o:Str}{k l W P:Nat}(R:Ins S n E g x o h a w k l W P)(e:S[hd]?=some (.dct kv))(hk:∀d,kv≠d1 o d)(K:Kx [hd] S S'):Ins S' n E g x o h a w k l W P:=by
 have ne:∀{c:Nat}{b:Ob},S[c]?=some b->b≠.dct kv->c∉[hd]:=λe2 n z=>by
  rw[ue7] at z;subst z;rw[e] at e2;injection e2 with e2
  exact n e2.symm
 exact R.keep K (ne R.ik (by simp)) (ne R.il (by simp)) (ne R.iw λz=>by injection z with z;exact hk _ z.symm) (ne R.ip λz=>by injection z with z;exact hk _ z.symm)
def Kq(H:Nat)(S S':List Ob):Prop:=S.length=S'.length/\∀i b,S[i]?=some b->((∀xs,b≠.lst xs)\/H<i)->S'[i]?=some b
theorem Kq.set{H j:Nat}{S S':List Ob}{xs:List D}(K:Kq H S S')(e:S'[j]?=some (.lst xs))(h:j<=H):Kq H S (S'.set j (.lst [])):=⟨by rw[ui2];exact K.1,λi b eb hb=>by
 have e2:=K.2 i b eb hb;refine Ae e2 λz=>?_;subst z;rcases hb with hb|hb
 .rw[e] at e2;injection e2 with e2;exact hb xs e2.symm
 .lia⟩
theorem Kq.ins{H:Nat}{S S':List Ob}{n:Str}{E:List (Str×D)}{g:List GS}{x o:Str}{h a:Nat}{w:List Nat}{k l W P:Nat}(K:Kq H S S')(R:Ins S n E g x o h a w k l W P)(hl:H<l):Ins S' n E g x o h a w k l W P:=
 ⟨K.2 _ _ R.ik (.inl λ_ z=>nomatch z),K.2 _ _ R.iw (.inl λ_ z=>nomatch z),K.2 _ _ R.ip (.inl λ_ z=>nomatch z),K.2 _ _ R.il (.inr hl),R.el⟩
theorem cK{m:M α}{t':T}{Q:α->T->Prop}(e:t=t')(h:L2.W m t' Q):L2.W m t Q:=by rw[e];exact h
abbrev eh7(e0 e1 e3:Option Sl)(hd:Nat):List (Option Sl):=[e0,e1,vw (.obj hd),e3]
theorem N7{a b:Ob}:(S++[a]).set S.length b=S++[b]:=by rw[List.set_append_right _ _ (ul4 _),ul3];rfl
theorem Qr{g:M D}{a b:D}{x:Str}{e0 e1 e3:Option Sl}{K:Out->T->Prop}(hf:∀(t:T) (Q:D->T->Prop),Q a t->L2.W f t Q)(hg:∀(t:T) (Q:D->T->Prop),Q b t->L2.W g t Q)
 (e:S[hd]?=some (.dct kv)) (hn:(kv.any λp=>decide (p.1=.inr x))=false) (hl:kv.length<100000)
 (h:∀S' SD,Kx [hd] S S'->S'[hd]?=some (.dct (kv++[(.inr x,.obj SD)]))->S'[SD]?=some (.dct (lx sL a b))->S.length<=SD->SD<S'.length->K .next ⟨eh7 e0 e1 e3 hd,S'⟩) :
 L2.W (Bw (Dk [("left",f),("right",g)]) (CG (Aa 2) (fC (.str x)))) ⟨eh7 e0 e1 e3 hd,S⟩ K:=by
 have hhd:=AO e;symm;refine HM ?_;refine hf _ _ (hg _ _ ⟨AU,?_⟩);symm;refine QE (kv:=kv) (by rw[N7];exact AM e) hn hl ?_;show K _ ⟨_,((S++[Ob.dct []]).set S.length (.dct (lx sL a b))).set hd (.dct (kv++[(.inr x,.obj S.length)]))⟩;rw[N7];exact h _ S.length ((Kx.refl.gr Gr.app).set (by simp)) (AN (AM e)) (Ae AU ∅) (ul4 _) (by rw[ui2,ue5];exact ug3 _)
theorem bV{x:Str}{e0 e1 e3:Option Sl}{K:Out->T->Prop}
 (e:S[hd]?=some (.dct kv)) (hn:(kv.any λp=>decide (p.1=.inr x))=false) (hl:kv.length<100000)
 (h:∀S' WD j1 j2,Kx [hd] S S'->S'[hd]?=some (.dct (kv++[(.inr x,.obj WD)]))->S'[WD]?=some (.dct (lx sL (.obj j1) (.obj j2)))->S'[j1]?=some (.lst [])->S'[j2]?=some (.lst [])->S.length<=WD->WD<j1->j1<j2->j2<S'.length->K .next ⟨eh7 e0 e1 e3 hd,S'⟩) :
 L2.W (Bw (Dk [("left",B5 (Bc Ad)),("right",B5 (Bc Ad))]) (CG (Aa 2) (fC (.str x)))) ⟨eh7 e0 e1 e3 hd,S⟩ K:=by
 have hhd:=AO e;have l1:(S++[Ob.dct []]).length=S.length+1:=by rw[ue5];rfl
 have l2:(S++[Ob.dct []]++[Ob.lst []]).length=S.length+2:=by rw[ue5,l1];rfl
 have l3:(S++[Ob.dct []]++[Ob.lst []]++[Ob.lst []]).length=S.length+3:=by rw[ue5,l2];rfl
 symm;rw[6,HM];refine⟨AM (AM AU),?_⟩;symm;have d0:(S++[Ob.dct []]++[Ob.lst []]++[Ob.lst []])[S.length]?=some (.dct []):=AM (AM AU);have j1:(S++[Ob.dct []]++[Ob.lst []]++[Ob.lst []])[S.length+1]?=some (.lst []):=by rw[<-l1];exact AM AU
 have j2:(S++[Ob.dct []]++[Ob.lst []]++[Ob.lst []])[S.length+2]?=some (.lst []):=by rw[<-l2];exact AU
 have eo:(S++[Ob.dct []]++[Ob.lst []]++[Ob.lst []])[hd]?=some (.dct kv):=AM (AM (AM e));have G:Gr S (S++[Ob.dct []]++[Ob.lst []]++[Ob.lst []]):=(Gr.app.trans Gr.app).trans Gr.app;refine QE (kv:=kv) (Ae eo (show S.length≠hd by lia)) hn hl ?_;show K _ ⟨_,((S++[Ob.dct []]++[Ob.lst []]++[Ob.lst []]).set S.length (.dct (lx sL (.obj (S++[Ob.dct []]).length) (.obj (S++[Ob.dct []]++[Ob.lst []]).length)))).set hd (.dct (kv++[(.inr x,.obj S.length)]))⟩;rw[l1,l2];generalize S++[Ob.dct []]++[Ob.lst []]++[Ob.lst []]=S3 at d0 j1 j2 eo G l3⊢;exact h _ S.length (S.length+1) (S.length+2) (((Kx.refl.gr G).setN (ul4 _)).set (by simp)) (AN (Ae eo ∅)) (Ae (AN d0) ∅) (Ae (Ae j1 ∅) ∅) (Ae (Ae j2 ∅) ∅) (ul4 _) ∅ ∅ (by rw[ui2,ui2];lia)
theorem bU(h1:E3 co){g:List GS}(hg:GOk g){x:Str}{hd:Nat}{kv:List (Key×D)}{e1 e3:Option Sl}{S:List Ob}{K:Out->T->Prop}
 (e:S[hd]?=some (.dct kv)) (hn:(kv.any λp=>decide (p.1=.inr x))=false) (hl:kv.length<100000) (hk:∀o,o=sL\/o=sR->∀d,kv≠d1 o d)
 (h:∀S' SD k1 W1 P1 l1 k2 W2 P2 l2,Kx [hd] S S'->S'[hd]?=some (.dct (kv++[(.inr x,.obj SD)]))->S'[SD]?=some (.dct (lx sL (.obj k1) (.obj k2)))->Ins S' "Side" [] g sL sR 0 0 [] k1 l1 W1 P1->Ins S' "Side" [] g sR sL 0 0 [] k2 l2 W2 P2->S.length<=SD->SD<k1->k1<l1->l1<k2->k2<l2->l2<S'.length->K .next ⟨eh7 (vw (.lst (g.map GS.d))) e1 e3 hd,S'⟩) :
 L2.W (Bw (Dk [("left",FB "Side" (GF co) (Ab (AL (fBF (Ab (Aa 0) Ad) Ds)) (Ab (fC (.str "left")) Ad))),("right",FB "Side" (GF co) (Ab (AL (fBF (Ab (Aa 0) Ad) Ds)) (Ab (fC (.str "right")) Ad)))]) (CG (Aa 2) (fC (.str x)))) ⟨eh7 (vw (.lst (g.map GS.d))) e1 e3 hd,S⟩ K:=by
 have hL:LIM=100000:=rfl;have hle:=hg.le;have tlr:Two sL sR:=.inl ⟨rfl,rfl⟩;have hhd:=AO e;have ll1:(S++[Ob.dct []]).length=S.length+1:=by rw[ue5];rfl
 symm;rw[6,HM];refine(Zv h1 tlr (S:=S++[Ob.dct []]) (λS' _=>Mj hg S')).mono ?_;rintro r S1 ⟨rfl,G1,W1,P1,l1,X1,lt1⟩;refine⟨rfl,?_⟩;symm;refine(Zv h1 tlr.swap (S:=S1) (λS' _=>Mj hg S')).mono ?_;rintro r S2 ⟨rfl,G2,W2,P2,l2,X2,lt2⟩;refine⟨rfl,?_⟩;have d0:S2[S.length]?=some (.dct []):=(G1.trans G2).get AU;have eo:S2[hd]?=some (.dct kv):=(G1.trans G2).get (AM e);have G:Gr S S2:=Gr.app.trans (G1.trans G2);have hl1:=AO X1.il;have hl2:=AO X2.il;have X1':=X1.gr G2;rw[ll1] at X1' lt1;refine⟨d0,?_⟩;symm;refine QE (kv:=kv) (Ae eo (show S.length≠hd by lia)) hn hl ?_;show K _ ⟨_,(S2.set S.length (.dct (lx sL (.obj (S++[Ob.dct []]).length) (.obj S1.length)))).set hd (.dct (kv++[(.inr x,.obj S.length)]))⟩;rw[ll1];exact h _ S.length (S.length+1) W1 P1 l1 S1.length W2 P2 l2 (((Kx.refl.gr G).setN (ul4 _)).set (by simp)) (AN (Ae eo ∅)) (Ae (AN d0) ∅) ((X1'.setE d0 (by simp)).kx1 (Ae eo ∅) (hk _ (.inr rfl)) (Kx.refl.set (by simp))) ((X2.setE d0 (by simp)).kx1 (Ae eo ∅) (hk _ (.inl rfl)) (Kx.refl.set (by simp))) (ul4 _) ∅ ∅ ∅ ∅ (by rw[ui2,ui2];lia)
theorem Zn{co2:Fn}(h1:E3 co)(h2:E3 co2){g:List GS}(hg:GOk g){S0:List Ob}:Wf (fnOf 1 4 (Fg (GF co) (fnOf 3 3 (Ce (GF co2))))) [.lst (g.map GS.d)] S0 λr S'=>∃(hd LD SD WD PD TD ED HD:Nat) (A B:Sd7),r=.obj hd/\HI7 S' g sL sR hd LD SD WD PD TD ED HD 0 A B []:=by
 have hL:LIM=100000:=rfl;have hle:=hg.le;have tlr:Two sL sR:=.inl ⟨rfl,rfl⟩;rw[9,Fg];refine(JT (N:=S0.length) g S0 none (ul4 _) hg.all).mono ?_;rintro ds ⟨en,S1⟩ ⟨G1,hR⟩;replace G1:Gr S0 S1:=G1;replace hR:GRn S0.length S1 ds g:=hR;have hdl:=hR.length;refine DF (by rw[hdl,hL];lia) ?_;symm;obtain⟨H,hH⟩:∃H,H=S1.length:=⟨_,rfl⟩;have eH:(S1++[Ob.lst ds])[H]?=some (.lst ds):=by rw[hH];exact AU
 have hR2:GRn S0.length (S1++[Ob.lst ds]) ds g:=hR.gr Gr.app;have hl2:(S1++[Ob.lst ds]).length=H+1:=by rw[hH,ue5];rfl
 have hcl:∀d∈ds,HdC (S1++[Ob.lst ds]) S0.length H d:=hR.hdc (λi hi=>ub0 hi) ∅;refine cK (t':=⟨[vw (.lst (g.map GS.d)),vw (.obj H),none,none],S1++[Ob.lst ds]⟩) (by rw[hH];rfl) ?_;generalize S1++[Ob.lst ds]=S2 at eH hR2 hl2 hcl⊢;have hcp:∀S',Gr S2 S'->PureS S' (fnOf 1 1 (Bl (fnOf 1 1 Cg))) [.obj H] (.lst (g.map GS.d)):=λS' G=>RJ g S' H S0.length ds hg (G.get eH) (hR2.gr G);refine Ya ?_;refine HM ?_;have e2h:(S2++[Ob.dct []]++[Ob.dct []])[S2.length]?=some (.dct []):=AM AU;have e2d:(S2++[Ob.dct []]++[Ob.dct []])[(S2++[Ob.dct []]).length]?=some (.dct []):=AU;have l3:(S2++[Ob.dct []]).length=H+2:=by rw[ue5,hl2];rfl
 have l4:(S2++[Ob.dct []]++[Ob.dct []]).length=H+3:=by rw[ue5,l3];rfl
 have G24:Gr S2 (S2++[Ob.dct []]++[Ob.dct []]):=Gr.app.trans Gr.app;show L2.W _ ⟨_,S2++[Ob.dct []]++[Ob.dct []]⟩ _;generalize S2++[Ob.dct []]++[Ob.dct []]=S4 at e2h e2d l4 G24⊢;symm;refine(Zu h2 tlr (S:=S4) (λS' G=>hcp S' (G24.trans G))).mono ?_;rintro r S5 ⟨rfl,G5,W1,P1,L1,q1,X1,hq1,n1,lt1,lt2⟩;refine⟨rfl,?_⟩;symm;refine(Zu h2 tlr.swap (S:=S5) (λS' G=>hcp S' ((G24.trans G5).trans G))).mono ?_;rintro r S6 ⟨rfl,G6,W2,P2,Ly,q2,X2,hq2,n2,lt3,lt4⟩;refine⟨rfl,?_⟩;have k1:=AO X1.ik;have b1:=AO X1.il;have b2:=AO hq1;have hk2:=AO X2.ik;have b3:=AO X2.il;have b4:=AO hq2;have hX1:=X1.gr G6;have hQ1:=G6.get hq1;have d6:=(G5.trans G6).get e2d;have h6:=(G5.trans G6).get e2h;have H6:=((G24.trans G5).trans G6).get eH;have c6:∀d∈ds,HdC S6 S0.length H d:=λd hd=>by
  rcases hcl d hd with q|⟨s,j,xs,q1,q2,q3⟩
  .exact .inl q
  .exact .inr ⟨s,j,xs,q1,((G24.trans G5).trans G6).get q2,q3⟩
 have hl6:=(G5.trans G6).1;rw[l3] at d6⊢;rw[l4] at X1 hX1 lt1 lt2;refine⟨d6,?_⟩;rw[hl2] at h6⊢;refine⟨Ae h6 ∅,?_⟩;refine BM ?_;have d6':S6[H+2]?=some (.dct []):=d6;refine MW (t':=⟨[vw (.lst (g.map GS.d)),vw (.obj H),vw (.obj (H+1)),none],(S6.set (H+2) (.dct (lx sL (.obj (H+3)) (.obj S5.length)))).set (H+1) (.dct [(.inr "lastings",.obj (H+2))])⟩) (by rw[<-hl2,<-l3,<-l4];rfl) ?_;generalize hS8:(S6.set (H+2) (.dct (lx sL (.obj (H+3)) (.obj S5.length)))).set (H+1) (.dct [(.inr "lastings",.obj (H+2))])=S8;have A1:Ins S8 "Lasting" (lE q1 0 0) g sL sR 0 0 [] (H+3) L1 W1 P1:=by rw[<-hS8];exact(hX1.setE d6' (by simp)).setE (Ae h6 ∅) (by simp)
 have A2:Ins S8 "Lasting" (lE q2 0 0) g sR sL 0 0 [] S5.length Ly W2 P2:=by rw[<-hS8];exact(X2.setE d6' (by simp)).setE (Ae h6 ∅) (by simp)
 have Q1:S8[q1]?=some (.lst []):=by rw[<-hS8];exact Ae (Ae hQ1 ∅) ∅
 have Q2:S8[q2]?=some (.lst []):=by rw[<-hS8];exact Ae (Ae hq2 ∅) ∅
 have eL:S8[H+2]?=some (.dct (lx sL (.obj (H+3)) (.obj S5.length))):=by rw[<-hS8];exact Ae (AN d6') ∅
 have eh:S8[H+1]?=some (.dct [(.inr "lastings",.obj (H+2))]):=by rw[<-hS8];exact AN (Ae h6 ∅)
 have e8:S8[H]?=some (.lst ds):=by rw[<-hS8];exact Ae (Ae H6 ∅) ∅
 have c8:∀d∈ds,HdC S8 S0.length H d:=λd hd=>by
  rw[<-hS8];rcases c6 d hd with q|⟨s,j,xs,z1,z2,z3⟩
  .exact .inl q
  .exact .inr ⟨s,j,xs,z1,Ae (Ae z2 ∅) ∅,z3⟩
 have l8:S8.length=S6.length:=by rw[<-hS8,ui2,ui2]
 clear hS8;have lS5:H+3<S5.length:=by lia
 clear hX1 X1 X2 hQ1 hq1 hq2 d6 d6' h6 H6 c6 hcl e2h e2d hcp hR hR2 eH G24 G5 G6 G1;generalize S5.length=K2 at *;refine IY ?_;refine aQ (QL ?_);symm;refine QM e8 ?_;refine L2.W.mono (Li (P:=λout t=>out=.next/\∃(S9:List Ob) (e3:Option Sl),S9[H]?=some (.lst ds)/\Kq H S8 S9/\t=⟨[vw (.lst (g.map GS.d)),vw (.obj H),vw (.obj (H+1)),e3],S9⟩) (λr t=>∃(S9:List Ob) (e3:Option Sl),S9[H]?=some (.lst ds)/\Kq H S8 S9/\(∀d∈r,HdC S9 S0.length H d)/\t=⟨[vw (.lst (g.map GS.d)),vw (.obj H),vw (.obj (H+1)),e3],S9⟩) (λr t h=>?_) _ _ ⟨S8,_,e8,⟨rfl,λ_ _ e _=>e⟩,c8,rfl⟩ ?_ ?_) ?_
 .obtain⟨S9,e3,z,_,_,rfl⟩:=h;exact JS z
 .rintro d r t ⟨S9,e3,hz,KK,hr,rfl⟩;rcases hr d ue1 with rfl|⟨s,j,xs,rfl,hj,j0,jl⟩
  .symm;exact⟨S9,_,hz,KK,λd hd=>hr d (ud1 _ hd),rfl⟩
  .symm;rw[6,VZ (k:=j) (xs:=xs)];refine⟨rfl,hj,?_⟩;symm;exact⟨_,_,Ae hz ∅,KK.set hj ∅,λd hd=>(hr d (ud1 _ hd)).set,rfl⟩
 .rintro t ⟨S9,e3,hz,KK,_,rfl⟩;exact⟨rfl,S9,e3,hz,KK,rfl⟩
 rintro out t ⟨rfl,S9,e3,hz,KK,rfl⟩;symm;rw[6,VZ (k:=H) (xs:=ds)];refine⟨rfl,hz,?_⟩;have K10:=KK.set hz (ul4 _);generalize S9.set H (.lst [])=S10 at K10⊢;have B1:=K10.ins A1 ∅;have B2:=K10.ins A2 ∅;have R1:=K10.2 _ _ Q1 (.inr ∅);have R2:=K10.2 _ _ Q2 (.inr ∅);have f0:=K10.2 _ _ eh (.inl λ_ z=>nomatch z);have f1:=K10.2 _ _ eL (.inl λ_ z=>nomatch z);have hl10:=K10.1;have hqb:=AO R2;clear KK hz A1 A2 Q1 Q2 eL eh e8 c8;refine BM ?_;refine MW (t':=⟨eh7 (vw (.lst (g.map GS.d))) (vw (.obj H)) e3 (H+1),S10⟩) rfl ?_;refine IY ?_;have hka:∀o,o=sL\/o=sR->∀d,[((.inr (Str.ofString "lastings"):Key),D.obj (H+2))]≠d1 o d:=λo ho d z=>by
  injection z with z
  injection z with z
  injection z with z
  rcases ho with rfl|rfl<;>exact absurd z (by decide +kernel)
 refine bU h1 hg f0 kt1 (by show 1<100000;decide) hka ?_;intro S11 SD kb1 Wb1 Pb1 lb1 kb2 Wb2 Pb2 lb2 K11 f2 f3 X1 X2 o1 o2 o3 o4 o5 o6;have B11:=B1.kx1 f0 (hka _ (.inr rfl)) K11;have B21:=B2.kx1 f0 (hka _ (.inl rfl)) K11;refine BM ?_;refine IY ?_;refine bV f2 rfl (by show 2<100000;decide) ?_;intro S12 WD j1 j2 K12 f4 f5 J1 J2 o7 o8 o9 o10;refine BM ?_;refine IY ?_;refine Qr (a:=.lst []) (b:=.lst []) (λt Q q=>by symm;exact q) (λt Q q=>by symm;exact q) f4 rfl (by show 3<100000;decide) ?_;intro S13 PD K13 f6 f7 o11 o12;refine BM ?_;refine IY ?_;refine Qr (a:=.int 0) (b:=.int 0) (λt Q q=>wC q) (λt Q q=>wC q) f6 rfl (by show 4<100000;decide) ?_;intro S14 TD K14 f8 f9 o13 o14;refine BM ?_;refine IY ?_;refine Qr (a:=.int 0) (b:=.int 0) (λt Q q=>wC q) (λt Q q=>wC q) f8 rfl (by show 5<100000;decide) ?_;intro S15 ED K15 f10 f11 o15 o16;symm;refine QE (AM f10) rfl (by show 6<100000;decide) ?_;have hl15:=AO f10;have f12:=AN (o':=.dct (Eo (H+2) SD WD PD TD ED S15.length)) (AM (o:=.lst []) f10);have K16:Kx [H+1] S15 ((S15++[Ob.lst []]).set (H+1) (.dct (Eo (H+2) SD WD PD TD ED S15.length))):=(Kx.refl.gr Gr.app).set (by simp);have f13:((S15++[Ob.lst []]).set (H+1) (.dct (Eo (H+2) SD WD PD TD ED S15.length)))[S15.length]?=some (.lst []):=Ae AU ∅;show DM _ _ Out.next ⟨_,(S15++[Ob.lst []]).set (H+1) (.dct (Eo (H+2) SD WD PD TD ED S15.length))⟩;obtain⟨HD,hHD⟩:∃HD,HD=S15.length:=⟨_,rfl⟩;rw[<-hHD] at f12 f13 K16⊢;generalize (S15++[Ob.lst []]).set (H+1) (.dct (Eo (H+2) SD WD PD TD ED HD))=S16 at f12 f13 K16⊢;symm;have T15:=K15.trans K16;have T14:=K14.trans T15;have T13:=K13.trans T14;have T12:=K12.trans T13;have T11:=K11.trans T12;have hk2:∀(o:Str) (d:D),([((.inr (Str.ofString "lastings"):Key),D.obj (H+2))]++[(.inr (Str.ofString "sides"),.obj SD)])≠d1 o d:=λo d z=>absurd (lD List.length z) (by show ¬(2=1);decide);have nm:∀{i:Nat},i≠H+1->i∉[H+1]:=λh z=>h (ue7.mp z);refine⟨H+1,H+2,SD,WD,PD,TD,ED,HD,⟨H+3,L1,W1,P1,q1,kb1,lb1,Wb1,Pb1,j1,0,0,0,0,[],[],[]⟩,⟨K2,Ly,W2,P2,q2,kb2,lb2,Wb2,Pb2,j2,0,0,0,0,[],[],[]⟩,rfl,?_⟩;have g0:=hg.ne;have r1:=T11.get (nm (show q1≠H+1 by lia)) R1;have r2:=T11.get (nm (show q2≠H+1 by lia)) R2;have r3:=T13.get (nm (show j1≠H+1 by lia)) J1;have r4:=T13.get (nm (show j2≠H+1 by lia)) J2;exact
  {a:=⟨⟨B11.kx1 f2 (hk2 _) T12,X1.kx1 f2 (hk2 _) T12,r1,n1,by show lb1≠q1;lia,by show lb1≠L1;lia⟩,r3,g0,ul4 _,ul4 _⟩
   b:=⟨⟨B21.kx1 f2 (hk2 _) T12,X2.kx1 f2 (hk2 _) T12,r2,n2,by show lb2≠q2;lia,by show lb2≠Ly;lia⟩,r4,g0,ul4 _,ul4 _⟩
   ab:=by show H+3≠K2;lia
   bb:=by show kb1≠kb2;lia
   nd:=by
    show [L1,lb1,q1,j1,Ly,lb2,q2,j2,HD].Nodup;simp only[ui0,uj7,uh1,lG,lL,uj4,kh,and_true];omega
   dd:=by
    simp only[ui0,uj7,uh1,lG,lL,uj4,kh,and_true];omega
   d:=⟨f12,T11.get (nm ∅) f1,T12.get (nm ∅) f3,T13.get (nm ∅) f5,T14.get (nm ∅) f7,T15.get (nm ∅) f9,K16.get (nm ∅) f11,f13⟩
   held:=λ_ z=>nomatch z
   hl:=ul4 _
   sa:=ul4 _
   sb:=ul4 _
   wa:=ul4 _
   wb:=ul4 _}
section
variable{LD SD WD PD TD ED HD hd:Nat}
theorem hG1:Bb (Eo LD SD WD PD TD ED HD) (.inr (Str.ofString "lastings"))=some (.obj LD):=rfl
theorem hG2:Bb (Eo LD SD WD PD TD ED HD) (.inr (Str.ofString "sides"))=some (.obj SD):=rfl
theorem hG3:Bb (Eo LD SD WD PD TD ED HD) (.inr (Str.ofString "wires"))=some (.obj WD):=rfl
theorem hG4:Bb (Eo LD SD WD PD TD ED HD) (.inr (Str.ofString "spoken"))=some (.obj PD):=rfl
theorem hG5:Bb (Eo LD SD WD PD TD ED HD) (.inr (Str.ofString "taken"))=some (.obj TD):=rfl
theorem hG6:Bb (Eo LD SD WD PD TD ED HD) (.inr (Str.ofString "least"))=some (.obj ED):=rfl
theorem hG7:Bb (Eo LD SD WD PD TD ED HD) (.inr (Str.ofString "held"))=some (.obj HD):=rfl
variable{S S':List Ob}{g:List GS}{x o:Str}{A B:Sd7}{hs hs':List D}{n:Nat}
theorem Hd7.keep(R:Hd7 S x hd LD SD WD PD TD ED HD A B hs)(K:Kx F S S')(h:∀i∈F,((∃ds,S[i]?=some (.lst ds))/\i≠HD)\/∃n fs,S[i]?=some (.ins n fs)):Hd7 S' x hd LD SD WD PD TD ED HD A B hs:=by
 have d:∀{c:Nat}{kv:List (Key×D)},S[c]?=some (.dct kv)->S'[c]?=some (.dct kv):=λ{c kv} e=>K.get (λz=>by rcases h c z with⟨⟨_,q⟩,_⟩|⟨_,_,q⟩<;>(rw[e] at q;cases q)) e
 exact⟨d R.e0,d R.e1,d R.e2,d R.e3,d R.e4,d R.e5,d R.e6,K.get (λz=>by rcases h _ z with⟨_,q⟩|⟨_,_,q⟩;exact q rfl;rw[R.e7] at q;cases q) R.e7⟩
variable(R:Hd7 S x hd LD SD WD PD TD ED HD A B hs)(dd:[hd,LD,SD,WD,PD,TD,ED].Nodup)
include R dd
theorem Hd7.sPD{sd:List Nat}:Hd7 (S.set PD (.dct (lx x (.lst (wD sd)) (.lst (wD B.sd))))) x hd LD SD WD PD TD ED HD {A with sd:=sd} B hs:=by
 obtain⟨⟨a01,a02,a03,a04,a05,a06⟩,⟨a12,a13,a14,a15,a16⟩,⟨a23,a24,a25,a26⟩,⟨a34,a35,a36⟩,⟨a45,a46⟩,a56⟩:(hd≠LD/\hd≠SD/\hd≠WD/\hd≠PD/\hd≠TD/\hd≠ED)/\(LD≠SD/\LD≠WD/\LD≠PD/\LD≠TD/\LD≠ED)/\(SD≠WD/\SD≠PD/\SD≠TD/\SD≠ED)/\(WD≠PD/\WD≠TD/\WD≠ED)/\(PD≠TD/\PD≠ED)/\TD≠ED:=by simpa using dd
 exact⟨Ae R.e0 (Ne.symm a04),Ae R.e1 (Ne.symm a14),Ae R.e2 (Ne.symm a24),Ae R.e3 (Ne.symm a34),AN R.e4,Ae R.e5 a45,Ae R.e6 a46,Ae R.e7 (CA R.e4 R.e7)⟩
theorem Hd7.sTD:Hd7 (S.set TD (.dct (lx x (.int (tk:Nat)) (.int (B.tk:Nat))))) x hd LD SD WD PD TD ED HD {A with tk:=tk} B hs:=by
 obtain⟨⟨a01,a02,a03,a04,a05,a06⟩,⟨a12,a13,a14,a15,a16⟩,⟨a23,a24,a25,a26⟩,⟨a34,a35,a36⟩,⟨a45,a46⟩,a56⟩:(hd≠LD/\hd≠SD/\hd≠WD/\hd≠PD/\hd≠TD/\hd≠ED)/\(LD≠SD/\LD≠WD/\LD≠PD/\LD≠TD/\LD≠ED)/\(SD≠WD/\SD≠PD/\SD≠TD/\SD≠ED)/\(WD≠PD/\WD≠TD/\WD≠ED)/\(PD≠TD/\PD≠ED)/\TD≠ED:=by simpa using dd
 exact⟨Ae R.e0 (Ne.symm a05),Ae R.e1 (Ne.symm a15),Ae R.e2 (Ne.symm a25),Ae R.e3 (Ne.symm a35),Ae R.e4 (Ne.symm a45),AN R.e5,Ae R.e6 a56,Ae R.e7 (CA R.e5 R.e7)⟩
theorem Hd7.sED{ls:Nat}:Hd7 (S.set ED (.dct (lx x (.int (ls:Nat)) (.int (B.ls:Nat))))) x hd LD SD WD PD TD ED HD {A with ls:=ls} B hs:=by
 obtain⟨⟨a01,a02,a03,a04,a05,a06⟩,⟨a12,a13,a14,a15,a16⟩,⟨a23,a24,a25,a26⟩,⟨a34,a35,a36⟩,⟨a45,a46⟩,a56⟩:(hd≠LD/\hd≠SD/\hd≠WD/\hd≠PD/\hd≠TD/\hd≠ED)/\(LD≠SD/\LD≠WD/\LD≠PD/\LD≠TD/\LD≠ED)/\(SD≠WD/\SD≠PD/\SD≠TD/\SD≠ED)/\(WD≠PD/\WD≠TD/\WD≠ED)/\(PD≠TD/\PD≠ED)/\TD≠ED:=by simpa using dd
 exact⟨Ae R.e0 (Ne.symm a06),Ae R.e1 (Ne.symm a16),Ae R.e2 (Ne.symm a26),Ae R.e3 (Ne.symm a36),Ae R.e4 (Ne.symm a46),Ae R.e5 (Ne.symm a56),AN R.e6,Ae R.e7 (CA R.e6 R.e7)⟩
theorem Hd7.sWD{z:List Nat}:Hd7 (S.set WD (.dct (lx x (.obj A.j) (.obj j)))) x hd LD SD WD PD TD ED HD A {B with j:=j,z:=z} hs:=by
 obtain⟨⟨a01,a02,a03,a04,a05,a06⟩,⟨a12,a13,a14,a15,a16⟩,⟨a23,a24,a25,a26⟩,⟨a34,a35,a36⟩,⟨a45,a46⟩,a56⟩:(hd≠LD/\hd≠SD/\hd≠WD/\hd≠PD/\hd≠TD/\hd≠ED)/\(LD≠SD/\LD≠WD/\LD≠PD/\LD≠TD/\LD≠ED)/\(SD≠WD/\SD≠PD/\SD≠TD/\SD≠ED)/\(WD≠PD/\WD≠TD/\WD≠ED)/\(PD≠TD/\PD≠ED)/\TD≠ED:=by simpa using dd
 exact⟨Ae R.e0 (Ne.symm a03),Ae R.e1 (Ne.symm a13),Ae R.e2 (Ne.symm a23),AN R.e3,Ae R.e4 a34,Ae R.e5 a35,Ae R.e6 a36,Ae R.e7 (CA R.e3 R.e7)⟩
end
theorem GI{A:Sd7}{i:Nat}{x:Str}{a b:D}(e:S[i]?=some (.dct (lx x a b))):∀c∈[i],Out7 S A c:=λc hc=>by
 rw[ue7] at hc;subst hc;exact .inr (.inr ⟨_,e,by show ¬(2=1);decide⟩)
theorem Iy{i:Nat}{b:Ob}:Kx [i] S (S.set i b):=Kx.refl.set (by simp)
theorem Uh{u:D}{i:Nat}{b:Ob}(R:Hl7 S F u)(e:S[i]?=some (.dct kv)):Hl7 (S.set i b) F u:=R.keep Iy λc hc z9=>by
 obtain⟨_,z⟩:=z9;rw[ue7] at hc;subst hc;rw[e] at z
 cases z
def dE(S':List Ob)(g:List GS)(x o:Str)(hd LD SD WD PD TD ED HD:Nat)(A B:Sd7)(hs:List D):Prop:=
 ∃(y:List Nat) (i:Nat) (s:Str) (t:List D) (h' a1 b1:Nat),(A.w++y).length<=24000/\w1 g o (A.w++y) ((A.w++y).length+1) A.h A.a []=(t,h',a1,b1,some (i,s))/\Ins S' "Lasting" (lE A.q A.tk A.ls) g x o A.h A.a (A.w++y) A.k A.l A.W A.P/\S'[A.q]?=some (.lst (wD A.sd))/\Hd7 S' x hd LD SD WD PD TD ED HD A B hs
def dD(S':List Ob)(g:List GS)(x o:Str)(hd LD SD WD PD TD ED HD n:Nat)(A B:Sd7)(hs:List D)(r:D):Prop:=
 (r=.str "good"/\∃(A' B':Sd7) (hs':List D),HI7 S' g x o hd LD SD WD PD TD ED HD (n+1) A' B' hs')\/(r=.str "broken"/\dE S' g x o hd LD SD WD PD TD ED HD A B hs)
theorem o_l{A:Sd7}{i:Nat}(e:S[i]?=some (.lst ds))(h1:i≠A.l)(h2:i≠A.lb)(h3:i≠A.q)(h4:i≠A.j):Out7 S A i:=.inl ⟨⟨_,e⟩,by simp only[uj7,uh1,lG,lL];exact⟨h1,h2,h3,h4⟩⟩
theorem o_i{A:Sd7}{i:Nat}{n:Str}{fs:List (Str×D)}(e:S[i]?=some (.ins n fs))(h1:i≠A.k)(h2:i≠A.kb):Out7 S A i:=.inr (.inl ⟨⟨_,_,e⟩,h1,h2⟩)
theorem Qf{p:Nat->Prop}{c d:Nat}(h1:p a)(h2:p b)(h3:p c)(h4:p d):∀i∈[a,b,c,d],p i:=by simp only[ud4];exact⟨h1,h2,h3,h4,λ_ z=>nomatch z⟩
theorem Uv{p:Nat->Prop}{c d e:Nat}(h1:p a)(h2:p b)(h3:p c)(h4:p d)(h5:p e):∀i∈[a,b,c,d,e],p i:=by simp only[ud4];exact⟨h1,h2,h3,h4,h5,λ_ z=>nomatch z⟩
theorem Ok7.kk{g':List GS}{x o x' o':Str}{A:Sd7}(R:Ok7 S g x o A)(Q:Ok7 S g' x' o' B):A.kb≠B.k:=AD R.b.B.ik Q.b.L.ik λz=>by injection z with z _;exact absurd z (by decide)
theorem NO{i:Nat}{n:Str}{fs:List (Str×D)}{p:Prop}(e:S[i]?=some (.ins n fs)):(∃ds,S[i]?=some (.lst ds))->p:=λ⟨_,z⟩=>by rw[e] at z;cases z
theorem Hd7.keepH{x:Str}{A:Sd7}{hs':List D}(R:Hd7 S x hd LD SD WD PD TD ED HD A B hs)(K:Kx F S S')(h:∀i∈F,(∃ds,S[i]?=some (.lst ds))\/∃n fs,S[i]?=some (.ins n fs))(e:S'[HD]?=some (.lst hs')):Hd7 S' x hd LD SD WD PD TD ED HD A B hs':=by
 have d:∀{c:Nat}{kv:List (Key×D)},S[c]?=some (.dct kv)->S'[c]?=some (.dct kv):=λ{c kv} e=>K.get (λz=>by rcases h c z with⟨_,q⟩|⟨_,_,q⟩<;>(rw[e] at q;cases q)) e
 exact⟨d R.e0,d R.e1,d R.e2,d R.e3,d R.e4,d R.e5,d R.e6,e⟩
theorem Hd7.gr{x:Str}{A:Sd7}(R:Hd7 S x hd LD SD WD PD TD ED HD A B hs)(G:Gr S S'):Hd7 S' x hd LD SD WD PD TD ED HD A B hs:=⟨G.get R.e0,G.get R.e1,G.get R.e2,G.get R.e3,G.get R.e4,G.get R.e5,G.get R.e6,G.get R.e7⟩
theorem Ok7.gr{S S':List Ob}{g:List GS}{x o:Str}{A:Sd7}(R:Ok7 S g x o A)(G:Gr S S'):Ok7 S' g x o A:=⟨R.b.gr G,G.get R.j,R.hh,R.ha,R.ls⟩
theorem bG(hc:F7 c)(hcn:Fl c)(hv:JF cv 3)(hcL:E4 cL)(hcS:GZ cS)(hb:JC cb)(hbn:MZ cb){S:List Ob}{g:List GS}{x o:Str}{hd LD SD WD PD TD ED HD n:Nat}{A B:Sd7}{hs:List D}{cell:Int}(hg:GOk g)(ht:∀s∈g,Tin s)(ho:Two x o)(hn:n<=100)(R:HI7 S g x o hd LD SD WD PD TD ED HD n A B hs) :
 Wf (fnOf 5 12 (FC (fnOf 5 11 (CP (fnOf 3 6 (Cs (fnOf 3 4 (Bz c)) (fnOf 3 3 (BV c)))) (fnOf 1 1 Be) (fnOf 4 9 (CJ cv)))) (fnOf 5 12 (Cz (fnOf 2 5 (Bm cL cS)))) (fnOf 4 7 (BH cb)))) [.obj hd,.lst (g.map GS.d),.str x,.str o,.int cell] S λr S'=>dD S' g x o hd LD SD WD PD TD ED HD n A B hs r:=by
 have hL:LIM=100000:=rfl;have hsa:=R.sa;have hsb:=R.sb;have hwa:=R.wa;have hwb:=R.wb;obtain⟨⟨n01,n02,n03,n04,n05,n06,n07,n08⟩,⟨n12,n13,n14,n15,n16,n17,n18⟩,⟨n23,n24,n25,n26,n27,n28⟩,⟨n34,n35,n36,n37,n38⟩,⟨n45,n46,n47,n48⟩,⟨n56,n57,n58⟩,⟨n67,n68⟩,n78⟩:(A.l≠A.lb/\A.l≠A.q/\A.l≠A.j/\A.l≠B.l/\A.l≠B.lb/\A.l≠B.q/\A.l≠B.j/\A.l≠HD)/\(A.lb≠A.q/\A.lb≠A.j/\A.lb≠B.l/\A.lb≠B.lb/\A.lb≠B.q/\A.lb≠B.j/\A.lb≠HD)/\(A.q≠A.j/\A.q≠B.l/\A.q≠B.lb/\A.q≠B.q/\A.q≠B.j/\A.q≠HD)/\(A.j≠B.l/\A.j≠B.lb/\A.j≠B.q/\A.j≠B.j/\A.j≠HD)/\(B.l≠B.lb/\B.l≠B.q/\B.l≠B.j/\B.l≠HD)/\(B.lb≠B.q/\B.lb≠B.j/\B.lb≠HD)/\(B.q≠B.j/\B.q≠HD)/\B.j≠HD:=by simpa[Ls7] using R.nd
 have up:41*n<=41*(n+1):=Nat.mul_le_mul_left _ (ul6 n);rw[9,FC];rw[6,AS R.d.e0 hG1];rw[6,AS R.d.e1 (EB ho)];rw[6,AS R.d.e0 hG3];rw[6,AS R.d.e3 (EB ho)];refine CZ (λc5=>?_) λc5=>?_
 .symm;rw[6,FX R.a.j];rw[6,AS R.d.e0 hG2];rw[6,AS R.d.e2 (EB ho)];refine(Zp hc hcn hv hg ht ho R.a.hh ∅ ∅ R.a.b R.a.j (Ne.symm n03) (Ne.symm n13) (Ne.symm n23)).mono ?_;rintro r S1 ⟨rfl,h',y,hh',hyl,B1,hj1,K1⟩;have Bo:=R.b.keep K1 (Qf (o_i R.a.b.L.ik R.ab (Ne.symm (R.b.kk R.a))) (o_i R.a.b.B.ik (R.a.kk R.b) R.bb) (o_l R.a.b.iq n24 n25 n26 n27) (o_l R.a.j n34 n35 n36 n37));have D1:=R.d.keep K1 (Qf (.inr ⟨_,_,R.a.b.L.ik⟩) (.inr ⟨_,_,R.a.b.B.ik⟩) (.inl ⟨⟨_,R.a.b.iq⟩,n28⟩) (.inl ⟨⟨_,R.a.j⟩,n38⟩));have H1:∀u∈hs,Hl7 S1 (Ls7 A B HD) u:=λu hu=>(R.held u hu).keep K1 (Qf (NO R.a.b.L.ik) (NO R.a.b.B.ik) (λ_=>by simp) (λ_=>by simp));have A1:Ok7 S1 g x o {A with h:=h',sd:=A.sd++y,z:=A.z++y}:=⟨B1,hj1,hh',R.a.ha,by show A.ls<=(A.sd++y).length;have:=R.a.ls;rw[ue5];lia⟩;have sl:(A.sd++y).length<=41*(n+1):=by rw[ue5];lia
  have wl:B.w.length+(A.z++y).length<=41*(n+1):=by rw[ue5];lia
  have hln:=R.hl;symm;rw[6,AS D1.e0 hG4];rw[6,AS D1.e4 (EB ho)];refine aW hj1 ?_;rw[Bj,Ih,List.drop_left];symm;refine DF (by rw[Bj,Bj,hL];lia) ?_;rw[<-Lb];symm;rw[6,AS D1.e0 hG4];refine Em D1.e4 (by show 2<100000;decide) ?_;rw[Qb ho];symm;exact .inl ⟨rfl,{A with h:=h',sd:=A.sd++y,z:=A.z++y},B,hs,
   {a:=A1.keep Iy (GI D1.e4)
    b:=Bo.keep Iy (GI D1.e4)
    ab:=R.ab
    bb:=R.bb
    nd:=R.nd
    dd:=R.dd
    d:=have D:=D1.sPD (sd:=A.sd++y) R.dd;⟨D.e0,D.e1,D.e2,D.e3,D.e4,D.e5,D.e6,D.e7⟩
    held:=λu hu=>Uh (H1 u hu) D1.e4
    hl:=Nat.le_succ_of_le hln
    sa:=sl
    sb:=uk9 hsb up
    wa:=uk9 hwa up
    wb:=wl}⟩
 .symm;refine CZ (λc5=>?_) λc5=>?_
  .symm;rw[6,AS R.d.e0 hG5];rw[6,AS R.d.e5 (EB ho)];rw[6,AS R.d.e0 hG2];rw[6,AS R.d.e2 (EB ho)];rw[6,AS R.d.e0 hG3];rw[6,AS R.d.e3 (Zr ho)];rw[6,AS R.d.e0 hG7];have hln:=R.hl;refine(WO hcL hcS hg ho R.a.hh R.a.ha ∅ R.a.b R.b.j R.d.e7 (Ne.symm n08) (Ne.symm n18) (Ne.symm n28) ∅).mono ?_;rintro r S1 (⟨rfl,y,i,s,t,h',a1,b1,hyz,hZ,L1,K1⟩|⟨h',a',T,P',Pb',y,t,hyz,rfl,hh',ha',B1,hTl,hT,htq,htl,hm1,K1⟩)
   .symm;exact .inr ⟨rfl,y,i,s,t,h',a1,b1,by rw[ue5];lia,hZ,L1,K1.get (by simp only[uj7,uh1,lG,lL];exact⟨Ne.symm (Bi R.a.b.L.ik R.a.b.iq),Ne.symm n02,Ne.symm (Bi R.a.b.B.ik R.a.b.iq),Ne.symm n12⟩) R.a.b.iq,R.d.keep K1 (Qf (.inr ⟨_,_,R.a.b.L.ik⟩) (.inl ⟨⟨_,R.a.b.L.il⟩,n08⟩) (.inr ⟨_,_,R.a.b.B.ik⟩) (.inl ⟨⟨_,R.a.b.B.il⟩,n18⟩))⟩
   .have K1l:=K1.1;have Bo:=R.b.keep K1 (Uv (o_i R.a.b.L.ik R.ab (Ne.symm (R.b.kk R.a))) (o_l R.a.b.L.il n04 n05 n06 n07) (o_i R.a.b.B.ik (R.a.kk R.b) R.bb) (o_l R.a.b.B.il n14 n15 n16 n17) (o_l R.d.e7 (Ne.symm n48) (Ne.symm n58) (Ne.symm n68) (Ne.symm n78)));have D1:=R.d.keepH K1 (Uv (.inr ⟨_,_,R.a.b.L.ik⟩) (.inl ⟨_,R.a.b.L.il⟩) (.inr ⟨_,_,R.a.b.B.ik⟩) (.inl ⟨_,R.a.b.B.il⟩) (.inl ⟨_,R.d.e7⟩)) hm1;have H1:∀u∈hs,Hl7 S1 (Ls7 A B HD) u:=λu hu=>(R.held u hu).keep K1 (Uv (NO R.a.b.L.ik) (λ_=>by simp) (NO R.a.b.B.ik) (λ_=>by simp) (λ_=>by simp));have A1:Ok7 S1 g x o {A with h:=h',a:=a',w:=A.w++y,tk:=A.tk+y.length,P:=P',Pb:=Pb'}:=⟨B1,K1.get (by simp only[uj7,uh1,lG,lL];exact⟨Ne.symm (Bi R.a.b.L.ik R.a.j),Ne.symm n03,Ne.symm (Bi R.a.b.B.ik R.a.j),Ne.symm n13,n38⟩) R.a.j,hh',ha',R.a.ls⟩;symm;rw[6,QU];rw[6,AS D1.e0 hG3];rw[6,AS D1.e3 (Zr ho)];rw[show(A.tk:Int)+(y.length:Int)-(A.tk:Int)=((y.length:Nat):Int) by lia];refine QV Bo.j ?_;rw[Ih];symm;generalize hT2:S1++[Ob.lst (wD (B.z.drop y.length))]=T2;have G9:Gr S1 T2:=by rw[<-hT2];exact Gr.app
    have D2:=D1.gr G9;have Bo2:Ok7 T2 g o x {B with j:=S1.length,z:=B.z.drop y.length}:=⟨Bo.b.gr G9,by rw[<-hT2];exact AU,Bo.hh,Bo.ha,Bo.ls⟩;have D3:=D2.sWD (j:=S1.length) (z:=B.z.drop y.length) R.dd;rw[6,AS D2.e0 hG3];refine Em D2.e3 (by show 2<100000;decide) ?_;rw[bJ ho];have k9:Kx [WD] T2 (T2.set WD (.dct (lx x (.obj A.j) (.obj S1.length)))):=Iy;show DM _ _ Out.next ⟨_,T2.set WD (.dct (lx x (.obj A.j) (.obj S1.length)))⟩;generalize T2.set WD (.dct (lx x (.obj A.j) (.obj S1.length)))=S3 at D3 k9⊢;have A3:=(A1.gr G9).keep k9 (GI D2.e3);have Bo3:=Bo2.keep k9 (GI D2.e3);have hk9:∀{F:List Nat}{u:D},Hl7 T2 F u->Hl7 S3 F u:=λh=>h.keep k9 λc hc z9=>by
     obtain⟨_,z⟩:=z9;rw[ue7.mp hc,D2.e3] at z
     cases z
    have gl1:∀{c:Nat}{b:Ob},S[c]?=some b->c≠S1.length/\T≠c:=λe=>by have:=AO e;lia
    have H3:∀u∈hs++[.tup [.obj T,.lst (t++[.str "told"])]],Hl7 S3 [A.l,A.lb,A.q,A.j,B.l,B.lb,B.q,S1.length,HD] u:=λu hu=>by
     rcases uh5.mp hu with hu|hu
     .clear 5(H1 u hu)T2 t2 e1 e2 e3 e4;refine hk9 ⟨T2,t2,e1,G9.get e2,?_,e4⟩;have:=AO e2;simp only[Ls7,uj7,uh1,lG,lL] at e3⊢;exact⟨e3.1,e3.2.1,e3.2.2.1,e3.2.2.2.1,e3.2.2.2.2.1,e3.2.2.2.2.2.1,e3.2.2.2.2.2.2.1,uk8 this,e3.2.2.2.2.2.2.2.2⟩
     .refine hk9 ⟨T,_,ue7.mp hu,G9.get hT,?_,λd hd=>?_⟩
      .simp only[uj7,uh1,lG,lL];exact⟨(gl1 R.a.b.L.il).2,(gl1 R.a.b.B.il).2,(gl1 R.a.b.iq).2,(gl1 R.a.j).2,(gl1 R.b.b.L.il).2,(gl1 R.b.b.B.il).2,(gl1 R.b.b.iq).2,uk8 (AO hT),(gl1 R.d.e7).2⟩
      .rcases uh5.mp hd with q|q
       .exact htq d q
       .rw[ue7.mp q];exact IP
    have wl:(A.w++y).length+(B.z.drop y.length).length<=41*(n+1):=by rw[ue5,ug5];lia
    have nd3:[A.l,A.lb,A.q,A.j,B.l,B.lb,B.q,S1.length,HD].Nodup:=by
     simp only[ui0,uj7,uh1,lG,lL,uj4,kh,and_true];exact⟨⟨n01,n02,n03,n04,n05,n06,(gl1 R.a.b.L.il).1,n08⟩,⟨n12,n13,n14,n15,n16,(gl1 R.a.b.B.il).1,n18⟩,⟨n23,n24,n25,n26,(gl1 R.a.b.iq).1,n28⟩,⟨n34,n35,n36,(gl1 R.a.j).1,n38⟩,⟨n45,n46,(gl1 R.b.b.L.il).1,n48⟩,⟨n56,(gl1 R.b.b.B.il).1,n58⟩,⟨(gl1 R.b.b.iq).1,n68⟩,Ne.symm (gl1 R.d.e7).1⟩
    symm;rw[6,AS D3.e0 hG5];refine Em D3.e5 (by show 2<100000;decide) ?_;rw[Qb ho,show(A.tk:Int)+(y.length:Int)=((A.tk+y.length:Nat):Int) from(Int.natCast_add _ _).symm];show DM _ _ Out.next ⟨_,S3.set TD (.dct (lx x (.int ((A.tk+y.length:Nat):Int)) (.int (B.tk:Nat))))⟩;symm;exact .inl ⟨rfl,{A with h:=h',a:=a',w:=A.w++y,tk:=A.tk+y.length,P:=P',Pb:=Pb'},{B with j:=S1.length,z:=B.z.drop y.length},hs++[.tup [.obj T,.lst (t++[.str "told"])]],
     {a:=A3.keep Iy (GI D3.e5)
      b:=Bo3.keep Iy (GI D3.e5)
      ab:=R.ab
      bb:=R.bb
      nd:=nd3
      dd:=R.dd
      d:=have D:=D3.sTD (tk:=A.tk+y.length) R.dd;⟨D.e0,D.e1,D.e2,D.e3,D.e4,D.e5,D.e6,D.e7⟩
      held:=λu hu=>Uh (H3 u hu) D3.e5
      hl:=by rw[ue5];exact Nat.succ_le_succ hln
      sa:=uk9 hsa up
      sb:=uk9 hsb up
      wa:=wl
      wb:=uk9 hwb up}⟩
  .symm;rw[6,AS R.d.e0 hG4];rw[6,AS R.d.e4 (EB ho)];rw[6,AS R.d.e0 hG6];rw[6,AS R.d.e6 (EB ho)];refine(Zq hb hbn ∅ R.a.ls R.a.b.iq R.a.b.L).mono ?_;rintro r S1 ⟨ls',rfl,hl1,hl2,K1,L1⟩;have me:∀{p:Nat->Prop},p A.k->∀i∈[A.k],p i:=λh i hi=>by rw[ue7] at hi;rw[hi];exact h
   have Bo:=R.b.keep K1 (me (o_i R.a.b.L.ik R.ab (Ne.symm (R.b.kk R.a))));have D1:=R.d.keep K1 (me (.inr ⟨_,_,R.a.b.L.ik⟩));have H1:∀u∈hs,Hl7 S1 (Ls7 A B HD) u:=λu hu=>(R.held u hu).keep K1 (me (NO R.a.b.L.ik));have nk:∀{c:Nat},c≠A.k->c∉[A.k]:=λh z=>h (ue7.mp z);have A1:Ok7 S1 g x o {A with ls:=ls'}:=⟨⟨L1,R.a.b.B.keep K1 (nk R.a.b.kk) (nk (Ne.symm (Bi R.a.b.L.ik R.a.b.B.il))) (nk (EM R.a.b.B.iw R.a.b.L.ik)) (nk (EM R.a.b.B.ip R.a.b.L.ik)),K1.get (nk (Ne.symm (Bi R.a.b.L.ik R.a.b.iq))) R.a.b.iq,R.a.b.lq,R.a.b.bq,R.a.b.bl⟩,K1.get (nk (Ne.symm (Bi R.a.b.L.ik R.a.j))) R.a.j,R.a.hh,R.a.ha,hl2⟩;have hln:=R.hl;symm;rw[6,AS D1.e0 hG6];refine Em D1.e6 (by show 2<100000;decide) ?_;rw[Qb ho];symm;exact .inl ⟨rfl,{A with ls:=ls'},B,hs,
    {a:=A1.keep Iy (GI D1.e6)
     b:=Bo.keep Iy (GI D1.e6)
     ab:=R.ab
     bb:=R.bb
     nd:=R.nd
     dd:=R.dd
     d:=D1.sED R.dd
     held:=λu hu=>Uh (H1 u hu) D1.e6
     hl:=Nat.le_succ_of_le hln
     sa:=uk9 hsa up
     sb:=uk9 hsb up
     wa:=uk9 hwa up
     wb:=uk9 hwb up}⟩
theorem lwhole7{i:Int}:PureO S (fnOf 1 1 C7) [.int i] (.bl true):=by
 rw[9,C7];exact⟨rfl,rfl⟩
theorem S7{n:Str}{x o:Str}{k l W P:Nat}(R:Ins S n E g x o h a w k l W P):PureO S (fnOf 1 1 Be) [.obj k] (.int (h:Nat)):=by
 rw[9,Be];refine BG R.ik rfl ?_;exact⟨rfl,rfl⟩
theorem SZ{x o:Str}{A:Sd7}(ho:Two x o)(R:HI7 S g x o hd LD SD WD PD TD ED HD n A B hs){e1 e2:Option Sl}{K:Out->T->Prop}(h:∀e1 e2,K .next ⟨[vw (.obj hd),e1,e2],S⟩) :
 L2.W (Au 1 (.str x)) ⟨[vw (.obj hd),e1,e2],S⟩ λ_ t1=>L2.W (Ag (Ar 2 (AR "Lasting" (fnOf 1 1 BA) (Ac (Ac (Aa 0) (fC (.str "lastings")) Az) (Aa 1) Az) (ret [])))
 (Ag (ifS (fOr (CK (Ai (Aj (fnOf 1 1 C7) (Ab (Aa 2) Ad)))) (Ai (Ac (Aa 2) (Ac (Ac (Aa 0) (fC (.str "taken")) Az) (Aa 1) Az) (eqS λb=>!b))))
   (Al (fC (.bl false)))
   Aq)
 (ifS (Ai (Ac (AR "Lasting" (fnOf 1 1 Be) (Ac (Ac (Aa 0) (fC (.str "lastings")) Az) (Aa 1) Az) (ret [])) (AR "Side" (fnOf 1 1 Be) (Ac (Ac (Aa 0) (fC (.str "sides")) Az) (Aa 1) Az) (ret [])) (eqS λb=>!b)))
   (Al (fC (.bl false)))
   Aq))) t1 K:=by
 symm;rw[6,AS R.d.e0 hG1];rw[6,AS R.d.e1 (EB ho)];refine⟨A.k,_,rfl,R.a.b.L.ik,W_ret.mpr ?_⟩;rw[6,(LG R.a.b.L).use];rw[6,lwhole7.use];rw[6,AS R.d.e0 hG5];rw[6,AS R.d.e5 (EB ho)];rw[6,DV (by simp)];rw[6,AS R.d.e0 hG1];rw[6,AS R.d.e1 (EB ho)];refine⟨A.k,_,rfl,R.a.b.L.ik,W_ret.mpr ?_⟩;rw[6,(S7 R.a.b.L).use];rw[6,AS R.d.e0 hG2];rw[6,AS R.d.e2 (EB ho)];refine⟨A.kb,_,rfl,R.a.b.B.ik,W_ret.mpr ?_⟩;rw[6,(S7 R.a.b.B).use];rw[6,DV (by simp)];exact h _ _
theorem XY{A:Sd7}(R:HI7 S g sL sR hd LD SD WD PD TD ED HD n A B hs):PureO S (fnOf 1 3 (Es (fnOf 1 1 Be) (fnOf 1 1 C7) (fnOf 1 1 BA))) [.obj hd] (.bl true):=by
 have tlr:Two sL sR:=.inl ⟨rfl,rfl⟩;rw[9,Es];refine W_forL_cons.mpr ?_;refine SZ tlr R λe1 e2=>?_;refine W_forL_cons.mpr ?_;refine SZ tlr.swap (R.swap tlr) λe1 e2=>?_;rw[6,W_forL_nil.mpr];exact⟨rfl,rfl⟩
theorem VH{gd:Gd}{S:List Ob}{F:List Nat}(hg:Gon gd S):∀(hs:List D) (z0 z1:Option Sl),(∀u∈hs,Hl7 S F u)->L2.W (compG gd (unS 2 (AA (Au 0) (AA (Au 1) BL))) (Ai (Ac (Aa 0) (Aa 1) (eqT λb=>!b))) (ia 1) hs) ⟨[z0,z1],S⟩ λxs t'=>xs=[]/\t'.S=S
 |[],z0,z1,_=>GO hg ⟨rfl,rfl⟩
 |u::r,z0,z1,h=>by
   refine E5 hg ?_;obtain⟨T,t,rfl,e,_,hq⟩:=h u ue1;symm;rw[6,HN (d:=.lst t) (by simp only[CV,Cj,e]) rfl (IN hq).2 ((IN hq).1 EQD (by decide))];rw[lK (by decide)];exact VH hg r _ _ λx hx=>h x (ud1 _ hx)
theorem two7(i:Int):∃x o:Str,atI [D.str (Str.ofString "left"),.str (Str.ofString "right")] (i%2)=some (.str x)/\atI [D.str (Str.ofString "right"),.str (Str.ofString "left")] (i%2)=some (.str o)/\Two x o:=by
 have:i%2=0\/i%2=1:=by lia
 rcases this with e|e
 .rw[e];exact⟨sL,sR,rfl,rfl,.inl ⟨rfl,rfl⟩⟩
 .rw[e];exact⟨sR,sL,rfl,rfl,.inr ⟨rfl,rfl⟩⟩
def HB7(S:List Ob)(g:List GS)(hd LD SD WD PD TD ED HD n:Nat):Prop:=∃(A B:Sd7) (hs:List D),HI7 S g sL sR hd LD SD WD PD TD ED HD n A B hs
theorem HB7.of{x o:Str}{A:Sd7}(ho:Two x o)(R:HI7 S g x o hd LD SD WD PD TD ED HD n A B hs):HB7 S g hd LD SD WD PD TD ED HD n:=by
 rcases ho with⟨rfl,rfl⟩|⟨rfl,rfl⟩
 .exact⟨A,B,hs,R⟩
 .exact⟨B,A,hs,R.swap (.inr ⟨rfl,rfl⟩)⟩
theorem HB7.as{x o:Str}(ho:Two x o)(R:HB7 S g hd LD SD WD PD TD ED HD n):∃(A B:Sd7) (hs:List D),HI7 S g x o hd LD SD WD PD TD ED HD n A B hs:=by
 clear 5 R A B hs R;rcases ho with⟨rfl,rfl⟩|⟨rfl,rfl⟩
 .exact⟨A,B,hs,R⟩
 .exact⟨B,A,hs,R.swap (.inl ⟨rfl,rfl⟩)⟩
theorem Ty(hc:Fm c):JC (fnOf 2 2 (By c)):=by
 intro S g x o h a m w sd k l W P q tk hd h1 h2 hq R;rw[9,By];rw[6,BG R.ik rfl];rw[6,BG R.ik rfl];rw[6,FX hq];refine(hc (.int (m:Int)) hd (wD sd).length rfl).use ?_;rw[show DU (hd:Int) ((wD sd).length:Nat) (.int (m:Int))=true by rw[Bj];simp only[DU,ug8,uf9];lia];symm;refine Ck R.ik R.fl ?_;have R1:=R.put (h':=h) (E':=lE q tk m) R.ip (by show 3<=100;decide);have K1:Kx [k] S (S.set k (.ins "Lasting" (bsF g x h W P (lE q tk m)))):=Kx.refl.set (by simp);have q1:=Ae (o:=.ins "Lasting" (bsF g x h W P (lE q tk m))) hq (AD R.ik hq (by simp));show DM _ _ Out.next ⟨_,S.set k (.ins "Lasting" (bsF g x h W P (lE q tk m)))⟩;generalize S.set k (.ins "Lasting" (bsF g x h W P (lE q tk m)))=S1 at R1 K1 q1⊢;symm;rw[6,QU];rw[6,BG R1.ik rfl];refine QV q1 ?_;rw[Ih];symm;exact⟨rfl,S1.length,rfl,AU,K1.1,K1.gr Gr.app,R1.gr Gr.app⟩
theorem Tz(hc:Fm c):MZ (fnOf 2 2 (By c)):=by
 intro S g x o h a m w sd k l W P q tk hd h1 hq R;rw[9,By];rw[6,BG R.ik rfl];rw[6,BG R.ik rfl];rw[6,FX hq];refine(hc (.int m) hd (wD sd).length rfl).use ?_;rw[show DU (hd:Int) ((wD sd).length:Nat) (.int m)=false by rw[Bj];simp only[DU,Bool.and_eq_false_iff,decide_eq_false_iff_not];lia];symm;exact⟨rfl,rfl⟩
theorem bH{cL2 cS2 cb2 co2 cg:Fn}(hc:F7 c)(hcn:Fl c)(hv:JF cv 3)(hcL:E4 cL)(hcS:GZ cS)(hb:JC cb)(hbn:MZ cb)(hcL2:E4 cL2)(hb2:JC cb2)(hos:E3 co)(hos2:E3 co2)(hcc:Vs cc)(hgr:GrC cg){ns:List Int}(hns:ns.length<=63) :
 Wf (fnOf 1 8 (IC (fnOf 1 3 (Es (fnOf 1 1 Be) (fnOf 1 1 C7) (fnOf 1 1 BA))) (fnOf 4 6 (CW (fnOf 2 5 (Bm cL2 cS2)) cb2 (fnOf 1 1 BA))) (fnOf 5 12 (FC (fnOf 5 11 (CP (fnOf 3 6 (Cs (fnOf 3 4 (Bz c)) (fnOf 3 3 (BV c)))) (fnOf 1 1 Be) (fnOf 4 9 (CJ cv)))) (fnOf 5 12 (Cz (fnOf 2 5 (Bm cL cS)))) (fnOf 4 7 (BH cb)))) (fnOf 1 4 (Fg (GF co) (fnOf 3 3 (Ce (GF co2))))) cc cg)) [.scr ns] [] λr _=>r=.bl true:=by
 have hL:LIM=100000:=rfl;clear 5(hcc ns 0 (by decide) (by decide))c0 h0;rw[9,IC];rw[6,h0.use];have hm:=ui8 c0 (b:=6) (by decide);have hm2:=ue9 c0 (b:=6) (by decide);refine IX (DO ∅ ∅) ?_;have hcells:∀(r:List D) (z:Option Sl),(∀d∈r,∃i:Int,d=.int i/\0<=i/\i<=900)->L2.W (B8 (Au 0) EU (Aj cc (Ab (Aa 1) (Ab (Ac (ia 1) (Aa 0) AZ) Ad))) r) ⟨[z,vw (.scr ns)],[]⟩ λxs t'=>(∃is:List Int,xs=is.map D.int/\is.length=r.length)/\t'.S=[]:=by
  intro r
  induction r with
  |nil=>intro z _;exact W_compL_nil.mpr ⟨⟨[],rfl,rfl⟩,rfl⟩
  |cons d r ih=>
    intro z hz;clear 5(hz _ ue1)i rfl i0 i1;rw[E6];rw[6,Ke];rw[lJ rfl];symm;clear 5(hcc ns (1+i) ∅ ∅)ci hi;refine hi.use ?_;refine(ih _ λd hd=>hz d (ud1 _ hd)).mono ?_;rintro xs t' ⟨⟨is,rfl,e⟩,e2⟩;exact⟨⟨ci::is,rfl,by rw[ug2,ug2,e]⟩,e2⟩
 refine(hcells _ none (λd hd=>by clear 5(LS hd)i e i0 i1;exact⟨i,e,i0,by lia⟩)).mono ?_;rintro xs t' ⟨⟨is,rfl,hl⟩,et⟩;rw[ET] at hl;refine DF (by rw[uh7,hl,hL];lia) ?_;rw[et];symm;refine(hgr is [] (by rw[hl];lia) (by rw[hl];lia)).mono ?_;rintro r S0 ⟨e0,g,rfl,hg,ht⟩;subst e0;symm;refine(Zn hos hos2 hg (S0:=[])).mono ?_;rintro r S1 ⟨hd,LD,SD,WD,PD,TD,ED,HD,A0,B0,rfl,R0⟩;refine BM ?_;refine MW (t':=⟨[vw (.scr ns),vw (.lst (g.map GS.d)),vw (.obj hd),none,none,none,none,none],S1⟩) rfl ?_;have R0:=HB7.of (.inl ⟨rfl,rfl⟩) R0;symm;refine EI (λr t=>∃(n:Nat) (S:List Ob) (e3 e4 e5 e6 e7:Option Sl),HB7 S g hd LD SD WD PD TD ED HD n/\n+r.length<=63/\(∀d∈r,∃i:Int,d=.int i)/\t=⟨[vw (.scr ns),vw (.lst (g.map GS.d)),vw (.obj hd),e3,e4,e5,e6,e7],S⟩) _ _ ⟨0,S1,_,_,_,_,_,R0,?_,?_,rfl⟩ ?_ ?_
 .have:=V8 ns (some 8) (some 56);rw[uh7];lia
 .intro d hd;obtain⟨i,_,rfl⟩:=ul2.mp hd;exact⟨i,rfl⟩
 .rintro d r t ⟨n,S,e3,e4,e5,e6,e7,R,hn,hr,rfl⟩ _;clear 5(hr d ue1)i rfl;clear 5(two7 i)x o ex eo ho;rw[ug2] at hn;symm;rw[6,BJ ex];rw[6,BJ eo];clear 5(R.as ho)A B hs R';refine(bG hc hcn hv hcL hcS hb hbn hg ht ho ∅ R').mono ?_;rintro r' S2 (⟨rfl,A',B',hs',R2⟩|⟨rfl,y,i2,s,t,h',a1,b1,hyl,hZ,L1,q1,D1⟩)
  .symm;clear 5(HB7.of ho R2)A3 B3 hs3 R3;rw[6,(XY R3).use];exact⟨n+1,S2,_,_,_,_,_,⟨A3,B3,hs3,R3⟩,by lia,λd hd=>hr d (ud1 _ hd),rfl⟩
  .symm;rw[6,AS D1.e0 hG4];rw[6,AS D1.e4 (EB ho)];rw[6,AS D1.e0 hG1];rw[6,AS D1.e1 (EB ho)];rw[6,AS D1.e0 hG6];rw[6,AS D1.e6 (EB ho)];rw[6,AS D1.e0 hG5];rw[6,AS D1.e5 (EB ho)];have hsa:=R'.sa;have ha:=R'.a.ha;refine(Zm hcL2 hb2 hg ho R'.a.hh (by rw[ue5];lia) hyl ∅ R'.a.ls hZ q1 R'.a.b.lq L1).mono ?_;rintro r3 S3 rfl;symm;rfl
 .rintro t ⟨n,S,e3,e4,e5,e6,e7,⟨A,B,hs,R⟩,_,_,rfl⟩;symm;refine Oh ?_;rw[6,QL];refine AS R.d.e0 hG7 ?_;refine QM R.d.e7 ?_;refine(VH (JS R.d.e7) hs none none R.held).mono ?_;rintro xs t' ⟨rfl,et⟩;refine DF (ul5 _) ?_;rw[et];symm;rfl
end LW
namespace L2
open PySem PySem.Spec PySem.W
theorem UD{k:Kd}{P:im}{w:ir}{K:ib}{mg:Str->Option ie}{base:Heap}{n:Nat}{fa:ig}{fd:iu}{ps:List Str}:okK k P w K mg base n fa fd ps (λ_ _=>none):=by
 cases k<;>exact⟨λvs H Q E h=>(by obtain⟨c,ds,S,_,_,r,S',e,_⟩:=h;cases e),λA' outer s H args us vs Q E _ _ _ _ h=>(by obtain⟨c,ds,S,_,_,r,S',e,_⟩:=h;cases e)⟩
theorem us0{n:Nat}:∀{us:List ie},us.length=n+1->∃a vs,us=a::vs/\vs.length=n
 |_::_,h=>⟨_,_,rfl,Nat.succ.inj h⟩
section
variable{us:List ie}
theorem us1(h:us.length=1):∃a,us=[a]:=by
 clear 5(us0 h)a vs rfl q;exact⟨a,by rw[ua2 q]⟩
theorem us2(h:us.length=2):∃a b,us=[a,b]:=by
 obtain⟨_,vs,rfl,q⟩:=us0 h;obtain⟨_,rfl⟩:=us1 q;exact⟨_,_,rfl⟩
theorem us3(h:us.length=3):∃a b c,us=[a,b,c]:=by
 obtain⟨_,vs,rfl,q⟩:=us0 h;obtain⟨_,_,rfl⟩:=us2 q;exact⟨_,_,_,rfl⟩
theorem us4(h:us.length=4):∃a b c d,us=[a,b,c,d]:=by
 obtain⟨_,vs,rfl,q⟩:=us0 h;obtain⟨_,_,_,rfl⟩:=us3 q;exact⟨_,_,_,_,rfl⟩
theorem us5(h:us.length=5):∃a b c d e,us=[a,b,c,d,e]:=by
 obtain⟨_,vs,rfl,q⟩:=us0 h;obtain⟨_,_,_,_,rfl⟩:=us4 q;exact⟨_,_,_,_,_,rfl⟩
theorem us6(h:us.length=6):∃a b c d e f,us=[a,b,c,d,e,f]:=by
 obtain⟨_,vs,rfl,q⟩:=us0 h;obtain⟨_,_,_,_,_,rfl⟩:=us5 q;exact⟨_,_,_,_,_,_,rfl⟩
theorem us7(h:us.length=7):∃a b c d e f g,us=[a,b,c,d,e,f,g]:=by
 obtain⟨_,vs,rfl,q⟩:=us0 h;obtain⟨_,_,_,_,_,_,rfl⟩:=us6 q;exact⟨_,_,_,_,_,_,_,rfl⟩
end
end L2
namespace K78
open PySem L2 LW
inductive Fx where
 |Ea|C9|Bd|Fb|C8|DC|DA|DB|CO|CI|Cq|Cr|Du|Ep|Cy|BC|BS|BW|DE|BI|Dd|BN|CU|DL|Ek|DJ|DK|CT|BK|Ei|BX|Cp|Cw|Dg|De|Cm|Cn|Df|BU|Dz|CL|Cd|CH|BO|BE|BD|Dy|D9|CN|law_|AI|As|Ax|AJ|AC|Bp|A5|Ay|Av|A8|A7|AF|AT|AK|AV|AG|AB|Ao
noncomputable def top(i:Nat):Stmt:=PySem.Challenge.pw_wireparley_k78_lasting_as_a_side.main.body.getD i (.Pass ⟨0,0,0,0⟩)
noncomputable abbrev nm:Fx->Str
 |.Ea=>"_wall"
 |.C9=>"is_number"
 |.Bd=>"is_number_within"
 |.Fb=>"fits"
 |.C8=>"fits_text"
 |.DC=>"is_sign"
 |.DA=>"fits_list"
 |.DB=>"fits_pair"
 |.CO=>"fits_choice"
 |.CI=>"state_next"
 |.Cq=>"place_said"
 |.Cr=>"place_named"
 |.Du=>"words_of"
 |.Ep=>"is_end"
 |.Cy=>"grammar_copy"
 |.BC=>"fitting_bytes"
 |.BS=>"width_up_to"
 |.BW=>"number_bytes"
 |.DE=>"leading"
 |.BI=>"read_value"
 |.Dd=>"byte_at"
 |.BN=>"byte_up_to"
 |.CU=>"read_number"
 |.DL=>"read_text"
 |.Ek=>"sign_at"
 |.DJ=>"read_list"
 |.DK=>"read_pair"
 |.CT=>"read_choice"
 |.BK=>"message_bytes"
 |.Ei=>"read_on"
 |.BX=>"read_message"
 |.Cp=>"other_side"
 |.Cw=>"_law_cell_at"
 |.Dg=>"_law_whole"
 |.De=>"_law_mixed"
 |.Cm=>"_law_shape"
 |.Cn=>"_law_value"
 |.Df=>"_law_state"
 |.BU=>"_law_grammar"
 |.Dz=>"_law_said"
 |.CL=>"_law_saying"
 |.Cd=>"_law_say_good"
 |.CH=>"_law_taken"
 |.BO=>"_law_take_good"
 |.BE=>"_law_ticket_good"
 |.BD=>"_law_broken_good"
 |.Dy=>"_law_hall"
 |.D9=>"_law_act"
 |.CN=>"_law_stands"
 |.law_=>"law"
 |.AI=>"__init__"
 |.As=>"state"
 |.Ax=>"hear"
 |.AJ=>"unread_of"
 |.AC=>"__init__"
 |.Bp=>"say"
 |.A5=>"take"
 |.Ay=>"speak"
 |.Av=>"listen"
 |.A8=>"waiting"
 |.A7=>"may_say"
 |.AF=>"shape_to_say"
 |.AT=>"has_ended"
 |.AK=>"__init__"
 |.AV=>"say"
 |.AG=>"take"
 |.AB=>"ticket"
 |.Ao=>"said_behind"
abbrev ql:Fx->Str
 |.AI=>"Hearer.__init__"
 |.As=>"Hearer.state"
 |.Ax=>"Hearer.hear"
 |.AJ=>"Hearer.unread_of"
 |.AC=>"Side.__init__"
 |.Bp=>"Side.say"
 |.A5=>"Side.take"
 |.Ay=>"Side.speak"
 |.Av=>"Side.listen"
 |.A8=>"Side.waiting"
 |.A7=>"Side.may_say"
 |.AF=>"Side.shape_to_say"
 |.AT=>"Side.has_ended"
 |.AK=>"Lasting.__init__"
 |.AV=>"Lasting.say"
 |.AG=>"Lasting.take"
 |.AB=>"Lasting.ticket"
 |.Ao=>"Lasting.said_behind"
 |x=>nm x
noncomputable abbrev me:Fx->Bool
 |.AI=>true
 |.As=>true
 |.Ax=>true
 |.AJ=>true
 |.AC=>true
 |.Bp=>true
 |.A5=>true
 |.Ay=>true
 |.Av=>true
 |.A8=>true
 |.A7=>true
 |.AF=>true
 |.AT=>true
 |.AK=>true
 |.AV=>true
 |.AG=>true
 |.AB=>true
 |.Ao=>true
 |_=>false
noncomputable abbrev ow:Fx->Str
 |.AI=>"Hearer"
 |.As=>"Hearer"
 |.Ax=>"Hearer"
 |.AJ=>"Hearer"
 |.AC=>"Side"
 |.Bp=>"Side"
 |.A5=>"Side"
 |.Ay=>"Side"
 |.Av=>"Side"
 |.A8=>"Side"
 |.A7=>"Side"
 |.AF=>"Side"
 |.AT=>"Side"
 |.AK=>"Lasting"
 |.AV=>"Lasting"
 |.AG=>"Lasting"
 |.AB=>"Lasting"
 |.Ao=>"Lasting"
 |_=>""
abbrev st:Fx->Stmt
 |.Ea=>top 0
 |.C9=>top 11
 |.Bd=>top 12
 |.Fb=>top 13
 |.C8=>top 14
 |.DC=>top 15
 |.DA=>top 16
 |.DB=>top 17
 |.CO=>top 18
 |.CI=>top 20
 |.Cq=>top 21
 |.Cr=>top 22
 |.Du=>top 23
 |.Ep=>top 24
 |.Cy=>top 25
 |.BC=>top 28
 |.BS=>top 29
 |.BW=>top 30
 |.DE=>top 31
 |.BI=>top 32
 |.Dd=>top 33
 |.BN=>top 34
 |.CU=>top 35
 |.DL=>top 36
 |.Ek=>top 37
 |.DJ=>top 38
 |.DK=>top 39
 |.CT=>top 40
 |.BK=>top 42
 |.Ei=>top 43
 |.BX=>top 44
 |.Cp=>top 48
 |.Cw=>top 53
 |.Dg=>top 54
 |.De=>top 55
 |.Cm=>top 56
 |.Cn=>top 57
 |.Df=>top 58
 |.BU=>top 59
 |.Dz=>top 60
 |.CL=>top 61
 |.Cd=>top 62
 |.CH=>top 63
 |.BO=>top 64
 |.BE=>top 65
 |.BD=>top 66
 |.Dy=>top 67
 |.D9=>top 68
 |.CN=>top 69
 |.law_=>top 70
 |.AI=>AX (top 46) 0
 |.As=>AX (top 46) 1
 |.Ax=>AX (top 46) 2
 |.AJ=>AX (top 46) 3
 |.AC=>AX (top 49) 0
 |.Bp=>AX (top 49) 1
 |.A5=>AX (top 49) 2
 |.Ay=>AX (top 49) 3
 |.Av=>AX (top 49) 4
 |.A8=>AX (top 49) 5
 |.A7=>AX (top 49) 6
 |.AF=>AX (top 49) 7
 |.AT=>AX (top 49) 8
 |.AK=>AX (top 51) 0
 |.AV=>AX (top 51) 1
 |.AG=>AX (top 51) 2
 |.AB=>AX (top 51) 3
 |.Ao=>AX (top 51) 4
noncomputable abbrev ps:Fx->List Str
 |.Ea=>["k"]
 |.C9=>["thing"]
 |.Bd=>["thing", "low", "high"]
 |.Fb=>["s", "thing"]
 |.C8=>["s", "thing"]
 |.DC=>["number"]
 |.DA=>["s", "thing"]
 |.DB=>["s", "thing"]
 |.CO=>["s", "thing"]
 |.CI=>["g", "step"]
 |.Cq=>["state", "thing"]
 |.Cr=>["state", "thing"]
 |.Du=>["state"]
 |.Ep=>["state"]
 |.Cy=>["g"]
 |.BC=>["s", "value"]
 |.BS=>["most"]
 |.BW=>["number", "width"]
 |.DE=>["number", "cut"]
 |.BI=>["s", "wire", "at"]
 |.Dd=>["wire", "at"]
 |.BN=>["most", "wire", "at"]
 |.CU=>["s", "wire", "at"]
 |.DL=>["s", "wire", "at"]
 |.Ek=>["wire", "at"]
 |.DJ=>["s", "wire", "at"]
 |.DK=>["s", "wire", "at"]
 |.CT=>["s", "wire", "at"]
 |.BK=>["state", "place", "value"]
 |.Ei=>["g", "state", "wires", "places"]
 |.BX=>["state", "wire", "at"]
 |.Cp=>["side"]
 |.Cw=>["script", "k"]
 |.Dg=>["found"]
 |.De=>["cell", "k"]
 |.Cm=>["cell", "depth"]
 |.Cn=>["shape", "cell"]
 |.Df=>["cell", "k", "many"]
 |.BU=>["cells"]
 |.Dz=>["one", "name", "value"]
 |.CL=>["g", "state", "side", "cell"]
 |.Cd=>["both", "g", "side", "cell", "wire"]
 |.CH=>["hand", "piece"]
 |.BO=>["both", "cell", "wire", "taken", "held"]
 |.BE=>["lasting", "spoken", "least", "cell"]
 |.BD=>["lasting", "spoken", "least", "taken"]
 |.Dy=>["g"]
 |.D9=>["hall", "g", "side", "other", "cell"]
 |.CN=>["hall"]
 |.law_=>["script"]
 |.AI=>["self", "g", "sides"]
 |.As=>["self"]
 |.Ax=>["self", "side", "piece"]
 |.AJ=>["self", "side"]
 |.AC=>["self", "g", "side"]
 |.Bp=>["self", "name", "value"]
 |.A5=>["self", "piece"]
 |.Ay=>["self", "name", "value"]
 |.Av=>["self", "piece"]
 |.A8=>["self"]
 |.A7=>["self"]
 |.AF=>["self", "name"]
 |.AT=>["self"]
 |.AK=>["self", "g", "side"]
 |.AV=>["self", "name", "value"]
 |.AG=>["self", "piece"]
 |.AB=>["self"]
 |.Ao=>["self", "ticket"]
noncomputable abbrev ns:Fx->List Str
 |.Ea=>["k"]
 |.C9=>["thing"]
 |.Bd=>["thing", "low", "high"]
 |.Fb=>["s", "thing", "kind"]
 |.C8=>["s", "thing", "sign"]
 |.DC=>["number"]
 |.DA=>["s", "thing", "part"]
 |.DB=>["s", "thing"]
 |.CO=>["s", "thing"]
 |.CI=>["g", "step"]
 |.Cq=>["state", "thing", "place"]
 |.Cr=>["state", "thing", "words", "place"]
 |.Du=>["state"]
 |.Ep=>["state"]
 |.Cy=>["g"]
 |.BC=>["s", "value", "kind", "row", "thing"]
 |.BS=>["most"]
 |.BW=>["number", "width"]
 |.DE=>["number", "cut"]
 |.BI=>["s", "wire", "at", "kind"]
 |.Dd=>["wire", "at"]
 |.BN=>["most", "wire", "at", "byte"]
 |.CU=>["s", "wire", "at", "most", "width", "number", "k"]
 |.DL=>["s", "wire", "at", "length", "place", "text", "k"]
 |.Ek=>["wire", "at", "number"]
 |.DJ=>["s", "wire", "at", "length", "place", "things", "k", "part"]
 |.DK=>["s", "wire", "at", "first", "second"]
 |.CT=>["s", "wire", "at", "k", "part"]
 |.BK=>["state", "place", "value"]
 |.Ei=>["g", "state", "wires", "places", "talk", "standing", "behind", "side", "read"]
 |.BX=>["state", "wire", "at", "word", "read", "e"]
 |.Cp=>["side"]
 |.Cw=>["script", "k"]
 |.Dg=>["found"]
 |.De=>["cell", "k", "number"]
 |.Cm=>["cell", "depth", "kind", "left", "low", "one", "other"]
 |.Cn=>["shape", "cell", "kind", "many", "left", "found", "k", "one", "other", "number"]
 |.Df=>["cell", "k", "many", "left", "words", "side", "count", "name", "shape"]
 |.BU=>["cells"]
 |.Dz=>["one", "name", "value", "found", "caught", "e"]
 |.CL=>["g", "state", "side", "cell", "words", "name", "shape", "after", "value"]
 |.Cd=>["both", "g", "side", "cell", "wire", "lasting", "beside", "name", "value", "found", "due"]
 |.CH=>["hand", "piece", "found", "caught", "e"]
 |.BO=>["both", "cell", "wire", "taken", "held", "lasting", "beside", "some", "piece", "handed", "found", "broken"]
 |.BE=>["lasting", "spoken", "least", "cell", "many", "ticket", "found"]
 |.BD=>["lasting", "spoken", "least", "taken", "found", "broken"]
 |.Dy=>["g", "handed", "hall", "state"]
 |.D9=>["hall", "g", "side", "other", "cell", "lasting", "wire", "before", "came", "both", "told", "least"]
 |.CN=>["hall", "one", "ticket"]
 |.law_=>["script", "g", "hall", "cell", "side", "other", "told", "spoken"]
 |.AI=>["self", "g", "sides", "side"]
 |.As=>["self"]
 |.Ax=>["self", "side", "piece", "read"]
 |.AJ=>["self", "side"]
 |.AC=>["self", "g", "side"]
 |.Bp=>["self", "name", "value"]
 |.A5=>["self", "piece"]
 |.Ay=>["self", "name", "value", "state", "place"]
 |.Av=>["self", "piece"]
 |.A8=>["self"]
 |.A7=>["self"]
 |.AF=>["self", "name"]
 |.AT=>["self"]
 |.AK=>["self", "g", "side"]
 |.AV=>["self", "name", "value", "row"]
 |.AG=>["self", "piece", "told"]
 |.AB=>["self"]
 |.Ao=>["self", "ticket"]
def body(Φ:Fx->Fn):Fx->Fn
 |.Ea=>fnOf 1 1 (Ut)
 |.C9=>fnOf 1 1 (GU)
 |.Bd=>fnOf 3 3 (Ee (Φ .C9))
 |.Fb=>fnOf 2 3 (NN (Φ .CO) (Φ .DB) (Φ .DA) (Φ .C8) (Φ .Bd))
 |.C8=>fnOf 2 3 (GR (Φ .DC))
 |.DC=>fnOf 1 1 (IB)
 |.DA=>fnOf 2 3 (GP (Φ .Fb))
 |.DB=>fnOf 2 2 (GQ (Φ .Fb))
 |.CO=>fnOf 2 2 (FN (Φ .Fb) (Φ .Bd))
 |.CI=>fnOf 2 2 (Gk)
 |.Cq=>fnOf 2 3 (Eg (Φ .Fb) (Φ .Cr))
 |.Cr=>fnOf 2 4 (FO (Φ .Du))
 |.Du=>fnOf 1 1 (HB (Φ .Ep))
 |.Ep=>fnOf 1 1 (Cg)
 |.Cy=>fnOf 1 1 (Bl (Φ .Ep))
 |.BC=>fnOf 2 5 (Fh (Φ .BC) (Φ .BS) (Φ .BW))
 |.BS=>fnOf 1 1 (FP)
 |.BW=>fnOf 2 2 (Fy (Φ .DE))
 |.DE=>fnOf 2 2 (ID)
 |.BI=>fnOf 3 4 (D0 (Φ .CT) (Φ .DK) (Φ .DJ) (Φ .DL) (Φ .CU))
 |.Dd=>fnOf 2 2 (Gg)
 |.BN=>fnOf 3 4 (Ff (Φ .Dd))
 |.CU=>fnOf 3 7 (DH (Φ .DE) (Φ .Dd) (Φ .BS))
 |.DL=>fnOf 3 7 (Ev (Φ .Ek) (Φ .BN))
 |.Ek=>fnOf 2 3 (Gj (Φ .DC) (Φ .Dd))
 |.DJ=>fnOf 3 8 (Et (Φ .BI) (Φ .BN))
 |.DK=>fnOf 3 5 (Eu (Φ .BI))
 |.CT=>fnOf 3 5 (DG (Φ .BI) (Φ .BN))
 |.BK=>fnOf 3 3 (Ef (Φ .BC))
 |.Ei=>fnOf 4 9 (Gi (Φ .BX))
 |.BX=>fnOf 3 6 (Fz (Φ .BI))
 |.Cp=>fnOf 1 1 (Gh)
 |.Cw=>fnOf 2 2 (DZ)
 |.Dg=>fnOf 1 1 (C7)
 |.De=>fnOf 2 3 (EQ)
 |.Cm=>fnOf 2 7 (CQ (Φ .Cm))
 |.Cn=>fnOf 2 10 (ES (Φ .Cn))
 |.Df=>fnOf 3 9 (ER (Φ .Cm) (Φ .De))
 |.BU=>fnOf 1 1 (Ed (Φ .Df))
 |.Dz=>fnOf 3 6 (Cs (Φ .AV) (Φ .Bp))
 |.CL=>fnOf 4 9 (CJ (Φ .Cn))
 |.Cd=>fnOf 5 11 (CP (Φ .Dz) (Φ .As) (Φ .CL))
 |.CH=>fnOf 2 5 (Bm (Φ .AG) (Φ .A5))
 |.BO=>fnOf 5 12 (Cz (Φ .CH))
 |.BE=>fnOf 4 7 (BH (Φ .Ao))
 |.BD=>fnOf 4 6 (CW (Φ .CH) (Φ .Ao) (Φ .AB))
 |.Dy=>fnOf 1 4 (Fg (Φ .AC) (Φ .AK))
 |.D9=>fnOf 5 12 (FC (Φ .Cd) (Φ .BO) (Φ .BE))
 |.CN=>fnOf 1 3 (Es (Φ .As) (Φ .Dg) (Φ .AB))
 |.law_=>fnOf 1 8 (IC (Φ .CN) (Φ .BD) (Φ .D9) (Φ .Dy) (Φ .Cw) (Φ .BU))
 |.AI=>fnOf 3 4 (Da (Φ .Cy))
 |.As=>fnOf 1 1 (Be)
 |.Ax=>fnOf 3 4 (EN (Φ .Ei))
 |.AJ=>fnOf 2 2 (Ha (Φ .Ea))
 |.AC=>fnOf 3 3 (EL (Φ .Cp) (Φ .AI))
 |.Bp=>fnOf 3 3 (BV (Φ .Ay))
 |.A5=>fnOf 2 2 (Fw (Φ .Av))
 |.Ay=>fnOf 3 5 (Db (Φ .BK) (Φ .CI) (Φ .Cq))
 |.Av=>fnOf 2 2 (EO (Φ .Cp) (Φ .Ax))
 |.A8=>fnOf 1 1 (LI (Φ .Ea))
 |.A7=>fnOf 1 1 (LH (Φ .Ea))
 |.AF=>fnOf 2 2 (HW (Φ .Ea))
 |.AT=>fnOf 1 1 (JV (Φ .Ea))
 |.AK=>fnOf 3 3 (Ce (Φ .AC))
 |.AV=>fnOf 3 4 (Bz (Φ .Ay))
 |.AG=>fnOf 2 3 (Fv (Φ .Av))
 |.AB=>fnOf 1 1 (BA)
 |.Ao=>fnOf 2 2 (By (Φ .Bd))
def run:Nat->Fx->Fn
 |0=>λ_ _ _=>none
 |n+1=>body (run n)
structure Md(K:ib)(mg:Str->Option ie)(A:Fx->ig)(fd:Fx->iu):Prop where
 fn:∀x,Fun K (nm x) (ql x) (st x) (A x) (fd x)
 mgs:∀x,me x=false->mg (nm x)=some (.ref (A x))
 bd:∀x,Binds K (fd x) (ps x) []
 cm:CM K
 Ma:∃C,PySem.W.nsIn K mainGlobals "Lasting" = some (some (.ref C))/\mg "Lasting" = some (.ref C)/\Mk K C (A .AK)/\Meth K C "say" (A .AV)/\Meth K C "take" (A .AG)/\Meth K C "ticket" (A .AB)/\Meth K C "said_behind" (A .Ao)/\Meth K C "speak" (A .Ay)/\Meth K C "listen" (A .Av)/\Meth K C "waiting" (A .A8)/\Meth K C "may_say" (A .A7)/\Meth K C "shape_to_say" (A .AF)/\Meth K C "has_ended" (A .AT)/\Meth K C "state" (A .As)/\Meth K C "hear" (A .Ax)/\Meth K C "unread_of" (A .AJ)
 Ra:∃C,PySem.W.nsIn K mainGlobals "Side" = some (some (.ref C))/\mg "Side" = some (.ref C)/\Mk K C (A .AC)/\Meth K C "say" (A .Bp)/\Meth K C "take" (A .A5)/\Meth K C "speak" (A .Ay)/\Meth K C "listen" (A .Av)/\Meth K C "waiting" (A .A8)/\Meth K C "may_say" (A .A7)/\Meth K C "shape_to_say" (A .AF)/\Meth K C "has_ended" (A .AT)/\Meth K C "state" (A .As)/\Meth K C "hear" (A .Ax)/\Meth K C "unread_of" (A .AJ)
 jM:∃C,mg "Hearer" = some (.ref C)/\ByCls K C "__init__" (A .AI)
 jY:∃C,mg "Side" = some (.ref C)/\ByCls K C "__init__" (A .AC)
 iP:mg "bool" = none
 iS:mg "dict" = none
 gU:mg "enumerate" = none
 iU:mg "int" = none
 gL:mg "isinstance" = none
 j7:mg "len" = none
 iL:mg "list" = none
 j6:mg "ord" = none
 iG:mg "range" = none
 j5:mg "str" = none
 iJ:mg "tuple" = none
 gM:∃tk,mg "FIRST_SIGN" = some (.int 32 tk)
 gO:∃tk,mg "LAST_SIGN" = some (.int 126 tk)
 g8:∃tk,mg "PERCENT_SIGN" = some (.int 37 tk)
 iC:∃tk,mg "SIGNS" = some (.str " !\"#$ &'()*+,-./0123456789:;<=>?@ABCDEFGHIJKLMNOPQRSTUVWXYZ[\\]^_`abcdefghijklmnopqrstuvwxyz{|}~" tk)
 xm:∃(P:ig) (ca:Str->ig),XM K mg P ca/\(XF1 K (ca "NoTalk") P "NoTalk.__init__" (AX (top 5) 0)/\XF2 K (ca "Broken") P "Broken.__init__" (AX (top 4) 0))/\∀n∈(["NoName", "Short"]:List Str),XN0 K (ca n)
noncomputable abbrev kd:Fx->Kd
 |.Ea=>.pl
 |.C9=>.pl
 |.Bd=>.pl
 |.Fb=>.pl
 |.C8=>.pl
 |.DC=>.pl
 |.DA=>.pl
 |.DB=>.pl
 |.CO=>.pl
 |.CI=>.pl
 |.Cq=>.pl
 |.Cr=>.pl
 |.Du=>.pl
 |.Ep=>.pl
 |.Cy=>.pl
 |.BC=>.fr
 |.BS=>.pl
 |.BW=>.fr
 |.DE=>.pl
 |.BI=>.ex
 |.Dd=>.ex
 |.BN=>.ex
 |.CU=>.ex
 |.DL=>.ex
 |.Ek=>.ex
 |.DJ=>.ex
 |.DK=>.ex
 |.CT=>.ex
 |.BK=>.fr
 |.Ei=>.er
 |.BX=>.er
 |.Cp=>.pl
 |.Cw=>.pl
 |.Dg=>.pl
 |.De=>.pl
 |.Cm=>.pl
 |.Cn=>.pl
 |.Df=>.pl
 |.BU=>.pl
 |.Dz=>.pl
 |.CL=>.pl
 |.Cd=>.pl
 |.CH=>.pl
 |.BO=>.pl
 |.BE=>.pl
 |.BD=>.pl
 |.Dy=>.pl
 |.D9=>.pl
 |.CN=>.pl
 |.law_=>.pl
 |.AI=>.pl
 |.As=>.pl
 |.Ax=>.er
 |.AJ=>.pl
 |.AC=>.pl
 |.Bp=>.ex
 |.A5=>.er
 |.Ay=>.ex
 |.Av=>.er
 |.A8=>.pl
 |.A7=>.pl
 |.AF=>.pl
 |.AT=>.pl
 |.AK=>.pl
 |.AV=>.ex
 |.AG=>.er
 |.AB=>.pl
 |.Ao=>.ex
theorem VT:FnScope ["self", "at", "side"] ["self", "at", "side"] (An (AX (top 4) 0)):=⟨rfl,rfl,rfl,by decide +kernel,rfl,by decide +kernel,by decide +kernel⟩
theorem bY:FnScope ["self", "at"] ["self", "at"] (An (AX (top 5) 0)):=⟨rfl,rfl,rfl,by decide +kernel,rfl,by decide +kernel,by decide +kernel⟩
section
variable{P:im}{w:ir}{K:ib}{mg:Str->Option ie}{base:Heap}{A:Fx->ig}{fd:Fx->iu}{n:Nat}
theorem KP{a:Kd}(k:Kd){P:im}{w:ir}{K:ib}{mg:Str->Option ie}{base:Heap}{n:Nat}{fa:ig}{fd:iu}{ps:List Str}{f:Fn}(h:okK a P w K mg base n fa fd ps f)(e:a=k):okK k P w K mg base n fa fd ps f:=e ▸ h
section
variable{X:Cx}{A:Fx->ig}{fd:Fx->iu}{n k:Nat}{x:Fx}{s:Str}{e:Expr}{es:List Expr}{f:M (List D)}{p pos:Pos}{E:L2.St->XK}
theorem cP(M:Md X.K X.mg A fd)(ih:∀x,okK (kd x) X.prog X.w X.K X.mg X.base k (A x) (fd x) (ps x) (run n x))(hr:Room k X.A)(ha:PA X (e::es) (RA X.K f))(hk:kd x=.pl)(hm:me x=false)(hs:nm x=s)(hg:Gl X s)(h1:Ba e=false)(h2:Bg es=true)(hd:(s==("__debug__":Str))=false):PE X (.Call (.Name s p) (e::es) [] pos) (RE X.K (Aj (run n x) f)):=by subst hs;exact TU (KP .pl (ih x) hk) hr hg (M.mgs x hm) (Fun.kp (M.fn x)) (M.bd x) ha hd h1 h2
theorem fF(M:Md X.K X.mg A fd)(ih:∀x,okK (kd x) X.prog X.w X.K X.mg X.base k (A x) (fd x) (ps x) (run n x))(hr:Room k X.A)(ha:PA X (e::es) (RA X.K f))(hk:kd x=.fr)(hm:me x=false)(hs:nm x=s)(hg:Gl X s)(h1:Ba e=false)(h2:Bg es=true)(hd:(s==("__debug__":Str))=false):PE X (.Call (.Name s p) (e::es) [] pos) (RF X.K (D8 (run n x) f)):=by subst hs;exact TZ (KP .fr (ih x) hk) hr hg (M.mgs x hm) (Fun.kp (M.fn x)) (M.bd x) ha hd h1 h2
theorem xer(M:Md X.K X.mg A fd)(ih:∀x,okK (kd x) X.prog X.w X.K X.mg X.base k (A x) (fd x) (ps x) (run n x))(hr:Room k X.A)(hp:C1 (CX1 false X.prog X.w) X E)(ha:PA X (e::es) (RA X.K f))(hk:kd x=.er)(hm:me x=false)(hs:nm x=s)(hg:Gl X s)(h1:Ba e=false)(h2:Bg es=true)(hd:(s==("__debug__":Str))=false):PE X (.Call (.Name s p) (e::es) [] pos) (RX X.K E (Aj (run n x) f)):=by subst hs;exact OX (KP .er (ih x) hk) hr hg (M.mgs x hm) (Fun.kp (M.fn x)) (M.bd x) hp ha hd h1 h2
theorem xex(M:Md X.K X.mg A fd)(ih:∀x,okK (kd x) X.prog X.w X.K X.mg X.base k (A x) (fd x) (ps x) (run n x))(hr:Room k X.A)(hp:C1 (CX1 true X.prog X.w) X E)(ha:PA X (e::es) (RA X.K f))(hk:kd x=.ex)(hm:me x=false)(hs:nm x=s)(hg:Gl X s)(h1:Ba e=false)(h2:Bg es=true)(hd:(s==("__debug__":Str))=false):PE X (.Call (.Name s p) (e::es) [] pos) (RX X.K E (Aj (run n x) f)):=by subst hs;exact OX (KP .ex (ih x) hk) hr hg (M.mgs x hm) (Fun.kp (M.fn x)) (M.bd x) hp ha hd h1 h2
end
seal PH PS PE PA PSs PT PG PGs PW PPf PI PO PIf
theorem sc(x:Fx):FnScope (ns x) (ps x) (An (st x)):=by
 cases x<;>exact⟨rfl,rfl,rfl,by decide +kernel,rfl,by decide +kernel,by decide +kernel⟩
local macro_rules | `(tactic| clear 30 $t)=>`(tactic| with_reducible refine(?_ : $t))
seal MP
theorem step(M:Md K mg A fd)(ih0:∀x,okK (kd x) P w K mg base (2*n+2) (A x) (fd x) (ps x) (run n x))(y:Fx):okK (kd y) P w K mg base (2*n+2+1+1) (A y) (fd y) (ps y) (run (n+1) y):=by
 have ih:=λx=>Zz (ih0 x);obtain⟨_,gM⟩:=M.gM;obtain⟨_,gO⟩:=M.gO;obtain⟨_,g8⟩:=M.g8;clear 5 M.xm P' ca x xt x0;have xb:XN2 P w K mg base (ca "Broken") P':=Uj rfl VT rfl rfl rfl xt.2;obtain⟨_,iC⟩:=M.iC;have xh:Tw P w K mg base (ca "Broken") P':=RM rfl VT rfl rfl rfl xt.2;clear 5 M.Ma Lasting_ g6 kB jV lA kZ kI jE kN kE lC lB kU l9 kO kX l7;clear 5 M.Ra Side_ g7 kY kP jW jS jO jG kW kK jX kD jL jU kG;have l6:MAt K "Lasting" "say" Lasting_ (A .AV):=⟨by decide,g6,lA,by decide⟩;have jT:MAt K "Side" "say" Side_ (A .Bp):=⟨by decide,g7,jW,by decide⟩;have jH:MAt K "Side" "state" Side_ (A .As):=⟨by decide,g7,jL,by decide⟩;have kS:MAt K "Lasting" "take" Lasting_ (A .AG):=⟨by decide,g6,kZ,by decide⟩;have jJ:MAt K "Side" "take" Side_ (A .A5):=⟨by decide,g7,jS,by decide⟩;have iR:MAt K "Lasting" "said_behind" Lasting_ (A .Ao):=⟨by decide,g6,jE,by decide⟩;have k8:MAt K "Lasting" "ticket" Lasting_ (A .AB):=⟨by decide,g6,kI,by decide⟩;have kH:MAt K "Lasting" "state" Lasting_ (A .As):=⟨by decide,g6,kO,by decide⟩;clear 5 M.jM Hearer_b jZ kA;have jF:MAt K "Side" "speak" Side_ (A .Ay):=⟨by decide,g7,jO,by decide⟩;have jD:MAt K "Side" "listen" Side_ (A .Av):=⟨by decide,g7,jG,by decide⟩;have xn:XN1 P w K mg base (ca "NoTalk") P':=Ui rfl bY rfl rfl xt.1;have kT:MAt K "Lasting" "hear" Lasting_ (A .Ax):=⟨by decide,g6,kX,by decide⟩;have jI:MAt K "Side" "hear" Side_ (A .Ax):=⟨by decide,g7,jU,by decide⟩;clear 5 M.jY Side_b kQ kJ;have kF:MAt K "Lasting" "speak" Lasting_ (A .Ay):=⟨by decide,g6,kN,by decide⟩;have k7:MAt K "Lasting" "listen" Lasting_ (A .Av):=⟨by decide,g6,kE,by decide⟩;have sy:=sc y;have nd:=sy.nd;have mf:=M.fn y
 cases y<;>first|(clear 30 (okK .pl ..);refine al (g:=fnOf _ _ _) rfl (Y1 rfl rfl mf sy (λcdv A' outer s H E hr=>?_)))|(clear 30 (okK .ex ..);refine Pd (g:=fnOf _ _ _) rfl (OP rfl rfl mf sy (λcdv A' outer s H E hr hp hq ho=>?_)))|(clear 30 (okK .fr ..);refine Xx (g:=fnOf _ _ _) rfl (Ws rfl rfl mf sy (λcdv A' outer s H E hr=>?_)))|(clear 30 (okK .er ..);refine Pd (g:=fnOf _ _ _) rfl (Wt rfl rfl mf sy (λcdv A' outer s H E hr hp hq ho ht=>?_)))
 all_goals repeat' first
  | (clear 30 (PH ..);first
    |(clear 30 (PH _ _ (.ExceptHandler (some (.Name _ _)) (some _) [.Raise (some (.Call (.Name _ _) [_,_] [] _)) (some _) _] _::_) (RH _ _ (μX _ _) (hAs _ _ (Eh _ _) _)));refine bw x xh rfl rfl (hr.mono (by omega)) rfl (x.ms "Broken" (by decide)) (x.cl "Broken" (by decide)) (λ_ hn=>x.subE hn (by decide)) nd rfl rfl ht rfl (λy=>?_) WE ?_)
    |exact YY
    |(clear 30 (PH _ _ (.ExceptHandler (some (.Name _ _)) none (_::_) _::_) (RH _ _ _ (hNo _ _ _)));refine VD x rfl (x.ms "Short" (by decide)) (x.cl "Short" (by decide)) (λ_ hn=>x.subE hn (by decide)) (λy=>?_) ?_)
    |(clear 30 (PH _ _ (.ExceptHandler (some (.Name _ _)) (some _) (_::_) _::_) (RH _ _ _ (hAs _ _ _ _)));refine VC x rfl (x.ms "NoTalk" (by decide)) (x.cl "NoTalk" (by decide)) (λ_ hn=>x.subE hn (by decide)) nd rfl rfl (λy=>?_) ?_)
    |(clear 30 (PH _ _ (.ExceptHandler (some (.Name _ _)) (some _) (_::_) _::_) (RH _ _ _ (hAs _ _ _ _)));refine VC x rfl x.pm x.pc (λ_ hn=>x.subP hn) nd rfl rfl (λy=>?_) ?_)
    |(clear 30 (PH _ _ (.ExceptHandler (some (.Name _ _)) none (_::_) _::_) (RH _ _ _ (hNo _ _ _)));refine VD x rfl (x.ms "NoName" (by decide)) (x.cl "NoName" (by decide)) (λ_ hn=>x.subE hn (by decide)) (λy=>?_) ?_))
  | (clear 30 (PS ..);first
    | (clear 30 (PS _ (.Try ..) ..);first
      |(clear 30 (PS _ _ (RSg _ (μR _) (EF (CD _ (FL (AR _ (run _ .AG) _ _) _)) _)));refine NE (qx:=false) x Sf rfl rfl (λpn E hp=>?_) ?_)
      |(clear 30 (PS _ _ (RSg _ (μR _) (EF _ _)));refine NE (qx:=true) x Sf rfl rfl (λpn E hp=>?_) ?_)
      |(clear 30 (PS _ _ (RSg _ (μX _ _) (EF _ _)));refine NE (qx:=true) x Zx rfl rfl (λpn E hp=>?_) ?_))
    | (clear 30 (PS _ (.Return ..) ..);first
      |(clear 30 (PS _ _ (RSg _ (μR _) (Al _)));refine Rz ?_)
      |(clear 30 (PS _ _ (RSg _ (μX _ _) (Al (nxD _))));refine OT ?_)
      |(clear 30 (PS _ _ (RSg _ (μX _ _) (Al _)));refine HH (OU ?_))
      |(clear 30 (PS _ _ (RSg _ (μF _) (GV _)));refine OS ?_)
      |(clear 30 (PS _ _ (RSg _ (μF _) (Hg _)));exact(RB _)))
    | (clear 30 (PS _ (.If ..) ..);first
      |refine bz ?_ ?_ ?_)
    | (clear 30 (PS _ (.Assign ..) ..);first
      |(clear 30 (PS _ (.Assign [.Name _ _] _ _) (RSg _ _ (Ar _ _)));refine RC nd rfl (.inl rfl) ?_)
      |(clear 30 (PS _ _ (RSg _ _ (Bw _ _)));refine Y2 ?_ ?_)
      |(clear 30 (PS _ _ (RSg _ (μX _ _) (CD _ _)));refine HH (OV nd rfl (.inl rfl) ?_))
      |(clear 30 (PS _ _ (RSg _ _ (CB _ _ _)));refine Y3 M.cm (by decide) ?_ ?_)
      |(clear 30 (PS _ _ (RSg _ _ (Gp _ _)));refine Y4 nd rfl (.inl rfl) ?_)
      |(clear 30 (PS _ _ (RSX _ _ (CD _ _)));refine OV nd rfl (.inl rfl) ?_)
      |(clear 30 (PS _ (.Assign [.Name _ _] _ _) (RSg _ _ (Ar _ _)));refine RC nd rfl (.inr rfl) ?_)
      |(clear 30 (PS _ _ (RSg _ _ (Ar _ (B5 (Ca _ [] _ _ _ _)))));refine T9 (E8 ["state"] [] rfl rfl rfl rfl rfl) rfl nd rfl rfl ?_ (λ_ _ _ _ _=>?_) (λ_ _ _ _ _=>?_) (λ_ _ _ _ _=>?_)))
    | (clear 30 (PS _ (.Expr ..) ..);first
      |(clear 30 (PS _ _ (RSg _ _ (B9 _)));refine OQ ?_)
      |(clear 30 (PS _ _ (RSg _ _ (ownM _ Cu _)));refine PZ _ ?_)
      |(clear 30 (PS _ _ (RSg _ _ (ownM _ Il _)));refine P0 _ ?_))
    | (clear 30 (PS _ (.For ..) ..);first
      |(clear 30 (PS _ (.For _ _ _ [] _) (RSg _ _ (Dh _ _ _)));refine Rw ko rfl ?_ ?_ ?_)
      |(clear 30 (PS _ (.For _ _ _ [] _) (RSg _ _ (Dh _ _ _)));refine Rw ho rfl ?_ ?_ ?_)
      |(clear 30 (PS _ _ (RSg _ _ (KD _ _ _)));refine Wx ko rfl ?_ ?_ ?_))
    | (clear 30 (PS _ (.Raise ..) ..);first
      |(clear 30 (PS _ _ (RSg _ (μX _ _) (Eh _ _)));refine HH (Rx x xb (hr.mono (by omega)) rfl hq rfl ?_))
      |(clear 30 (PS _ _ (RSg _ (μX _ _) (Gs ("Short":Str) _)));refine HH (Mi (n:="Short") x (by decide) rfl (x0 "Short" (by decide)) rfl hq rfl ?_))
      |(clear 30 (PS _ _ (RSg _ (μX _ _) (IS _ _)));refine HH (Ry x xn (hr.mono (by omega)) rfl hq rfl ?_))
      |(clear 30 (PS _ _ (RSg _ (μX _ _) (Gs ("NoName":Str) _)));refine HH (Mi (n:="NoName") x (by decide) rfl (x0 "NoName" (by decide)) rfl hq rfl ?_)))
    |exact OR
    | (clear 30 (PS _ (.While ..) ..);first
      |(clear 30 (PS _ (.While _ _ [] _) _);refine NF ko ?_ ?_)
      |(clear 30 (PS _ (.While _ _ [] _) (RSg _ _ (IZ _ _)));refine NF ho ?_ ?_))
    | (clear 30 (PS _ (.Break ..) ..);first
      |exact T8)
    |refine Rz ?_
    |refine OS ?_
    |refine OT ?_
    |refine HH (OU ?_)
    |refine OQ ?_)
  | (clear 30 (PE ..);first
    | (clear 30 (PE _ (.Name ..) ..);first
      |(clear 30 (PE _ _ (RE _ (Aa _)));exact(YV _))
      |(clear 30 (PE _ (.Name _ _) (RE _ (fC (.ty _))));exact(KB rfl M.j5 YA))
      |(clear 30 (PE _ (.Name _ _) (RE _ (fC (.ty _))));exact(KB rfl M.iJ TJ))
      |(clear 30 (PE _ (.Name _ _) (RE _ (fC (.ty _))));exact(KB rfl M.iU Q9))
      |(clear 30 (PE _ (.Name _ _) (RE _ (fC (.ty _))));exact(KB rfl M.iP V5))
      |(clear 30 (PE _ (.Name _ _) (RE _ (fC (.int _))));exact(Lz rfl gM))
      |(clear 30 (PE _ (.Name _ _) (RE _ (fC (.ty _))));exact(KB rfl M.iL OG))
      |(clear 30 (PE _ (.Name _ _) (RE _ (fC (.int _))));exact(Lz rfl gO))
      |(clear 30 (PE _ (.Name _ _) (RE _ (fC (.int _))));exact(Lz rfl g8))
      |(clear 30 (PE _ _ (RE _ (fC (.str _))));exact(TX rfl iC)))
    | (clear 30 (PE _ (.Constant ..) ..);first
      |(clear 30 (PE _ _ (RE _ (fC (.int _))));exact YO)
      |(clear 30 (PE _ _ (RE _ (fC (.str _))));exact YU)
      |(clear 30 (PE _ _ (RE _ (fC .non)));exact YQ)
      |(clear 30 (PE _ _ (RE _ (fC (.bl _))));exact bo))
    | (clear 30 (PE _ (.Subscript ..) ..);first
      |(clear 30 (PE _ _ (RE _ (Ac _ _ ixD)));refine VB Zf ap ?_ ?_ (λ_ _=>rfl))
      |(clear 30 (PE _ _ (RE _ (Ac _ _ Az)));refine VB Zd SU ?_ ?_ (λ_ _=>rfl))
      |(clear 30 (PE _ _ (RE _ (fSl _ _ _ FS)));refine Nx sl3 Pi ?_ ?_ ?_)
      |(clear 30 (PE _ _ (RF _ (Ly _ _ _)));refine T4 ?_ ?_ ?_)
      |(clear 30 (PE _ _ (RE _ (fSl _ _ _ LV)));refine Nx sl3 U6 ?_ ?_ ?_))
    | (clear 30 (PE _ (.Call ..) ..);first
      |(clear 30 (PE _ _ (RE _ (Aj (run _ _) _)));refine @cP _ _ _ _ _ _ _ _ _ _ _ _ M ih hr ?_ (by rfl) (by rfl) (by rfl) (by rfl) (by rfl) (by rfl) (by decide))
      |(clear 30 (PE _ _ (RE _ (fB _ A4)));refine MS TK XH rfl M.j7 Yy ?_)
      |(clear 30 (PE _ (.Call (.Name _ _) _ _ _) (RX _ _ (Aj (run _ _) _)));refine @xex _ _ _ _ _ _ _ _ _ _ _ _ _ M ih hr hp ?_ (by rfl) (by rfl) (by rfl) (by rfl) (by rfl) (by rfl) (by decide))
      |(clear 30 (PE _ _ (RE _ (fB _ CY)));refine MS Nm Pg rfl M.gL FI ?_)
      |(clear 30 (PE _ _ (RF _ (fBF _ Ds)));refine br Nn XI rfl M.iL OG ?_)
      |(clear 30 (PE _ _ (RF _ (D8 (run _ _) _)));refine @fF _ _ _ _ _ _ _ _ _ _ _ _ M ih hr ?_ (by rfl) (by rfl) (by rfl) (by rfl) (by rfl) (by rfl) (by decide))
      |(clear 30 (PE _ _ (RE _ (objM Cu _ _)));refine Ri ?_ ?_)
      |(clear 30 (PE _ _ (RE _ (objX _ _)));refine PU ?_ ?_)
      |(clear 30 (PE _ _ (RE _ (AR _ (run _ .AB) _ (ret []))));refine JP M.cm k8 (ih .AB) hr (M.bd .AB) ?_)
      |(clear 30 (PE _ _ (RE _ (fB _ JY)));refine MS TL XQ rfl M.j6 Yz ?_)
      |(clear 30 (PE _ (.Call (.Name _ _) _ _ _) (RX _ _ (Aj (run _ _) _)));refine @xer _ _ _ _ _ _ _ _ _ _ _ _ _ M ih hr hp ?_ (by rfl) (by rfl) (by rfl) (by rfl) (by rfl) (by rfl) (by decide))
      |(clear 30 (PE _ (.Call (.Attribute _ _ _) [] [] _) (RE _ (AR _ (run _ .As) _ (ret []))));refine JP M.cm jH (ih .As) hr (M.bd .As) ?_)
      |(clear 30 (PE _ _ (RE _ (AR _ (II (run _ .Ao)) _ _)));refine Wi M.cm iR (bh (ih .Ao)) hr (M.bd .Ao) ?_ ?_)
      |(clear 30 (PE _ (.Call (.Name _ _) (_::_) [] _) (RE _ (FB _ _ _)));refine ON (by decide) g6 jV (ih0 .AK) hr rfl kB (M.bd .AK) ?_)
      |(clear 30 (PE _ _ (RE _ (NR _)));refine Rl ?_)
      |(clear 30 (PE _ (.Call (.Name _ _) (_::_) [] _) (RE _ (FB _ _ _)));refine ON (by decide) g7 kP (ih0 .AC) hr rfl kY (M.bd .AC) ?_)
      |(clear 30 (PE _ _ (RE _ (fUn _ Kl)));refine Rk ?_)
      |(clear 30 (PE _ _ (RE _ (fB _ Jd)));refine TW rfl M.iS ?_)
      |(clear 30 (PE _ _ (RE _ (joinM _ _)));refine Wh ?_ ?_)
      |(clear 30 (PE _ _ (RX _ _ (AR _ (run _ .AV) _ _)));refine Dq M.cm l6 (ih .AV) hr (M.bd .AV) hp ?_ ?_)
      |(clear 30 (PE _ _ (RX _ _ (AR _ (run _ .Bp) _ _)));refine Dq M.cm jT (ih .Bp) hr (M.bd .Bp) hp ?_ ?_)
      |(clear 30 (PE _ _ (RE _ (fB _ JU)));refine MS Nm U4 rfl M.gL FI ?_)
      |(clear 30 (PE _ _ (RX _ _ (AR _ (run _ .AG) _ _)));refine Dq M.cm kS (ih .AG) hr (M.bd .AG) hp ?_ ?_)
      |(clear 30 (PE _ _ (RX _ _ (AR _ (run _ .A5) _ _)));refine Dq M.cm jJ (ih .A5) hr (M.bd .A5) hp ?_ ?_)
      |(clear 30 (PE _ _ (RE _ (bnd _ (Iv ("Broken":Str)))));refine Wg (n:="Broken") x (by decide) rfl M.gL FI rfl ?_)
      |(clear 30 (PE _ _ (RX _ _ (AR _ (run _ .Ao) _ _)));refine Dq M.cm iR (ih .Ao) hr (M.bd .Ao) hp ?_ ?_)
      |(clear 30 (PE _ _ (RE _ (fB _ LB)));refine bn Rb XG rfl M.iU Q9 ?_)
      |(clear 30 (PE _ (.Call (.Attribute _ _ _) [] [] _) (RE _ (AR _ (run _ .As) _ (ret []))));refine JP M.cm kH (ih .As) hr (M.bd .As) ?_)
      |(clear 30 (PE _ (.Call (.Attribute (.Name _ _) _ _) (_::_) [] _) (RE _ (Aj _ _)));refine Nw (ih .AI) hr rfl jZ kA (M.bd .AI) ?_)
      |(clear 30 (PE _ (.Call (.Attribute _ _ _) (_::_) [] _) (RX _ _ (AR _ (run _ .Ay) _ _)));refine Dq M.cm jF (ih .Ay) hr (M.bd .Ay) hp ?_ ?_)
      |(clear 30 (PE _ (.Call (.Attribute _ _ _) (_::_) [] _) (RX _ _ (AR _ (run _ .Av) _ _)));refine Dq M.cm jD (ih .Av) hr (M.bd .Av) hp ?_ ?_)
      |(clear 30 (PE _ (.Call (.Attribute _ _ _) (_::_) [] _) (RX _ _ (AR _ (run _ .Ax) _ _)));refine Dq M.cm kT (ih .Ax) hr (M.bd .Ax) hp ?_ ?_)
      |(clear 30 (PE _ (.Call (.Attribute _ _ _) (_::_) [] _) (RX _ _ (AR _ (run _ .Ax) _ _)));refine Dq M.cm jI (ih .Ax) hr (M.bd .Ax) hp ?_ ?_)
      |(clear 30 (PE _ (.Call (.Attribute (.Name _ _) _ _) (_::_) [] _) (RE _ (Aj _ _)));refine Nw (ih .AC) hr rfl kQ kJ (M.bd .AC) ?_)
      |(clear 30 (PE _ (.Call (.Attribute _ _ _) (_::_) [] _) (RX _ _ (AR _ (run _ .Ay) _ _)));refine Dq M.cm kF (ih .Ay) hr (M.bd .Ay) hp ?_ ?_)
      |(clear 30 (PE _ (.Call (.Attribute _ _ _) (_::_) [] _) (RX _ _ (AR _ (run _ .Av) _ _)));refine Dq M.cm k7 (ih .Av) hr (M.bd .Av) hp ?_ ?_))
    | (clear 30 (PE _ (.Tuple ..) ..);first
      |(clear 30 (PE _ (.Tuple _ _ _) (RE _ (AE _)));refine @Rn _ _ _ _ _ ?_)
      |(clear 30 (PE _ (.Tuple _ _ _) (RE _ (AE _)));refine Rn ?_))
    | (clear 30 (PE _ (.List ..) ..);first
      |refine @YW _ _ _ _ ?_)
    | (clear 30 (PE _ (.BinOp ..) ..);first
      |(clear 30 (PE _ _ (RE _ (Ac _ _ AZ)));refine Ht O6 N6 ?_ ?_)
      |(clear 30 (PE _ _ (RE _ (Ac _ _ Bf)));refine Ht ZI XL ?_ ?_)
      |(clear 30 (PE _ _ (RE _ (Ac _ _ A9)));refine Ht W3 U3 ?_ ?_)
      |(clear 30 (PE _ _ (RE _ (Ac _ _ Di)));refine Ht ZN XT ?_ ?_)
      |(clear 30 (PE _ _ (RE _ (Ac _ _ EC)));refine Ht W4 U5 ?_ ?_)
      |(clear 30 (PE _ _ (RF _ _));refine bu Sq U2 ?_ ?_)
      |(clear 30 (PE _ _ (RX _ _ (Je _ _ AZ)));refine bC O6 N6 ?_ ?_)
      |(clear 30 (PE _ _ (RE _ (Ac _ _ N8)));refine Ht ZM XS ?_ ?_)
      |(clear 30 (PE _ _ (RE _ (Ac _ _ NX)));refine Ht ZK XR ?_ ?_))
    | (clear 30 (PE _ (.Attribute ..) ..);first
      |(clear 30 (PE _ _ (RE _ (Cv _ _)));refine YN M.cm (by decide) ?_ rfl)
      |(clear 30 (PE _ (.Attribute _ _ _) (RE _ (bnd _ (FH _))));refine Rj x x.na ?_ rfl)
      |(clear 30 (PE _ (.Attribute _ _ _) (RE _ (bnd _ (FH _))));refine Rj x x.nd ?_ rfl))
    | (clear 30 (PE _ (.Dict ..) ..);first
      |(clear 30 (PE _ _ (RE _ (Dk _)));refine We ?_)
      |(clear 30 (PE _ _ (RE _ (FF [])));exact Rm))
    | (clear 30 (PE _ (.BoolOp ..) ..);first
      |(clear 30 (PE _ _ (RE _ (Fa _ _)));refine YM ?_ ?_)
      |(clear 30 (PE _ _ (RE _ _));refine YT ?_))
    | (clear 30 (PE _ (.IfExp ..) ..);first
      |refine TY ?_ ?_ ?_)
    | (clear 30 (PE _ (.Compare ..) ..);first
      |(clear 30 (PE _ (.Compare _ [.Eq] [_] _) (RE _ (Ac _ _ (eqS _))));refine KA (Ss hr.units) (Jq (g:=id)) ?_ ?_ (DQ _))
      |(clear 30 (PE _ _ (RE _ (FE _ _ _ _ _)));refine TV Sv Sv Ph Ph ?_ ?_ ?_)
      |(clear 30 (PE _ _ (RE _ (Ac _ _ isC)));refine KA Su SV ?_ ?_ (DQ _))
      |(clear 30 (PE _ (.Compare _ [.NotEq] [_] _) (RE _ (Ac _ _ (eqS _))));refine KA (NT hr.units) (Jq (g:=λb=>!b)) ?_ ?_ (DQ _))
      |(clear 30 (PE _ _ (RE _ (Ac _ _ Fd)));refine KA Mr Mt ?_ ?_ (DQ _)))
    | (clear 30 (PE _ (.UnaryOp ..) ..);first
      |(clear 30 (PE _ _ (RE _ (fUn _ IG)));refine bp aG XO ?_)
      |(clear 30 (PE _ _ (RE _ (Hr _)));refine YR ?_))
    | (clear 30 (PE _ (.ListComp ..) ..);first
      |(clear 30 (PE _ (.ListComp _ [⟨(.Name ("state":Str) _),_,_,0⟩] _ _) (RF _ (Ga _ _ _ _ _ _)));refine Ny (E8 ["state"] [] rfl rfl rfl rfl rfl) rfl ?_ (λ_ _ _ _ _=>?_) (λ_ _ _ _ _=>?_) (λ_ _ _ _ _=>?_))
      |(clear 30 (PE _ (.ListComp _ [⟨(.Name ("sign":Str) _),_,_,0⟩] _ _) (RF _ (Ca _ [] _ _ _ _)));refine G4 (E8 ["sign"] [] rfl rfl rfl rfl rfl) rfl ?_ (λ_ _ _ _ _=>?_) (λ_ _ _ _ _=>?_) (λ_ _ _ _ _=>?_))
      |(clear 30 (PE _ _ (RF _ (Ca _ [0,1] _ _ _ _)));refine G4 (E8 ["k"] [(0, "number"),(1, "width")] rfl rfl rfl rfl rfl) rfl ?_ (λ_ _ _ _ _=>?_) (λ_ _ _ _ _=>?_) (λ_ _ _ _ _=>?_))
      |(clear 30 (PE _ _ (RF _ (Ca _ [4] _ _ _ _)));refine G4 (E8 ["k"] [(4, "left")] rfl rfl rfl rfl rfl) rfl ?_ (λ_ _ _ _ _=>?_) (λ_ _ _ _ _=>?_) (λ_ _ _ _ _=>?_))
      |(clear 30 (PE _ _ (RF _ (Ca _ _ _ _ _ _)));refine T3 (E8 ["k", "cell"] [(0, "cells")] rfl rfl rfl rfl rfl) rfl ?_ (λ_ _ _ _ _=>?_) (λ_ _ _ _ _=>?_) (λ_ _ _ _ _=>?_))
      |(clear 30 (PE _ (.ListComp _ [⟨(.Name ("one":Str) _),_,_,0⟩] _ _) (RF _ (Ca _ [] _ _ _ _)));refine G4 (E8 ["one"] [] rfl rfl rfl rfl rfl) rfl ?_ (λ_ _ _ _ _=>?_) (λ_ _ _ _ _=>?_) (λ_ _ _ _ _=>?_))
      |(clear 30 (PE _ _ (RF _ (Ca _ [0] _ _ _ _)));refine G4 (E8 ["k"] [(0, "script")] rfl rfl rfl rfl rfl) rfl ?_ (λ_ _ _ _ _=>?_) (λ_ _ _ _ _=>?_) (λ_ _ _ _ _=>?_))
      |(clear 30 (PE _ (.ListComp _ [⟨_,_,_,0⟩] _ _) (RF _ (Ga _ _ _ _ _ _)));refine Ny (E8 ["found", "copy"] [] rfl rfl rfl rfl rfl) rfl ?_ (λ_ _ _ _ _=>?_) (λ_ _ _ _ _=>?_) (λ_ _ _ _ _=>?_)))
    |(clear 30 (PE _ _ (RE _ (AL _)));refine Wj ?_)
    |(clear 30 (PE _ _ (RE _ (B5 _)));refine YS ?_)
    |(clear 30 (PE _ _ (RX _ _ (FL _ _)));refine Y8 ?_ ?_))
  | (clear 30 (PA ..);first
    |refine @TR _ _ _ _ _ ?_ ?_ rfl
    |exact YL)
  | (clear 30 (PSs ..);first
    |refine @Ua _ _ _ _ _ _ ?_ ?_
    |refine @OW _ _ _ _ ?_
    |exact Wy
    |refine Ub ?_
    |exact(OW OR))
  | (clear 30 (PT ..);first
    | (clear 30 (PT _ (.Compare ..) ..);first
      |(clear 30 (PT _ (.Compare _ [.Eq] [_] _) (RT _ (Ai (Ac _ _ (eqS _)))));refine Fc (Ss hr.units) (Jq (g:=id)) ?_ ?_ (DQ _))
      |(clear 30 (PT _ (.Compare _ [.NotEq] [_] _) (RT _ (Ai (Ac _ _ (eqS _)))));refine Fc (NT hr.units) (Jq (g:=λb=>!b)) ?_ ?_ (DQ _))
      |(clear 30 (PT _ _ (RT _ (Ai (Ac _ _ gtA))));refine Fc ZF XD ?_ ?_ (DQ _))
      |(clear 30 (PT _ _ (RT _ (Ai (Ac _ _ isC))));refine Fc Su SV ?_ ?_ (DQ _))
      |(clear 30 (PT _ _ (RT _ (Ai (Ac _ _ (eqT _)))));refine Fc (NT hr.units) (XA (g:=λb=>!b)) ?_ ?_ (DQ _))
      |(clear 30 (PT _ _ (RT _ (Ai (Ac _ _ ltA))));refine Fc ZH XJ ?_ ?_ (DQ _))
      |(clear 30 (PT _ _ (RT _ (Ai (Ac _ _ geA))));refine Fc ZE XC ?_ ?_ (DQ _))
      |(clear 30 (PT _ _ (RT _ (Ai (Ac _ _ Fd))));refine Fc Mr Mt ?_ ?_ (DQ _))
      |(clear 30 (PT _ _ (RT _ (Ai (Ac _ _ (inS _)))));refine Fc (ZG hr.units) (XF (neg:=false)) ?_ ?_ (by with_unfolding_all rfl)))
    | (clear 30 (PT _ (.BoolOp ..) ..);first
      |refine bA ?_)
    | (clear 30 (PT _ (.UnaryOp ..) ..);first
      |refine Y5 ?_)
    |(clear 30 (PT _ _ (RT _ (Ai _)));refine RD ?_)
    |(clear 30 (PT _ _ (RT _ (Ai _)));refine RD ?_))
  | (clear 30 (PG ..);first
    | (clear 30 (PG _ (.Name ..) ..);first
      |(clear 30 (PG _ (.Name _ _) (RG _ (Au _)));exact(DS nd rfl (.inl rfl)))
      |(clear 30 (PG _ (.Name _ _) (RG _ (Au _)));exact(DS nd rfl (.inr rfl)))
      |(clear 30 (PG _ (.Name _ _) (RG _ (Au _)));exact(DS (by show List.Nodup [("state":Str)] ;decide +kernel) rfl (.inl rfl)))
      |(clear 30 (PG _ (.Name _ _) (RG _ (Au _)));exact(DS (by show List.Nodup [("k":Str),("cell":Str),("cells":Str)] ;decide +kernel) rfl (.inl rfl)))
      |(clear 30 (PG _ (.Name _ _) (RG _ (Au _)));exact(DS (by show List.Nodup [("found":Str),("copy":Str)] ;decide +kernel) rfl (.inl rfl)))
      |(clear 30 (PG _ (.Name _ _) (RG _ (Au _)));exact(DS (by show List.Nodup [("sign":Str)] ;decide +kernel) rfl (.inl rfl)))
      |(clear 30 (PG _ (.Name _ _) (RG _ (Au _)));exact(DS (by show List.Nodup [("k":Str),("number":Str),("width":Str)] ;decide +kernel) rfl (.inl rfl)))
      |(clear 30 (PG _ (.Name _ _) (RG _ (Au _)));exact(DS (by show List.Nodup [("k":Str),("left":Str)] ;decide +kernel) rfl (.inl rfl)))
      |(clear 30 (PG _ (.Name _ _) (RG _ (Au _)));exact(DS (by show List.Nodup [("one":Str)] ;decide +kernel) rfl (.inl rfl)))
      |(clear 30 (PG _ (.Name _ _) (RG _ (Au _)));exact(DS (by show List.Nodup [("k":Str),("script":Str)] ;decide +kernel) rfl (.inl rfl))))
    | (clear 30 (PG _ (.Tuple ..) ..);first
      |refine bv rfl ?_)
    | (clear 30 (PG _ (.Subscript ..) ..);first
      |(clear 30 (PG _ _ (RG _ (CG _ _)));refine Rp ?_ ?_)
      |(clear 30 (PG _ _ (RG _ (stD _ _)));refine YX ?_ ?_)))
  | (clear 30 (PGs ..);first
    |refine T5 ?_ ?_
    |exact Wk)
  | (clear 30 (PW ..);first
    |(clear 30 (PW _ (.BoolOp .Or (_::_::_) _) (RT _ (fOr _ _)));refine bB ?_ ?_)
    |(clear 30 (PW _ (.BoolOp .Or [_] _) (RT _ _));refine Y7 ?_)
    |(clear 30 (PW _ (.BoolOp .And (_::_::_) _) (RT _ (Hq _ _)));refine Y6 ?_ ?_)
    |(clear 30 (PW _ (.BoolOp .And [_] _) (RT _ _));refine Wz ?_))
  | (clear 30 (PPf ..);first
    |refine T7 ?_ ?_
    |exact Ww)
  | (clear 30 (PI ..);first
    | (clear 30 (PI _ _ (.Call ..) ..);first
      |(clear 30 (PI _ _ _ (RI _ (DY _)));refine PV rfl M.iG ?_)
      |(clear 30 (PI _ _ _ (RI _ (Hs _)));refine PX rfl M.iG ?_))
    | (clear 30 (PI _ (.Tuple ..) ..);first
      |refine Wm rfl M.gU ?_)
    |(clear 30 (PI _ _ _ (RI _ (EA _)));refine YZ ?_)
    |(clear 30 (PI _ _ _ (RIG _ (Lx _)));refine Wl ?_))
  | (clear 30 (PO ..);first
    |refine Wv ?_
    |exact Wu)
  | (clear 30 (PIf ..);first
    |exact Wn
    |(clear 30 (PIf _ [_] (RT _ _));refine Wo ?_))
theorem all_ok(M:Md K mg A fd):∀(n:Nat) (x:Fx),okK (kd x) P w K mg base (2*n+2) (A x) (fd x) (ps x) (run n x)
 |0,x=>UD
 |n+1,x=>by
   have ih:=all_ok M n;exact step M ih x
end
abbrev fno(x:Fx)(kV dc pm:ie)(an:Option ig)(cd ct:ie):iu:=PySem.W.fnOf (nm x) (ql x) (Do (st x)) (Bq (st x)) (An (st x)) .none kV dc pm an cd ct
structure At(K:ib)(x:Fx)(f:ig)(fd:iu):Prop where
 a:me x=false->PySem.W.nsIn K mainGlobals (nm x)=some (some (.ref f))
 m:me x=true->∃C,PySem.W.nsIn K mainGlobals (ow x)=some (some (.ref C))/\PySem.W.findIn K (.ref C) (nm x)=some (some (.ref f))/\PySem.W.isFn K (.ref f)=true
 fn:Fun K (nm x) (ql x) (st x) f fd
 bd:Binds K fd (ps x) []
 eq:∃kV dc pm an cd ct,fd=fno x kV dc pm an cd ct
theorem at_mk{K:ib}{x:Fx}{f:ig}{od an:Option ig}{sl:Array (Option ie)}{oc kV dc pm cd ct:ie}(e:me x=false)(a:PySem.W.nsIn K mainGlobals (nm x)=some (some (.ref f)))(l:K.lookup f=some ⟨oc,od,.func (fno x kV dc pm an cd ct),sl⟩)(c:PySem.W.codeIn K cd (ql x)=true)(k:PySem.W.keepIn K (.ref f)=true):∃p:ig×iu,At K x p.1 p.2:=by
 refine⟨(f,fno x kV dc pm an cd ct),λ_=>a,λz=>(by rw[e] at z;cases z),FG (st:=st x) l c k,(FG (st:=st x) l c k).binds (ps:=ps x) λ_ _ _ _ _ _ us hl=>?_,_,_,_,_,_,_,rfl⟩
 cases x<;>first|(obtain rfl:=ua2 hl;rfl)|(obtain⟨_,rfl⟩:=us1 hl;rfl)|(obtain⟨_,_,rfl⟩:=us2 hl;rfl)|(obtain⟨_,_,_,rfl⟩:=us3 hl;rfl)|(obtain⟨_,_,_,_,rfl⟩:=us4 hl;rfl)|(obtain⟨_,_,_,_,_,rfl⟩:=us5 hl;rfl)|(obtain⟨_,_,_,_,_,_,rfl⟩:=us6 hl;rfl)|(obtain⟨_,_,_,_,_,_,_,rfl⟩:=us7 hl;rfl)
theorem Yw{K:ib}{x:Fx}{f C:ig}{od an:Option ig}{sl:Array (Option ie)}{oc kV dc pm cd ct:ie}(e:me x=true)(hc:PySem.W.nsIn K mainGlobals (ow x)=some (some (.ref C)))(a:PySem.W.findIn K (.ref C) (nm x)=some (some (.ref f)))(l:K.lookup f=some ⟨oc,od,.func (fno x kV dc pm an cd ct),sl⟩)(c:PySem.W.codeIn K cd (ql x)=true)(k:PySem.W.keepIn K (.ref f)=true)(t:PySem.W.isFn K (.ref f)=true):∃p:ig×iu,At K x p.1 p.2:=by
 refine⟨(f,fno x kV dc pm an cd ct),λz=>(by rw[e] at z;cases z),λ_=>⟨C,hc,a,t⟩,FG (st:=st x) l c k,(FG (st:=st x) l c k).binds (ps:=ps x) λ_ _ _ _ _ _ us hl=>?_,_,_,_,_,_,_,rfl⟩
 cases x<;>first|(obtain rfl:=ua2 hl;rfl)|(obtain⟨_,rfl⟩:=us1 hl;rfl)|(obtain⟨_,_,rfl⟩:=us2 hl;rfl)|(obtain⟨_,_,_,rfl⟩:=us3 hl;rfl)|(obtain⟨_,_,_,_,rfl⟩:=us4 hl;rfl)|(obtain⟨_,_,_,_,_,rfl⟩:=us5 hl;rfl)|(obtain⟨_,_,_,_,_,_,rfl⟩:=us6 hl;rfl)|(obtain⟨_,_,_,_,_,_,_,rfl⟩:=us7 hl;rfl)
theorem xm_all{K:ib}{h:Heap}{mg:Str->Option ie}{P c1 c2 c3 c4:ig}{f:ig}{od an:Option ig}{sl:Array (Option ie)}{oc kV dc pm cd ct:ie}{f2:ig}{od2 an2:Option ig}{sl2:Array (Option ie)}{oc2 kV2 dc2 pm2 cd2 ct2:ie}(X:K.In h)(G:h.Ns mainGlobals mg)(p:PySem.W.nsIn K mainGlobals "ParleyError" = some (some (.ref P)))(a1:PySem.W.nsIn K mainGlobals "Short" = some (some (.ref c1)))(a2:PySem.W.nsIn K mainGlobals "Broken" = some (some (.ref c2)))(a3:PySem.W.nsIn K mainGlobals "NoTalk" = some (some (.ref c3)))(a4:PySem.W.nsIn K mainGlobals "NoName" = some (some (.ref c4)))(q:QY K P [c1,c2,c3,c4]=true)(nd:[P,c1,c2,c3,c4].Nodup)(fi:PySem.W.findIn K (.ref c3) "__init__" = some (some (.ref f)))(l:K.lookup f=some ⟨oc,od,.func (PySem.W.fnOf "__init__" "NoTalk.__init__" (Do (AX (top 5) 0)) (Bq (AX (top 5) 0)) (An (AX (top 5) 0)) .none kV dc pm an cd ct),sl⟩)(ii:G7 K c3 f=true)(hf:PySem.W.isFn K (.ref f)=true)(hs:PySem.W.findIn K (.ref c3) "__setattr__" = some (some (.builtin "object.__setattr__")))(cc:PySem.W.codeIn K cd "NoTalk.__init__" = true)(k:PySem.W.keepIn K (.ref f)=true)(fi2:PySem.W.findIn K (.ref c2) "__init__" = some (some (.ref f2)))(l2:K.lookup f2=some ⟨oc2,od2,.func (PySem.W.fnOf "__init__" "Broken.__init__" (Do (AX (top 4) 0)) (Bq (AX (top 4) 0)) (An (AX (top 4) 0)) .none kV2 dc2 pm2 an2 cd2 ct2),sl2⟩)(ii2:G7 K c2 f2=true)(hf2:PySem.W.isFn K (.ref f2)=true)(hs2:PySem.W.findIn K (.ref c2) "__setattr__" = some (some (.builtin "object.__setattr__")))(cc2:PySem.W.codeIn K cd2 "Broken.__init__" = true)(k2:PySem.W.keepIn K (.ref f2)=true)(n4:KO K c4=true)(n1:KO K c1=true):∃(P:ig) (ca:Str->ig),XM K mg P ca/\(XF1 K (ca "NoTalk") P "NoTalk.__init__" (AX (top 5) 0)/\XF2 K (ca "Broken") P "Broken.__init__" (AX (top 4) 0))/\∀n∈(["NoName", "Short"]:List Str),XN0 K (ca n):=by
 have x:=dq X G p a1 a2 a3 a4 q nd;refine⟨P,_,x,⟨a7 (C:=c3) (st:=(AX (top 5) 0)) ⟨x.cl "NoTalk" (by decide),x.kp "NoTalk" (by decide),x.gt "NoTalk" (by decide),x.gc "NoTalk" (by decide),x.na "NoTalk" (by decide),x.nd "NoTalk" (by decide)⟩ ii hf hs l cc k (λ_ _ _ _ _ _ us hl=>by match us,hl with|[_,_],_=>rfl),a9 (C:=c2) (st:=(AX (top 4) 0)) ⟨x.cl "Broken" (by decide),x.kp "Broken" (by decide),x.gt "Broken" (by decide),x.gc "Broken" (by decide),x.na "Broken" (by decide),x.nd "Broken" (by decide)⟩ ii2 hf2 hs2 l2 cc2 k2 (λ_ _ _ _ _ _ us hl=>by match us,hl with|[_,_,_],_=>rfl)⟩,?_⟩;intro n hn;simp only[uj7,uh1,lG] at hn;rcases hn with rfl|rfl
 .exact Tr n4
 .exact Tr n1
theorem fin_mk{K:ib}{h:Heap}{mg:Str->Option ie}{fa:ig}(X:K.In h)(G:h.Ns mainGlobals mg)(hmg:mg "law" = some (.ref fa))(H:∀x:Fx,∃p:ig×iu,At K x p.1 p.2)(iP:PySem.W.nsIn K mainGlobals "bool" = some none)(iS:PySem.W.nsIn K mainGlobals "dict" = some none)(gU:PySem.W.nsIn K mainGlobals "enumerate" = some none)(iU:PySem.W.nsIn K mainGlobals "int" = some none)(gL:PySem.W.nsIn K mainGlobals "isinstance" = some none)(j7:PySem.W.nsIn K mainGlobals "len" = some none)(iL:PySem.W.nsIn K mainGlobals "list" = some none)(j6:PySem.W.nsIn K mainGlobals "ord" = some none)(iG:PySem.W.nsIn K mainGlobals "range" = some none)(j5:PySem.W.nsIn K mainGlobals "str" = some none)(iJ:PySem.W.nsIn K mainGlobals "tuple" = some none){iV:Tok}(gM:PySem.W.nsIn K mainGlobals "FIRST_SIGN" = some (some (.int 32 iV))){iY:Tok}(gO:PySem.W.nsIn K mainGlobals "LAST_SIGN" = some (some (.int 126 iY))){iM:Tok}(g8:PySem.W.nsIn K mainGlobals "PERCENT_SIGN" = some (some (.int 37 iM))){jR:Tok}(iC:PySem.W.nsIn K mainGlobals "SIGNS" = some (some (.str " !\"#$ &'()*+,-./0123456789:;<=>?@ABCDEFGHIJKLMNOPQRSTUVWXYZ[\\]^_`abcdefghijklmnopqrstuvwxyz{|}~" jR)))(xm:∃(P:ig) (ca:Str->ig),XM K mg P ca/\(XF1 K (ca "NoTalk") P "NoTalk.__init__" (AX (top 5) 0)/\XF2 K (ca "Broken") P "Broken.__init__" (AX (top 4) 0))/\∀n∈(["NoName", "Short"]:List Str),XN0 K (ca n)){hU gS g9:ig}(j9:PySem.W.nsIn K mainGlobals "Reader" = some none)(jB:PySem.W.nsIn K mainGlobals "Parley" = some none)(iT:PySem.W.nsIn K mainGlobals "Listener" = some none)(jC:PySem.W.nsIn K mainGlobals "Relay" = some none)(jP:PySem.W.nsIn K mainGlobals "Desk" = some none)(i8:PySem.W.nsIn K mainGlobals "Hearer" = some (some (.ref hU)))(g7:PySem.W.nsIn K mainGlobals "Side" = some (some (.ref gS)))(g6:PySem.W.nsIn K mainGlobals "Lasting" = some (some (.ref g9)))(jK:Np K gS=true)(iW:Np K g9=true)(iX:MU K g9=true)(iD:PySem.W.findIn K (.ref g9) "speak" = PySem.W.findIn K (.ref gS) "speak")(iB:PySem.W.findIn K (.ref g9) "listen" = PySem.W.findIn K (.ref gS) "listen")(i5:PySem.W.findIn K (.ref g9) "waiting" = PySem.W.findIn K (.ref gS) "waiting")(i4:PySem.W.findIn K (.ref g9) "may_say" = PySem.W.findIn K (.ref gS) "may_say")(gQ:PySem.W.findIn K (.ref g9) "shape_to_say" = PySem.W.findIn K (.ref gS) "shape_to_say")(gX:PySem.W.findIn K (.ref g9) "has_ended" = PySem.W.findIn K (.ref gS) "has_ended")(iE:PySem.W.findIn K (.ref g9) "state" = PySem.W.findIn K (.ref hU) "state")(iH:PySem.W.findIn K (.ref g9) "hear" = PySem.W.findIn K (.ref hU) "hear")(gW:PySem.W.findIn K (.ref g9) "unread_of" = PySem.W.findIn K (.ref hU) "unread_of")(jQ:MU K gS=true)(iK:PySem.W.findIn K (.ref gS) "state" = PySem.W.findIn K (.ref hU) "state")(iO:PySem.W.findIn K (.ref gS) "hear" = PySem.W.findIn K (.ref hU) "hear")(iA:PySem.W.findIn K (.ref gS) "unread_of" = PySem.W.findIn K (.ref hU) "unread_of")(jA:byB K hU "__init__" = true)(jN:byB K gS "__init__" = true):∃(A:Fx->ig) (fd:Fx->iu),Md K mg A fd/\A .law_=fa/\∀(s:ij) (u:ie),BindsTo s (fd .law_) ⟨[u],[]⟩ [("script",u)]:=by
 clear 5(Classical.axiomOfChoice H)F hF;have fm:∀x,me x=true->∀C,PySem.W.nsIn K mainGlobals (ow x)=some (some (.ref C))->PySem.W.findIn K (.ref C) (nm x)=some (some (.ref (F x).1))/\PySem.W.isFn K (.ref (F x).1)=true:=λx hx C h=>by
  clear 5((hF x).m hx)C e1 e2 e3;have e4:=e1.symm.trans h
  cases e4
  exact⟨e2,e3⟩
 have j4:=fm .AI rfl _ i8;have gZ:=fm .As rfl _ i8;have i3:=fm .Ax rfl _ i8;have gP:=fm .AJ rfl _ i8;have i9:=fm .AC rfl _ g7;have j8:=fm .Bp rfl _ g7;have iZ:=fm .A5 rfl _ g7;have i7:=fm .Ay rfl _ g7;have hX:=fm .Av rfl _ g7;have gY:=fm .A8 rfl _ g7;have hJ:=fm .A7 rfl _ g7;have gN:=fm .AF rfl _ g7;have gR:=fm .AT rfl _ g7;have iF:=fm .AK rfl _ g6;have iQ:=fm .AV rfl _ g6;have iN:=fm .AG rfl _ g6;have iI:=fm .AB rfl _ g6;have i6:=fm .Ao rfl _ g6;have cm:CM K:=bi λn hn=>by
  simp only[Lv,uj7,uh1,lG] at hn;rcases hn with rfl|rfl|rfl|rfl|rfl|rfl|rfl
  .exact .inl j9
  .exact .inr ⟨_,g7,jK⟩
  .exact .inr ⟨_,g6,iW⟩
  .exact .inl jB
  .exact .inl iT
  .exact .inl jC
  .exact .inl jP
 refine⟨λx=>(F x).1,λx=>(F x).2,{fn:=λx=>(hF x).fn,mgs:=λx e=>uk5 X G ((hF x).a e),bd:=λx=>(hF x).bd,cm:=cm,Ma:=⟨_,g6,uk5 X G g6,VJ iX iF.1 iF.2,⟨iQ.1,iQ.2,Fun.kp (hF .AV).fn⟩,⟨iN.1,iN.2,Fun.kp (hF .AG).fn⟩,⟨iI.1,iI.2,Fun.kp (hF .AB).fn⟩,⟨i6.1,i6.2,Fun.kp (hF .Ao).fn⟩,⟨iD.trans i7.1,i7.2,Fun.kp (hF .Ay).fn⟩,⟨iB.trans hX.1,hX.2,Fun.kp (hF .Av).fn⟩,⟨i5.trans gY.1,gY.2,Fun.kp (hF .A8).fn⟩,⟨i4.trans hJ.1,hJ.2,Fun.kp (hF .A7).fn⟩,⟨gQ.trans gN.1,gN.2,Fun.kp (hF .AF).fn⟩,⟨gX.trans gR.1,gR.2,Fun.kp (hF .AT).fn⟩,⟨iE.trans gZ.1,gZ.2,Fun.kp (hF .As).fn⟩,⟨iH.trans i3.1,i3.2,Fun.kp (hF .Ax).fn⟩,⟨gW.trans gP.1,gP.2,Fun.kp (hF .AJ).fn⟩⟩,Ra:=⟨_,g7,uk5 X G g7,VJ jQ i9.1 i9.2,⟨j8.1,j8.2,Fun.kp (hF .Bp).fn⟩,⟨iZ.1,iZ.2,Fun.kp (hF .A5).fn⟩,⟨i7.1,i7.2,Fun.kp (hF .Ay).fn⟩,⟨hX.1,hX.2,Fun.kp (hF .Av).fn⟩,⟨gY.1,gY.2,Fun.kp (hF .A8).fn⟩,⟨hJ.1,hJ.2,Fun.kp (hF .A7).fn⟩,⟨gN.1,gN.2,Fun.kp (hF .AF).fn⟩,⟨gR.1,gR.2,Fun.kp (hF .AT).fn⟩,⟨iK.trans gZ.1,gZ.2,Fun.kp (hF .As).fn⟩,⟨iO.trans i3.1,i3.2,Fun.kp (hF .Ax).fn⟩,⟨iA.trans gP.1,gP.2,Fun.kp (hF .AJ).fn⟩⟩,jM:=⟨_,uk5 X G i8,Vy jA j4.1 (Fun.kp (hF .AI).fn)⟩,jY:=⟨_,uk5 X G g7,Vy jN i9.1 (Fun.kp (hF .AC).fn)⟩,xm:=xm,iP:=uf0 X G iP,iS:=uf0 X G iS,gU:=uf0 X G gU,iU:=uf0 X G iU,gL:=uf0 X G gL,j7:=uf0 X G j7,iL:=uf0 X G iL,j6:=uf0 X G j6,iG:=uf0 X G iG,j5:=uf0 X G j5,iJ:=uf0 X G iJ,gM:=⟨iV,uk5 X G gM⟩,gO:=⟨iY,uk5 X G gO⟩,g8:=⟨iM,uk5 X G g8⟩,iC:=⟨jR,uk5 X G iC⟩ },?_,λs u=>?_⟩
 .have e:=hmg.symm.trans (uk5 X G ((hF .law_).a rfl))
  cases e
  rfl
 .obtain⟨_,_,_,_,_,_,e⟩:=(hF .law_).eq;show BindsTo s (F .law_).2 _ _;rw[e];exact .of_eq rfl
theorem walk{l:PySem.W.OpenLaw}{q:im}{loose:List Str}{XP:(Str->Option ie)->Heap->Prop}{YP:ir->Heap->Prop}{d:DefRec}{K:Params->ib}(m:Nat)(hm:Room (2*m+2) callerA)(hn:l.most=some 63)(hdf:d.params.defaults=[])
 (hY:∀(w:ir) (h:Heap),YP w h->(K w.params).In h) (lt:∀ns:List Int,ns.length<=63->∃S',run m .law_ [.scr ns] []=some (.bl true,S'))
 (F:∀(w:ir) (mg:Str->Option ie) (fa:ig) (h:Heap),(K w.params).In h->h.Ns mainGlobals mg->mg d.name=some (.ref fa)->
   ∃(A:Fx->ig) (fd:Fx->iu),Md (K w.params) mg A fd/\A .law_=fa/\∀(s:ij) (u:ie),BindsTo s (fd .law_) ⟨[u],[]⟩ [("script",u)]) :
 PySem.W.WalkO q loose XP YP l.row.toRowW d [] (λf vs=>PySem.call f vs):=
 L2.Yh (n:=63) (k:=2*m+2) (x:="script") (CX:=λ_=>CX0) (sp:=λw=>spF (K w.params) (run m .law_)) hn (by decide) hdf hm hY
  (λw mg fa h KX G hmg=>by clear 5(F w mg fa h KX G hmg)A fd M e b;subst e;exact⟨fd .law_,b,λbase _ _=>all_ok M m .law_⟩)
  (λw H a ns hl hO hS=>by clear 5(lt ns hl)S' e;exact R7 hO hS e) λ_ _ _ _ _ z=>z
theorem WX(k:Nat):Oz (run (k+1) .C9):=λd h=>NK h
theorem FY(k:Nat):Fm (run (k+2) .Bd):=Tp (WX k)
theorem N9(k:Nat):Kg (run (k+1) .DC):=P5
theorem Vj(k:Nat):M4 (run (k+2) .C8):=ND (N9 k)
theorem JQ:∀(n k:Nat),2*n+3<=k->F4 (run k .Fb) n
 |0,k,_=>λs hs=>absurd s.depth_pos ∅
 |n+1,k,h=>by
   obtain⟨j,rfl⟩:∃j,k=j+4:=jm ∅;have ih:=JQ n (j+2) ∅;exact Wq (LA ih (FY j)) (NC ih) (NB ih) (Vj (j+1)) (FY (j+1))
theorem NL(k:Nat):HX (run (k+1) .DE):=WI
theorem UC(k:Nat):M2 (run (k+2) .BW):=WY (NL k)
theorem Ps(k:Nat):Kk (run (k+1) .BS):=Vq
theorem NA:∀(n k:Nat),n+3<=k->I9 (run k .BC) n
 |0,k,_=>λs hs=>absurd s.depth_pos ∅
 |n+1,k,h=>by
   obtain⟨j,rfl⟩:∃j,k=j+3:=jm ∅;exact Wp (NA n (j+2) ∅) (Ps (j+1)) (UC j)
theorem Nb(k:Nat):BXw (run (k+1) .Dd):=YB
theorem aH(k:Nat):UXw (run (k+2) .BN):=aI (Nb k)
theorem aA(k:Nat):SXw (run (k+2) .Ek):=aB (N9 k) (Nb k)
theorem N0:∀(n k:Nat),2*n+4<=k->HZ (run k .BI) n
 |0,k,_=>λs hs=>absurd s.depth_pos ∅
 |n+1,k,h=>by
   obtain⟨j,rfl⟩:∃j,k=j+5:=jm ∅;exact Qx rfl rfl rfl rfl rfl (aH (j+1)) (aA (j+1)) (NL (j+2)) (Nb (j+2)) (Ps (j+2)) (N0 n (j+3) ∅)
theorem WQ(k:Nat):Ts (run (k+11) .BX):=WP (N0 3 (k+10) ∅)
theorem Qy(k:Nat):JE (run (k+12) .Ei):=N1 (WQ k)
theorem Uf(k:Nat):Pt (run (k+13) .Ax):=Ue (Qy k)
theorem LJ(k:Nat):E3 (run (k+1) .Cp):=ZO
theorem KM(k:Nat):Ja (run (k+14) .Av):=P8 (LJ (k+12)) (Uf k)
theorem Tg(k:Nat):GZ (run (k+15) .A5):=Tf (KM k)
theorem Mx(k:Nat):E4 (run (k+15) .AG):=Te (KM k)
theorem RV(k:Nat):Lg (run (k+1) .Ep):=Iu
theorem Tq(k:Nat):Lj (run (k+2) .Du):=Vr (RV k)
theorem KR(k:Nat):Hk (run (k+3) .Cr):=LN (Tq k)
theorem Qm(k:Nat):JD (run (k+10) .Cq):=MM (JQ 3 (k+9) ∅) (KR (k+6))
theorem Qn(k:Nat):Lh (run (k+10) .Cq):=Ql (JQ 3 (k+9) ∅) (KR (k+6))
theorem UB(k:Nat):M1 (run (k+1) .CI):=WW
theorem Uy(k:Nat):Pw (run (k+7) .BK):=Ux (NA 3 (k+6) ∅)
theorem SY(k:Nat):F7 (run (k+11) .Ay):=SX (Uy (k+3)) (UB (k+9)) (Qm k)
theorem QD(k:Nat):Fl (run (k+11) .Ay):=QC (Qn k)
theorem OE(k:Nat):JC (run (k+3) .Ao):=Ty (FY k)
theorem TB(k:Nat):MZ (run (k+3) .Ao):=Tz (FY k)
theorem Mu:∀(d k:Nat),d+1<=k->GY (run k .Cm) d
 |0,k,h=>by
   obtain⟨j,rfl⟩:∃j,k=j+1:=jm ∅;exact Vb
 |d+1,k,h=>by
   obtain⟨j,rfl⟩:∃j,k=j+1:=jm ∅;exact Vc (Mu d j ∅)
theorem Pm:∀(n k:Nat),n<=k->JF (run k .Cn) n
 |0,k,_=>λs hs=>absurd s.depth_pos ∅
 |n+1,k,h=>by
   obtain⟨j,rfl⟩:∃j,k=j+1:=jm ∅;exact aJ (Pm n j ∅)
theorem Y9:GrC (run 99 .BU):=d4 (eG (Mu 2 97 (by decide)) Zt)
theorem law_true(ns:List Int)(h:ns.length<=63):∃S',run 100 .law_ [.scr ns] []=some (.bl true,S'):=by
 clear 5(bH (SY 84) (QD 84) (Pm 3 96 (by decide)) (Mx 81) (Tg 81) (OE 94) (TB 94) (Mx 82) (cS2:=run 97 .A5) (OE 95) (LJ 96) (LJ 95) YC Y9 h)r S' e p;subst p;exact⟨S',e⟩
end K78
structure PySem.W.Fast:Prop where(tw10003057886531344 tw10038245482800355825 tw10041365139036902547 tw10047165545670400574 tw10139586697349506690 tw10146562525428251223 tw10194934136927789682 tw10202788956345466380 tw1024765114470706819 tw10272468338599533414 tw10274654370540426564 tw10360054912841284720 tw10379271624564706204 tw104113251552901596 tw10495484992766783080 tw10525256358954754275 tw10542774480324840517 tw10559350460854033983 tw10575631462819305375 tw10582344012832265921 tw10592106290241254053 tw10606691553465412990 tw10624553510787593230 tw10659148696706045220 tw10705738168224909288 tw10710998474451748580 tw10715532390763663161 tw10731604328274101621 tw10799008007301969876 tw1081605838498038501 tw10916773122381589954 tw10960562892699255755 tw10969386208972831755 tw11053797835148057958 tw11062021788112628717 tw11184765080505173185 tw11191858195333689749 tw1120604758776115358 tw11213098421132307269 tw11221033929655015351 tw11228491843784265973 tw11236639101529167653 tw11245372095466037948 tw1128356101011558988 tw11290806310753839715 tw11364293063454272772 tw11402708945400129272 tw11418685411044426864 tw1143212856679467730 tw11461005153361287825 tw11462713066975363461 tw11477874446477197933 tw11494295139046864695 tw11494531855182656016 tw1151441856892224532 tw11532618114306074032 tw11559063687388290816 tw11572125150135779356 tw11589958702506469488 tw11612944834337265621 tw11648300409101035477 tw11663228258092479906 tw11666203110835380188 tw11677503096670905087 tw11812111786272123362 tw11832482821492542928 tw11875678925725977995 tw11876428558694020987 tw11889384925584056466 tw11937040753740015246 tw11939875667423821054 tw11943108010878359965 tw11947202783804944182 tw11973498967283705553 tw12017651007736552623 tw12019677654935521847 tw1202486964144754773 tw12027816913095657320 tw12086279583807383020 tw12137991092025028664 tw12143266239616886789 tw12147462246646372165 tw12275589375892031805 tw12358443001413486820 tw12408889420053084459 tw12494770793279105194 tw12597044532804897944 tw12599977307781019748 tw12609957839304858480 tw1264606632027518301 tw12676695767766848380 tw12728235759654024199 tw12734626318968079447 tw1278316757182990440 tw12826833728520912166 tw12831457995680921112 tw12917832318290095926 tw12935771284204401095 tw12999394514854756300 tw13022158939073774199 tw1305019337132079303 tw13057222683343853076 tw13139609636044567612 tw13160269887356845754 tw13211119005477764909 tw13245617509056153863 tw13277401590371141081 tw13284088095263655130 tw13289848922552669366 tw13323471196445903229 tw13325297922237389197 tw13328655752594039547 tw13332822987729438206 tw13332881911650247144 tw13364004413062514956 tw13410396823069299574 tw13483059926497260586 tw13510894289111135222 tw13567442568212399992 tw13573552921076223434 tw13600245997629286526 tw13614251996052276337 tw13615038448768525844 tw13663301819670067647 tw13670255103479184404 tw13672852066284404327 tw13729563679496801283 tw13752204869917513013 tw13766633992013400054 tw13827527747112460443 tw13846595953190059684 tw14005842995292853904 tw14023072421502776411 tw14044411784703703003 tw14120255679211856553 tw14129509406835143142 tw14142881797610647598 tw14167867492704280181 tw14178063395264975158 tw14194299120468537720 tw14215009259462852229 tw14220153114151526727 tw14237563575546154580 tw14269839165439068096 tw14301802144564239416 tw14337551403170194647 tw14342703861503006861 tw14351946223428760350 tw14362510318144293448 tw14371683509757187059 tw14372581045193740211 tw14373079752764618917 tw1444141163849950317 tw14447309475036314639 tw14477317223486252197 tw14496892210092051098 tw14501384835968671634 tw14521859698269286623 tw14528652993003703811 tw1455389802180187127 tw14609572251181515944 tw14630109882980147159 tw14634262436971914801 tw14649941778442156351 tw14700818543417663576 tw1479351969036499321 tw14796637406661754648 tw14836321090469949050 tw14864168659695723207 tw1487138633002884762 tw14906233266984858396 tw1492082773862271868 tw14921972853344413384 tw14930136985466877649 tw1495225422266856007 tw15072620385295403393 tw15110690162587777700 tw15146419698837113535 tw15232305634702492345 tw1523551005871261310 tw15236869991265626571 tw15268133831529997577 tw15361273927737463669 tw15367911074980694112 tw15416261201569231284 tw15473193769990790980 tw1547716695821231920 tw15480143426007749435 tw15597762863282283305 tw15618665196612696597 tw15647836122824557729 tw15697248353383196006 tw15737857323634171914 tw15788598289723877699 tw15831809080004484806 tw15865956476639339278 tw15876522458317895206 tw1588594422853723142 tw15900546008033750157 tw15926145818773642000 tw15932721913705944643 tw15963185990530987314 tw15977933155824036055 tw16022397361547798694 tw16026449465635163836 tw16069530198055869343 tw16091276714463275805 tw16145620090099788432 tw16149596516107203152 tw16216825812738340935 tw16253705908067883657 tw16253774988826978646 tw16255759529923286609 tw16257693529102425260 tw16327275812799378476 tw16351365341976853590 tw1636555396644130955 tw16393067314669354576 tw16398906687180283445 tw16400351649640310052 tw16431614207062143754 tw16432116059034282648 tw16434218564845146892 tw16465033475546665637 tw16548210418900169394 tw16550842796008175373 tw16574736167388671419 tw16594902028736814574 tw16616056080620725846 tw16728401044196508001 tw16771147463088576922 tw16774395087845542507 tw16808436291221776590 tw16902038137903082714 tw16929655336587001532 tw16964309262539824489 tw16965350666447167705 tw16972117773449314552 tw17006820387052439860 tw17096356246544902061 tw17106142308662178841 tw17154551758715941989 tw17214037189486407896 tw17303349825872408228 tw17321836683921931528 tw17326956219882294141 tw17380988911851260718 tw17395437639803387386 tw1741752945871539596 tw17425532526836280821 tw17464283561346382640 tw17572867884412280337 tw1757681836597896674 tw17584899758974186071 tw17588517340384677668 tw17598624658349156833 tw17609925884906378377 tw17695626501267454048 tw17705026767978151501 tw17723198535274885361 tw17755535459763730266 tw17778621944086058007 tw17823963011401487712 tw17842092157226489255 tw1792029703178225250 tw17924246473131129987 tw17984101321069291063 tw18085854268623516594 tw18094228539419068387 tw18204799486861576392 tw18210358785230133524 tw18226951476030030651 tw18254276282556071302 tw18292342054224573136 tw18320378703041980031 tw18397945203537774721 tw18399605767724225378 tw1844034260234851531 tw1931401341121445925 tw1931751642677827656 tw1992107198852033041 tw2032437284620049369 tw2041650042549935186 tw2076819927938804810 tw208113800323107445 tw2180014075068142220 tw2181530795301793563 tw2181589501162364506 tw2184825940783406672 tw2241730168406675808 tw2256888115248198926 tw2258960578833442529 tw2260104205467893832 tw2276902341352463376 tw2299709081021979374 tw2334768337166503106 tw239867726025715250 tw2407522962629599687 tw2426341168372570207 tw2450506757520260069 tw246554955336605219 tw2485590701002532871 tw2488846054254807823 tw2503730178875470805 tw2506825689568861174 tw2545990599450171681 tw2580886767583938387 tw2589743228001129081 tw2606223968054816114 tw2613992395881859341 tw2641623015023197708 tw2681710667125915720 tw2710036099020033150 tw2770128969342979209 tw2814595108152104856 tw2884215786161957054 tw29235589464148947 tw2948639176986766961 tw2966105254742547 tw3016616467606209648 tw3096908768174133508 tw3124769880288217723 tw318253259646337112 tw3185192257002966244 tw3267182836543334239 tw3281554677793609711 tw3293358734384602702 tw3352066942011258473 tw3396487437380276756 tw3398410282364939901 tw3400988266142543162 tw3509616847448573000 tw3528085634296667713 tw3611076944159566132 tw3629959220046601534 tw3675370642190295837 tw368604567973652101 tw3725694250396217745 tw3756538284868997398 tw3839038197433861045 tw3858937780314029529 tw3916564138681525949 tw3952538274680754174 tw3953466104861251897 tw3953466750853872128 tw3975090497163513349 tw4055605847461147142 tw4076126939556246266 tw4081892085846983634 tw4115571323932667689 tw4121541217172821080 tw4242064484619334328 tw4242902488720129788 tw4267354154661465045 tw4315571841303854193 tw4327874603159114753 tw4328997440009741112 tw4329746376380106495 tw4371282302471452273 tw4385871090767099769 tw4389528502397366791 tw4396379064677816347 tw4417960940586154376 tw4427541099081035044 tw4434209392023494485 tw4436045251791073060 tw4436947930066406768 tw452731079716782851 tw4553647710182856336 tw4572523583021927823 tw4637385055980675094 tw4648842416088852631 tw4660765204478702771 tw4729901089991571774 tw4735037216169448099 tw4741922326175040365 tw4748545487714922910 tw478518815121958067 tw4785574610197113954 tw4811326386128260547 tw4819073175229161139 tw485067955860684900 tw4897385248517952512 tw497404331396483744 tw4979064648168151635 tw5034923155299199959 tw5036894802999359615 tw5064425540935065726 tw5073949890692820055 tw5104028112149020465 tw5105092092843840572 tw5157530954819827634 tw5210953501656221072 tw5226993411028044799 tw5278482742558333198 tw5304960426334203086 tw535618139030697059 tw5404265675683310116 tw5430972272758108215 tw547673156417045189 tw5527124257624709493 tw5533956514713380848 tw5597944426783472601 tw564038369042222918 tw5684394344036858907 tw5789146427139964153 tw5818688238357796734 tw5859160155201860091 tw5887224595590235769 tw5979847705720152550 tw6041807495149500063 tw6083658348321262339 tw6234835785784751329 tw6260215583088937021 tw6318836608585167065 tw6377454491693646831 tw6427366733547207961 tw6433681383553400834 tw6436293274301993734 tw6473854131286570340 tw6481095877977171110 tw6482686303421799271 tw6503472551892504462 tw6528803279431538072 tw6567677753695451462 tw6568265856034562757 tw6581158919637821464 tw6598224105376470985 tw6608036412489969239 tw6661208577499504521 tw6669705212864297131 tw6670805931594628850 tw6721683593038672483 tw6733197041482730671 tw6753694170161060136 tw6755545815039442681 tw6790056470672670115 tw6792146819592112473 tw679468334230132566 tw680397841154922016 tw6811348199584488814 tw681832714334873150 tw691333760682269657 tw6953250876422159397 tw6968539416825556521 tw6995199772859525551 tw7032004740068972019 tw7034616126000709970 tw7068281008326675502 tw706858898562525461 tw7103738895883644460 tw7167270905890436120 tw7195552696530232794 tw7242354257943367331 tw7281076530416271473 tw7282420343921599236 tw7292035285994840208 tw7292976592156280240 tw7329722793461992943 tw7376256760285164973 tw7405560707528486433 tw7415442780182907885 tw7428578925338598124 tw7435968128658550758 tw7455211535877381981 tw7461833470917765654 tw749855788472765639 tw7534423606619514003 tw7552040612763688997 tw7588155445164505377 tw7616258900385005272 tw7637393603042771237 tw7664942702356237718 tw7675714739673958871 tw7711319966350714875 tw7738495706989930525 tw774764766834794319 tw77709747518693210 tw7776932567338273651 tw7786864704737676088 tw7844316576078232818 tw7881246611472922733 tw7904017950257013522 tw790640765532858924 tw7937601586435390027 tw7950144848042308890 tw7969345182282060128 tw8044602236480126824 tw8046447517930459633 tw8118905690810083882 tw8252296529538068715 tw8258010306044539337 tw8260848968484919358 tw8363802346661208132 tw8379949046571799015 tw8505621162355458244 tw8524677538177209854 tw8525963061041210469 tw8537567069831233472 tw8573241436146363297 tw8580237085266030884 tw8604903477422974582 tw8722566134074544553 tw8728027513360203811 tw8732690878422405970 tw8772299295997844164 tw8778346408721164421 tw878569018063705070 tw8792938995787349774 tw880537406461588494 tw883348518269337287 tw8857137893804791071 tw8906116113354724894 tw8907215686100043745 tw8949741796683995618 tw8968923646748036204 tw8972485105536491378 tw9011713516905080010 tw9019714277997861693 tw9056499164408970478 tw9069113597918891079 tw9124489515851249546 tw9142273208617509352 tw9166828045348092508 tw9200008858985146814 tw9206485926542054893 tw9228857248212602305 tw9231052810500449599 tw9240001020873489532 tw9299181685356086098 tw9302517509667506704 tw9342410365824830007 tw9367857185275935594 tw9444978908520181255 tw9449085909519246826 tw9509634031388443349 tw9536726048009612441 tw9542134275609381691 tw9552726886639910123 tw9557942369078870718 tw9572405724372955214 tw9575075555755124639 tw9613034390732187721 tw971766470455713602 tw9770794274738669328 tw9774865882287637429 tw9787722028962355839 tw9793080056486139413 tw9827840192634428647 tw9878939031518526720 tw9893892138057422510 tw9925471925250705723 tw9937634941255806894 tw9963824190657541896:True)
open PySem PySem.W PyProof.Rows
set_option tactic.hygienic true in
set_option maxRecDepth 100000 in
set_option maxHeartbeats 0 in
theorem PySem.Challenge.cw_wireparley_k78_lasting_as_a_side_holds : PySem.Challenge.rw_wireparley_k78_lasting_as_a_side.Holds := by
 w_on;o_law;k_head;(case hw=>w_witness2)
 k_fill
 refine K78.walk (l:=PySem.Challenge.rw_wireparley_k78_lasting_as_a_side) 100 ⟨rfl,by decide,by decide⟩ rfl rfl (λw h Y=>PySem.W.kIn_of Y) K78.law_true ?F
 case F=>
  intro w mg fa h KX G hmg;refine' K78.fin_mk KX G hmg ?H ?iP ?iS ?gU ?iU ?gL ?j7 ?iL ?j6 ?iG ?j5 ?iJ ?gM ?gO ?g8 ?iC ?xm ?j9 ?jB ?iT ?jC ?jP ?i8 ?g7 ?g6 ?jK ?iW ?iX ?iD ?iB ?i5 ?i4 ?gQ ?gX ?iE ?iH ?gW ?jQ ?iK ?iO ?iA ?jA ?jN
  (case H=>intro x;cases x<;>first|(refine' K78.at_mk rfl ?a ?l ?c ?k;(case a=>k_is);(case l=>k_is);(case c=>k_is);(case k=>k_is))|(refine' K78.Yw rfl ?h ?a ?l ?c ?k ?t;(case h=>k_is);(case a=>k_is);(case l=>k_is);(case c=>k_is);(case k=>k_is);(case t=>k_is)))
  (case j9=>k_is)
  (case jB=>k_is)
  (case iT=>k_is)
  (case jC=>k_is)
  (case jP=>k_is)
  (case i8=>k_is)
  (case g7=>k_is)
  (case g6=>k_is)
  (case jK=>kernel_rfl)
  (case iW=>kernel_rfl)
  (case iX=>kernel_rfl)
  (case iD=>kernel_rfl)
  (case iB=>kernel_rfl)
  (case i5=>kernel_rfl)
  (case i4=>kernel_rfl)
  (case gQ=>kernel_rfl)
  (case gX=>kernel_rfl)
  (case iE=>kernel_rfl)
  (case iH=>kernel_rfl)
  (case gW=>kernel_rfl)
  (case jQ=>kernel_rfl)
  (case iK=>kernel_rfl)
  (case iO=>kernel_rfl)
  (case iA=>kernel_rfl)
  (case jA=>kernel_rfl)
  (case jN=>kernel_rfl)
  (case iP=>k_is)
  (case iS=>k_is)
  (case gU=>k_is)
  (case iU=>k_is)
  (case gL=>k_is)
  (case j7=>k_is)
  (case iL=>k_is)
  (case j6=>k_is)
  (case iG=>k_is)
  (case j5=>k_is)
  (case iJ=>k_is)
  (case gM=>k_is)
  (case gO=>k_is)
  (case g8=>k_is)
  (case iC=>k_is)
  (case xm=>refine' K78.xm_all KX G ?x_p ?x_a1 ?x_a2 ?x_a3 ?x_a4 ?x_q ?x_nd ?x_fi ?x_l ?x_ii ?x_hf ?x_hs ?x_cc ?x_k ?y_fi ?y_l ?y_ii ?y_hf ?y_hs ?y_cc ?y_k ?x_n4 ?x_n1;(case x_p=>k_is);(case x_a1=>k_is);(case x_a2=>k_is);(case x_a3=>k_is);(case x_a4=>k_is);(case x_q=>kernel_rfl);(case x_nd=>decide);(case x_fi=>k_is);(case x_l=>k_is);(case x_ii=>kernel_rfl);(case x_hf=>k_is);(case x_hs=>k_is);(case x_cc=>k_is);(case x_k=>k_is);(case y_fi=>k_is);(case y_l=>k_is);(case y_ii=>kernel_rfl);(case y_hf=>k_is);(case y_hs=>k_is);(case y_cc=>k_is);(case y_k=>k_is);(case x_n4=>kernel_rfl);(case x_n1=>kernel_rfl))
