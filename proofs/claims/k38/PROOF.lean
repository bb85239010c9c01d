import PyProof.Rows.All
import Wide.All
import OpenK.AllK
import PySem.Challenge.RW_wireparley_k38_whole_parleys_are_talks
set_option bootstrap.genMatcherCode false
set_option genSizeOf false
noncomputable section
abbrev gf:=PySem.Value
abbrev gg:=PySem.Addr
abbrev gh:=PySem.Shared
abbrev gi:=PySem.Program
abbrev gj:=PySem.World
abbrev gk:=PySem.FuncData
def gm:=@PySem.Calls.Name_function_global
def gn:=@Int.fdiv_eq_ediv_of_nonneg
def gq:=@PySem.F.slot_list_append
def gu:=@PySem.F.type_list_append
def gy:=@PySem.F.slot_list_extend
def gz:=@PySem.F.type_list_extend
def ia:=@List.eq_of_mem_replicate
def ib:=@Nat.exists_eq_add_of_le'
def ic:=@List.getElem?_cons_succ
def ie:=@PySem.W.cellsFrom_some
def ig:=@List.drop_eq_nil_of_le
def ii:=@Nat.le_of_ble_eq_true
def ij:=@PySem.Obj.isFreed_of_fields
def im:=@List.concat_eq_append
def ir:=@beq_eq_false_iff_ne
def iu:=@PySem.mem_of_lookup
def iy:=@PySem.wpAny_isSubtype_exc
def iz:=@PyProof.Rows.assignInOrder_cons
def ja:=@PySem.wpAny_Call_Name_kw
def jb:=@of_decide_eq_false
def jd:=@PySem.wpAny_truthy_bool
def je:=@PySem.wpAny_newObj_type
def jf:=@PySem.wpAny_loadPart_at
def jg:=@forall_eq_or_imp
def jh:=@PySem.wpAny_execs_nil
def ji:=@PySem.wpAny_passesOwn
def jj:=@PySem.PassesOwn.never
def jk:=@PySem.wpAny_bindName
def jl:=@PySem.Heap.size_push
def jm:=@PySem.wpAny_setField
def jn:=@PySem.wpAny_standAt
def jq:=@List.map_drop
def jr:=@Bool.false_or
def ju:=@Prod.mk.injEq
def jv:=@List.take_add
def jy:=@Nat.le_of_lt
def kc:=@Nat.le_of_eq
def ke:=@PySem.codeAny_mono
def kf:=@Nat.mul_comm
def kg:=@Nat.pow_zero
def kh:=@Nat.lt_or_ge
def ki:=@List.any_nil
def kj:=@PySem.sizeLine_eq
def kl:=@beq_iff_eq
def km:=@PySem.wpAny_call
def kn:=@PySem.typeIs_int
def kq:=@PySem.call_meets
def kr:=@congrArg
def ku:=@if_false
def ky:=@or_false
def kz:=@if_true
def kP:=@Iff.rfl
def kQ:=@if_pos
def kS:=@if_neg
def kT:=@not_or
local macro_rules|`(tactic|clear 5 $t $[$a:ident]*)=>`(tactic|obtain⟨$[$a:ident],*⟩:=$t)
abbrev gd:=PySem.W.Frag
open PySem.W (codeIn)
def ua0:=@PyProof.Rows.slot_tuple_getitem
def ua1:=@List.eq_nil_of_length_eq_zero
def ua2:=@List.drop_append_of_le_length
def ua3:=@List.take_append_of_le_length
def ua4:=@PyProof.Rows.callWith_type1
def ua5:=@PySem.F.slot_int_bit_length
def ua6:=@List.getElem?_append_right
def ua7:=@Array.getElem?_eq_some_iff
def ua8:=@List.getD_eq_getElem?_getD
def ua9:=@List.getElem?_eq_some_iff
def ub0:=@List.getElem?_append_left
def ub1:=@List.drop_eq_getElem_cons
def ub2:=@List.getElem?_eq_none_iff
def ub3:=@List.getElem?_eq_getElem
def ub4:=@List.getElem?_replicate
def ub5:=@PySem.F.plainAttrs_list
def ub6:=@Int.eq_ofNat_of_zero_le
def ub7:=@Nat.add_sub_cancel_left
def ub8:=@List.getElem?_set_self
def ub9:=@PySem.Heap.get?_push_of_some
def uc0:=@PySem.Heap.get?_update_other
def uc1:=@Option.map_eq_some_iff
def uc2:=@List.take_of_length_le
def uc3:=@Nat.div_div_eq_div_mul
def uc4:=@Nat.le_of_succ_le_succ
def uc5:=@List.drop_of_length_le
def uc6:=@List.mem_append_right
def uc7:=@PySem.W.methodCall_KW
def uc8:=@List.length_replicate
def uc9:=@List.length_singleton
def ud0:=@PySem.Heap.get?_update_self
def ud1:=@List.take_append_drop
def ud2:=@List.take_eq_take_min
def ud3:=@List.getElem?_eq_none
def ud4:=@List.mem_cons_of_mem
def ud5:=@List.getElem?_set_ne
def ud6:=@List.mem_of_getElem?
def ud7:=@List.filterMap_cons
def ud8:=@Array.length_toList
def ud9:=@PySem.Heap.get?_push_size
def ue0:=@PySem.W.plainGet_of
def ue1:=@List.replicate_succ
def ue2:=@List.map_congr_left
def ue3:=@List.take_succ_cons
def ue4:=@Nat.lt_of_lt_of_le
def ue5:=@List.mem_cons_self
def ue6:=@Bool.false_ne_true
def ue7:=@PySem.W.callWith_K
def ue8:=@List.length_append
def ue9:=@Bool.false_eq_true
def uf0:=@List.mem_singleton
def uf1:=@List.getElem?_take
def uf2:=@Int.emod_lt_of_pos
def uf3:=@List.filter_append
def uf4:=@PySem.W.mg_none_of
def uf5:=@List.size_toArray
def uf6:=@List.getElem?_map
def uf7:=@Int.toNat_natCast
def uf8:=@List.flatten_cons
def uf9:=@List.append_assoc
def ug0:=@Bool.eq_false_iff
def ug1:=@List.getElem?_set
def ug2:=@Option.some.injEq
def ug3:=@decide_eq_true_eq
def ug4:=@of_decide_eq_true
def ug5:=@List.getElem_inj
def ug6:=@List.length_cons
def ug7:=@Nat.lt_succ_self
def ug8:=@List.length_take
def ug9:=@List.length_drop
def uh0:=@Bool.and_eq_true
def uh1:=@List.lookup_cons
def uh2:=@List.drop_length
def uh3:=@Nat.le_add_right
def uh4:=@List.all_eq_true
def uh5:=@List.not_mem_nil
def uh6:=@List.getElem_mem
def uh7:=@List.cons_append
def uh8:=@List.take_length
def uh9:=@List.filter_cons
def ui0:=@beq_self_eq_true
def ui1:=@List.mem_append
def ui2:=@Option.some.inj
def ui3:=@List.length_map
def ui4:=@PySem.W.kia_one
def ui5:=@List.append_nil
def ui6:=@List.nodup_cons
def ui7:=@List.of_mem_zip
def ui8:=@List.foldl_cons
def ui9:=@List.nil_append
def uj0:=@List.find?_cons
def uj1:=@List.length_nil
def uj2:=@Option.map_some
def uj3:=@Bool.or_eq_true
def uj4:=@List.cons.injEq
def uj5:=@List.map_append
def uj6:=@List.length_set
def uj7:=@Int.emod_nonneg
def uj8:=@decide_eq_false
def uj9:=@List.mem_range
def uk0:=@Bool.false_and
def uk1:=@Bool.and_false
def uk2:=@List.drop_zero
def uk3:=@decide_eq_true
def uk4:=@Nat.lt_irrefl
def uk5:=@List.mem_cons
def uk6:=@List.map_cons
def uk7:=@Bool.or_false
def uk8:=@List.all_cons
def uk9:=@List.any_cons
def ul0:=@List.map_take
def ul1:=@Bool.and_true
def ul2:=@Bool.true_and
def ul3:=@Nat.add_assoc
def ul4:=@Bool.and_self
def ul5:=@PySem.W.mg_of
def ul6:=@PySem.wpAny_holding
def ul7:=@PySem.Heap.lt_size
def ul8:=@Nat.ne_of_lt
def ul9:=@Nat.le_trans
def um0:=@Nat.ne_of_gt
def um1:=@List.map_nil
def um2:=@List.all_map
def um3:=@Nat.pow_succ
def um4:=@List.mem_map
def um5:=@Int.zero_add
def um6:=@Nat.sub_self
def um7:=@Nat.zero_add
def um8:=@Nat.le_refl
def um9:=@Nat.zero_le
def un0:=@Nat.le_succ
def un1:=@PySem.wpAny_field
def un2:=@PySem.wpAny_bind
def un3:=@PySem.wpAny_pure
def un4:=@PySem.wpAny_mono
set_option Elab.async false
set_option linter.all false
set_option maxRecDepth 100000
set_option maxHeartbeats 4000000
local macro_rules | `(tactic| walk_at"h") => `(tactic| first|exact Or.inl rfl|exact Or.inr rfl|exact Or.inr (Or.inl rfl)|exact Or.inr (Or.inr rfl)|assumption)
namespace L2
open PySem PySem.Spec PyProof.Rows
abbrev Key:=Sum Int Str
noncomputable def Ji:Key->gf->Bool
 |.inl k,v=>Value.isInt k v
 |.inr x,v=>Value.isStrOf x v
noncomputable def cZ(w:gj):Key->Int
 |.inl k=>hashInt k
 |.inr x=>hashStr w x
theorem Cd:∀{k:Key}{v:gf},Ji k v=true->(∃i t,k=Sum.inl i/\v=Value.int i t)\/(∃x t,k=Sum.inr x/\v=Value.str x t)
 |.inl i,v,h=>by
   clear 5(Value.isInt_shape (k:=i) (v:=v) h)t e;exact .inl ⟨i,t,rfl,e⟩
 |.inr x,v,h=>by
   clear 5(Value.isStrOf_shape (x:=x) (v:=v) h)t e;exact .inr ⟨x,t,rfl,e⟩
theorem Rn(i:Int)(t:Tok):Ji (.inl i) (.int i t)=true:=by simp[Ji,Value.isInt]
theorem Ro(x:Str)(t:Tok):Ji (.inr x) (.str x t)=true:=by simp[Ji,Value.isStrOf]
theorem YI(a b:Int):decide ((Sum.inl a:Key)=Sum.inl b)=(a==b):=by
 by_cases e:a=b
 .subst e;simp
 .have h:¬(Sum.inl a:Key)=Sum.inl b:=λq=>e (Sum.inl.inj q);rw[uj8 h];exact(ir.mpr e).symm
theorem YL(a b:Str):decide ((Sum.inr a:Key)=Sum.inr b)=decide (a=b):=by
 by_cases e:a=b
 .subst e;simp
 .have h:¬(Sum.inr a:Key)=Sum.inr b:=λq=>e (Sum.inr.inj q);rw[uj8 h,uj8 e]
theorem YJ(a:Int)(b:Str):decide ((Sum.inl a:Key)=Sum.inr b)=false:=uj8 (λq=>nomatch q)
theorem YK(a:Str)(b:Int):decide ((Sum.inr a:Key)=Sum.inl b)=false:=uj8 (λq=>nomatch q)
def Ca(prog:gi)(w:gj):PySem.KeyKind prog w Key where
 is:=Ji
 hash:=cZ w
 inj:=λv a b ha hb=>by
  rcases Cd ha with⟨i,t,rfl,rfl⟩|⟨x,t,rfl,rfl⟩
  .rcases Cd hb with⟨j,u,rfl,e⟩|⟨y,u,rfl,e⟩
   .injection e with e1 _;rw[e1]
   .exact nomatch e
  .rcases Cd hb with⟨j,u,rfl,e⟩|⟨y,u,rfl,e⟩
   .exact nomatch e
   .injection e with e1 _;rw[e1]
 byValue:=λk v h=>by
  rcases Cd h with⟨i,t,rfl,rfl⟩|⟨x,t,rfl,rfl⟩<;>rfl
 pyHash:=λhv h=>by
  rcases Cd hv with⟨i,t,rfl,rfl⟩|⟨x,t,rfl,rfl⟩
  .exact wpAny_pyHash_int h
  .exact wpAny_pyHash_str h
 eqBool:=λhu hv h=>by
  rcases Cd hu with⟨i,t,rfl,rfl⟩|⟨x,t,rfl,rfl⟩
  .rcases Cd hv with⟨j,u,rfl,rfl⟩|⟨y,u,rfl,rfl⟩
   .rw[YI] at h;exact wpAny_eqBool_int h
   .rw[YJ] at h;exact SeqAt.EqAt.int_str i t y u _ _ _ _ h
  .rcases Cd hv with⟨j,u,rfl,rfl⟩|⟨y,u,rfl,rfl⟩
   .rw[YK] at h;exact SeqAt.EqAt.str_int x t j u _ _ _ _ h
   .rw[YL] at h;exact wpAny_eqBool_str h
 «strs»:=λk x t v h=>by
  rcases Cd h with⟨i,u,rfl,e⟩|⟨y,u,rfl,e⟩
  .exact nomatch e
  .injection e with e1 _
   subst e1
   cases v<;>rfl
theorem Od(prog:gi)(w:gj)(i:Int)(t:Tok):(Ca prog w).is (.inl i) (.int i t)=true:=Rn i t
theorem Oe(prog:gi)(w:gj)(x:Str)(t:Tok):(Ca prog w).is (.inr x) (.str x t)=true:=Ro x t
inductive V where
 |non|bl (b:Bool)|int (i:Int)|str (x:Str)|byt (b:Array UInt8)|flt (b:UInt64)|ref (a:gg)|ty (n:String)
 deriving DecidableEq
noncomputable def RelV:V->gf->Prop
 |.non,u=>u=Value.none
 |.bl b,u=>u=Value.bool b
 |.int i,u=>∃t,u=Value.int i t
 |.str x,u=>∃t,u=Value.str x t
 |.byt b,u=>∃t,u=Value.bytes b t
 |.flt b,u=>∃t,u=Value.float b t
 |.ref a,u=>u=Value.ref a
 |.ty n,u=>u=Value.type n
abbrev Vals:List V->List gf->Prop:=Paired RelV
theorem Vals.length{xs:List V}{us:List gf}(r:Vals xs us):xs.length=us.length:=Paired.length r
theorem Vals.get:∀{xs:List V}{us:List gf}{i:Nat}{x:V},Vals xs us->xs[i]?=some x->∃u,us[i]?=some u/\RelV x u
 |_,_,_,_,.nil,e=>by simp at e
 |_,_,0,_,.cons r _,e=>by simp at e;subst e;exact⟨_,rfl,r⟩
 |_,_,i+1,x,.cons _ t,e=>by
   clear 5(Vals.get (i:=i) (x:=x) t (by simpa using e))u h1 h2;exact⟨u,by simpa using h1,h2⟩
theorem Vals.append{xs ys:List V}{us ws:List gf}(r:Vals xs us)(s:Vals ys ws):Vals (xs++ys) (us++ws):=by
 cases r with
 |nil=>exact s
 |cons r t=>exact .cons r (Vals.append t s)
theorem Vals.take:∀{xs:List V}{us:List gf} (n:Nat),Vals xs us->Vals (xs.take n) (us.take n)
 |_,_,0,_=>.nil
 |_,_,_+1,.nil=>.nil
 |_,_,n+1,.cons r t=>.cons r (Vals.take n t)
theorem Vals.drop:∀{xs:List V}{us:List gf} (n:Nat),Vals xs us->Vals (xs.drop n) (us.drop n)
 |_,_,0,r=>r
 |_,_,_+1,.nil=>.nil
 |_,_,n+1,.cons _ t=>Vals.drop n t
def RelO:Option V->Option gf->Prop
 |some v,some u=>RelV v u
 |none,none=>True
 |_,_=>False
def KV{κ:Type}:List (κ×V)->List (κ×gf)->Prop:=Paired λ(p:κ×V) (q:κ×gf)=>p.1=q.1/\RelV p.2 q.2
noncomputable def kV:Key->V
 |.inl i=>.int i
 |.inr x=>.str x
inductive HO where
 /-- a list -/
 |lst (xs:List V)
 /-- a tuple (never changes) -/
 |tup (xs:List V)
 /-- a dict whose keys are ints and texts;one whose keys are tuples of ints and texts (the empty one is both) -/
 |dK (kvs:List (Key×V))|dT (kvs:List (List Key×V))
 /-- a set of ints: its members,its size -/
 |set (S:Int->Bool) (n:Nat)
 /-- an instance of the class at C,its dict at dx,its attributes -/
 |ins (C dx:gg) (fs:List (Str×V))
 /-- the dict of the instance at x -/
 |own (x:gg)
 /-- the dict of an exception -/
 |xd (fs:List (Str×V))
 /-- a bound method,f of x -/
 |met (f x:gg)
 /-- a range object lo,lo+1,.. below hi -/
 |rng (lo hi:Int)
 /-- a thing that is known to the object (the script;a dict while a loop walks it): read,never written while it is so -/
 |frz (o:Obj) (u:HO)
 /-- a code object's table -/
 |tbl (ps:Array gf)
 /-- any other thing,by what is true of its one object (a def of one's own: SetO a S n:=HO.ext λh=>..) -/
 |ext (φ:Heap->Prop)
abbrev Hp:=gg->Option HO
noncomputable def upd(H:Hp)(a:gg)(o:HO):Hp:=λb=>if b=a then some o else H b
section
variable{H:Hp}{a:gg}
theorem Bf{o:HO}:upd H a o a=some o:=by unfold upd;rw[kQ rfl]
variable{b:gg}
theorem Az{o:HO}(h:b≠a):upd H a o b=H b:=by unfold upd;rw[kS h]
theorem AY{o:HO}(h:H a=some o)(h':H b=none):a≠b:=by
 intro e;subst e;rw[h] at h';cases h'
section
variable(P:gi)(w:gj)
def ObjOk(H:Hp)(h:Heap)(a:gg):HO->Prop
 |.lst xs=>xs.length<=sizeLine/\∃(its:List gf) (n:Nat),Vals xs its/\h.get? a=some {cls:=.type "list",data:=.seq its.toArray n}
 |.tup xs=>xs.length<=sizeLine/\∃its:List gf,Vals xs its/\IsTup h a its.toArray
 |.dK kvs=>kvs.length<=sizeLine/\(a==sysModules)=false/\∃vs,KV kvs vs/\h.DictOf (Ca P w) a vs
 | .dT kvs=>kvs.length<=sizeLine/\(a == sysModules)=false/\∃xs:List (List Key×gg×gf),
    Paired (λ(p:List Key×V) (q:List Key×gg×gf)=>p.1=q.1/\H q.2.1=some (.tup (p.1.map kV))/\RelV p.2 q.2.2) kvs xs/\
    ∃o es ep,h.get? a=some o/\o.ExactDict/\o.data=.dict es ep/\es.toList=xs.map (entryOfKey (tupleKind (Ca P w)))/\(xs.map (·.1)).Nodup
 |.set S n=>h.SetOf (intKind P w) a S n
 | .ins C dx fs=>H dx=some (.own a)/\fs.length<=1000/\dx≠a/\h.get? a=some (PySem.W.instObj C dx)/\
    ∃mA,h.Ns1 dx mA/\(∀f,RelO (fs.lookup f) (mA f))/\PySem.Within mA (fs.map (·.1))
 |.own _=>∃o,h.get? a=some o
 |.xd fs=>∃mA,h.Ns1 a mA/\∀f,RelO (fs.lookup f) (mA f)
 |.rng lo hi=>∃t u v,h.get? a=some {cls:=.type "range",data:=.fields #[.int lo t,.int hi u,.int 1 v]}
 |.frz o u=>h.get? a=some o/\ObjOk H h a u
 |.tbl ps=>h.get? a=some {cls:=.none,data:=.fields ps}
 |.met f x=>h.get? a=some (PySem.W.methodObj (.ref f) (.ref x))
 |.ext φ=>φ h/\(∃o,h.get? a=some o)/\∀h1 h2:Heap,φ h1->(∀o,h1.get? a=some o->h2.get? a=some o)->φ h2
def HOk(H:Hp)(h:Heap):Prop:=∀a o,H a=some o->ObjOk P w H h a o
end
section
variable{P:gi}{w:gj}{H H':Hp}{h h':Heap}{a:gg}{o:HO}
theorem ObjOk.lt(x:ObjOk P w H h a o):a<h.objs.size:=by
 cases o with
 |lst xs=>obtain⟨_,_,_,_,e⟩:=x;exact ul7 e
 |tup xs=>obtain⟨_,_,_,p⟩:=x;exact p.lt
 |dK kvs=>obtain⟨_,_,_,_,o,_,_,e,_⟩:=x;exact ul7 e
 |dT kvs=>obtain⟨_,_,_,_,o,_,_,e,_⟩:=x;exact ul7 e
 |set S n=>obtain⟨o,_,_,_,e,_⟩:=x;exact ul7 e
 |ins C dx fs=>obtain⟨_,_,_,e,_⟩:=x;exact ul7 e
 |own y=>obtain⟨_,e⟩:=x;exact ul7 e
 |xd fs=>obtain⟨_,⟨_,_,_,e,_⟩,_⟩:=x;exact ul7 e
 |rng lo hi=>obtain⟨_,_,_,e⟩:=x;exact ul7 e
 |frz ob u=>obtain⟨e,_⟩:=x;exact ul7 e
 |tbl ps=>exact ul7 (show h.get? a=some _ from x)
 |met f y=>exact ul7 (show h.get? a=some _ from x)
 |ext φ=>obtain⟨_,⟨_,e⟩,_⟩:=x;exact ul7 e
theorem Paired.mapP{α β:Type}{F G:α->β->Prop}:∀{l₁:List α}{l₂:List β},Paired F l₁ l₂->(∀a b,F a b->G a b)->Paired G l₁ l₂
 |_,_,.nil,_=>.nil
 |_,_,.cons r t,f=>.cons (f _ _ r) (Paired.mapP t f)
theorem ObjOk.stay(x:ObjOk P w H h a o)(k:∀b u,(b=a\/H b=some (.own a))->h.get? b=some u->h'.get? b=some u)
 (ho:∀b,H b=some (.own a)->H' b=some (.own a)) (ht:∀b xs,H b=some (.tup xs)->H' b=some (.tup xs)):ObjOk P w H' h' a o:=by
 induction o with
 |lst xs=>clear 5 x z its n r e;exact⟨z,its,n,r,k _ _ (.inl rfl) e⟩
 |tup xs=>clear 5 x z its r ob e c;exact⟨z,its,r,ob,k _ _ (.inl rfl) e,c⟩
 |dK kvs=>clear 5 x z y vs r ob es ep e c;exact⟨z,y,vs,r,ob,es,ep,k _ _ (.inl rfl) e,c⟩
 |dT kvs=>
   clear 5 x z y xs r ob es ep e c;exact⟨z,y,xs,Paired.mapP r λp q z=>⟨z.1,ht _ _ z.2.1,z.2.2⟩,ob,es,ep,k _ _ (.inl rfl) e,c⟩
 |set S n=>clear 5 x ob es ep t e c;exact⟨ob,es,ep,t,k _ _ (.inl rfl) e,c⟩
 |ins C dx fs=>
   obtain⟨d,z,ne,e,mA,⟨od,es,ep,e2,c⟩,r⟩:=x;exact⟨ho _ d,z,ne,k _ _ (.inl rfl) e,mA,⟨od,es,ep,k _ _ (.inr d) e2,c⟩,r⟩
 |own y=>clear 5 x ob e;exact⟨ob,k _ _ (.inl rfl) e⟩
 |xd fs=>obtain⟨mA,⟨od,es,ep,e,c⟩,r⟩:=x;exact⟨mA,⟨od,es,ep,k _ _ (.inl rfl) e,c⟩,r⟩
 |rng lo hi=>clear 5 x t u v e;exact⟨t,u,v,k _ _ (.inl rfl) e⟩
 |frz ob u ih=>clear 5 x e q;exact⟨k _ _ (.inl rfl) e,ih q⟩
 |tbl ps=>
   have e:h.get? a=some {cls:=.none,data:=.fields ps}:=x;show h'.get? a=some {cls:=.none,data:=.fields ps};exact k a _ (.inl rfl) e
 |met f y=>
   have e:h.get? a=some (PySem.W.methodObj (.ref f) (.ref y)):=x;show h'.get? a=some (PySem.W.methodObj (.ref f) (.ref y));exact k a _ (.inl rfl) e
 |ext φ=>obtain⟨p,⟨o,e⟩,st⟩:=x;exact⟨st _ _ p λo q=>k _ _ (.inl rfl) q,⟨o,k _ _ (.inl rfl) e⟩,st⟩
theorem HOk.lt(x:HOk P w H h)(e:H a=some o):a<h.objs.size:=(x a o e).lt
theorem HOk.fresh(x:HOk P w H h)(e:h.objs.size<=a):H a=none:=by
 cases q:H a with
 |none=>rfl
 |some u=>exact absurd (ue4 (x.lt q) e) (uk4 _)
theorem HOk.kept(x:HOk P w H h)(k:∀b u,h.get? b=some u->h'.get? b=some u):HOk P w H h':=λa o e=>
 (x a o e).stay (λb u _ q=>k b u q) (λ_ q=>q) λ_ _ q=>q
theorem HOk.laid(x:HOk P w H h)(k:∀b u,h.get? b=some u->h'.get? b=some u)(hp:h.objs.size<=a)(new:ObjOk P w (upd H a o) h' a o):HOk P w (upd H a o) h':=λb u e=>by
 have hn:=x.fresh hp
 by_cases hb:b=a
 .subst hb;rw[Bf] at e;cases e;exact new
 .rw[Az hb] at e;exact(x b u e).stay (λc v _ q=>k c v q) (λc q=>by rw[Az (AY q hn)];exact q) λc xs q=>by rw[Az (AY q hn)];exact q
end
noncomputable def Rd(H:Hp)(a:gg)(u:HO):Prop:=H a=some u\/∃o,H a=some (.frz o u)
variable{P:gi}{w:gj}{h:Heap}
theorem Rd.ok{u:HO}(r:Rd H a u)(x:HOk P w H h):ObjOk P w H h a u:=by
 rcases r with r|⟨o,r⟩
 .exact x a u r
 .obtain⟨_,q⟩:=x a _ r;exact q
def Mut:Option HO->Prop
 |some (.lst _)=>True
 |some (.dK _)=>True
 |some (.dT _)=>True
 |some (.set _ _)=>True
 |some (.ins _ _ _)=>True
 |some (.ext _)=>True
 |_=>False
section
variable{P:gi}{w:gj}{H:Hp}{h h':Heap}{x e:gg}{o':HO}
theorem HOk.write(ok:HOk P w H h)(mu:Mut (H x))(he:e=x\/H e=some (.own x))(k:∀b u,b≠e->h.get? b=some u->h'.get? b=some u)(heo:∃u,h'.get? e=some u)
 (new:ObjOk P w (upd H x o') h' x o'):HOk P w (upd H x o') h':=λb u q=>by
 have nown:∀c y,H c=some (.own y)->c≠x:=λc y r z=>by subst z;rw[r] at mu;exact mu
 have ntup:∀c xs,H c=some (.tup xs)->c≠x:=λc xs r z=>by subst z;rw[r] at mu;exact mu
 by_cases hb:b=x
 .subst hb;rw[Bf] at q;cases q;exact new
 .rw[Az hb] at q
  by_cases hbe:b=e
  .have q':H b=some (.own x):=by
    rcases he with z|z
    .exact absurd (hbe.trans z) hb
    .rw[hbe];exact z
   rw[q] at q';cases q'
   clear 5 heo v hv;exact⟨v,by rw[hbe];exact hv⟩
  .refine(ok b u q).stay (λc v hc r=>k c v ?_ r) (λc r=>by rw[Az (nown c b r)];exact r) λc xs r=>by rw[Az (ntup c xs r)];exact r
   rcases hc with rfl|hc
   .exact hbe
   .rintro rfl;rcases he with z|z
    .exact nown c b hc z
    .rw[hc] at z;cases z;exact hb rfl
end
structure Un(fs ex:List gg)(H H':Hp)(h h':Heap):Prop where
 keep:∀b o,h.get? b=some o->H b=none->b∉fs->b∉ex->h'.get? b=some o
 slot:∀b o,h.get? b=some o->H b=none->b∈fs->b∉ex->∃sl,h'.get? b=some {o with slots:=sl}
 free:∀b o,h.get? b=some o->H b=none->b∉ex->H' b=none
 there:∀b o,h.get? b=some o->b∉ex->∃o',h'.get? b=some o'
 tups:∀b xs,H b=some (.tup xs)->H' b=some (.tup xs)
 frzs:∀b o u,H b=some (.frz o u)->H' b=some (.frz o u)
 tbls:∀b ps,H b=some (.tbl ps)->∃more,H' b=some (.tbl (ps++more))
section
variable{fs fs' ex ex':List gg}{H H1 H2:Hp}{h h1 h2 h':Heap}{a x e:gg}{o:HO}
theorem Un.any(u:Un fs ex H H1 h h1){b:gg}{ob:Obj}(q:h.get? b=some ob)(n:H b=none)(hx:b∉ex):∃sl,h1.get? b=some {ob with slots:=sl}:=by
 by_cases hb:b∈fs
 .exact u.slot b ob q n hb hx
 .exact⟨ob.slots,u.keep b ob q n hb hx⟩
theorem Un.kept(k:∀b u,h.get? b=some u->h'.get? b=some u):Un fs ex H H h h':=
 ⟨λb ob q _ _ _=>k b ob q,λb ob q _ _ _=>⟨ob.slots,k b ob q⟩,λ_ _ _ n _=>n,λb ob q _=>⟨ob,k b ob q⟩,λ_ _ q=>q,λ_ _ _ q=>q,λ_ ps q=>⟨#[],by rw[q];simp⟩⟩
theorem Un.refl:Un fs ex H H h h:=Un.kept λ_ _ q=>q
theorem Un.laid(k:∀b u,h.get? b=some u->h'.get? b=some u)(hp:h.objs.size<=a)(hn:H a=none):Un fs ex H (upd H a o) h h' where
 keep:=λb u q _ _ _=>k b u q
 slot:=λb u q _ _ _=>⟨u.slots,k b u q⟩
 free:=λb u q n _=>by rw[Az (ul8 (ue4 (ul7 q) hp))];exact n
 there:=λb u q _=>⟨u,k b u q⟩
 tups:=λb xs q=>by rw[Az (AY q hn)];exact q
 frzs:=λb u xs q=>by rw[Az (AY q hn)];exact q
 tbls:=λb ps q=>⟨#[],by rw[Az (AY q hn),q];simp⟩
theorem Un.write(mu:Mut (H x))(he:e=x\/H e=some (.own x))(k:∀b u,b≠e->h.get? b=some u->h'.get? b=some u)(heo:∃u,h'.get? e=some u):Un fs ex H (upd H x o) h h':=by
 have hx:∀b,H b=none->b≠x:=λb n z=>by subst z;rw[n] at mu;exact mu
 have hb:∀b,H b=none->b≠e:=λb n z=>by
  subst z;rcases he with r|r
  .exact hx b n r
  .rw[n] at r;cases r
 have hm:∀b u,H b=some u->¬Mut (some u)->b≠x:=λb u q nm z=>by subst z;rw[q] at mu;exact nm mu
 refine⟨λb u q n _ _=>k b u (hb b n) q,λb u q n _ _=>⟨u.slots,k b u (hb b n) q⟩,λb u q n _=>by rw[Az (hx b n)];exact n,λb u q _=>?_,
  λb xs q=>by rw[Az (hm b _ q λz=>z)];exact q,λb u xs q=>by rw[Az (hm b _ q λz=>z)];exact q,λb ps q=>⟨#[],by rw[Az (hm b _ q λz=>z),q];simp⟩⟩
 by_cases hbe:b=e
 .subst hbe;exact heo
 .exact⟨u,k b u hbe q⟩
end
noncomputable def trk(h:Heap)(H:Hp):List gg:=(List.range h.objs.size).filter λa=>(H a).isSome
def Hw(h:Heap)(H:Hp):Heap:=PySem.W.hideAll h (trk h H)
theorem Ra(h:Heap)(H:Hp):(Hw h H).objs.size=h.objs.size:=PySem.W.hideAll_size _ _
theorem TB{o:Obj}(e:h.get? b=some o)(n:H b=none):(Hw h H).get? b=some o:=
 PySem.W.hideAll_get _ e λhm=>by
  have q:(H b).isSome=true:=(List.mem_filter.mp hm).2;rw[n] at q;simp at q
theorem V8{o:Obj}(e:(Hw h H).get? b=some o):h.get? b=some o/\H b=none:=by
 have e':h.get? b=some o:=PySem.W.of_hideAll (trk h H) e;refine⟨e',?_⟩
 cases q:H b with
 |none=>rfl
 |some x=>
   have hm:b∈trk h H:=List.mem_filter.mpr ⟨uj9.mpr (ul7 e'),by simp[q]⟩;have z:(Hw h H).get? b=none:=PySem.W.hideAll_none (trk h H) hm;rw[z] at e;cases e
noncomputable def Vg(g h:Heap)(L:gg):List (gg×Obj):=(List.range h.objs.size).filterMap λa=>if a=L\/(g.get? a).isSome=true then none else(h.get? a).map λo=>(a,o)
def rest(g h:Heap)(L d:gg):List (gg×Obj):=(Vg g h L).filter λp=>decide (p.1≠d)
structure Mod(K:gd)(mg:Str->Option gf)(base:Heap):Prop where
 kin:K.In base
 glob:base.Ns mainGlobals mg
 blt:∃mb,base.Ns builtinsNs mb/\∀x:Str,x≠"__name__"->mb x=bootBuiltins x
 nolimit:base.NoLimit
structure Cx where
 prog:gi
 w:gj
 K:gd
 mg:Str->Option gf
 base:Heap
 A:Around
 N:List Str
 s₀:gh
 H₀:Hp
 env:Env
 outer:List Env
 stack:List Env
 ex:List gg
 fn:Str->Bool
 calm:Bool
 pn:List (gg×Obj)
 xe:gf->gh->Prop
noncomputable def frs(l:List Env):List gg:=l.filterMap (·.frame)
abbrev Cx.fs(X:Cx):List gg:=frs X.outer
def Vis(sc:Scope)(x:Str):Prop:=sc.names.lookup x=some .local\/sc.names.lookup x=some .cell\/sc.names.lookup x=some .free
def Loc(sc:Scope)(x:Str):Prop:=sc.names.lookup x=some .local\/sc.names.lookup x=some .cell
def cA(env:Env)(h:Heap)(m:Str->Option gf)(x:Str)(u:gf):Prop:=
 (env.kindOf x=some .local/\m x=some u)\/((env.kindOf x=some .cell\/env.kindOf x=some .free)/\∃c,env.cells.lookup x=some c/\h.IsCell c (some u))
structure Cx.Ok(X:Cx):Prop where
 mod:Mod X.K X.mg X.base
 kind:X.env.scope.kind=.function
 glob:X.env.globals=mainGlobals
 blt:X.env.builtins=builtinsNs
 above:X.s₀.heap.objs.size<=X.env.locals
 inj:∀x y c,X.env.cells.lookup x=some c->X.env.cells.lookup y=some c->x=y
 has:∀x,(X.env.kindOf x=some .cell\/X.env.kindOf x=some .free)->∃c,X.env.cells.lookup x=some c
 cab:∀x c,X.fn x=true->X.env.cells.lookup x=some c->X.s₀.heap.objs.size<=c
 hd:X.calm=true->X.A.handled=none
 frames:X.A.frames=some X.stack
 stk:X.stack=X.outer\/(X.stack=X.env::X.outer/\X.env.frame=some X.env.locals)
 exf:∀b∈X.ex,b≠X.env.locals/\∀x c,X.env.cells.lookup x=some c->c≠b
 bs:∀b o,X.base.get? b=some o->X.s₀.heap.get? b=some o/\X.H₀ b=none
 bsz:X.base.objs.size<=X.s₀.heap.objs.size
 noex:∀b o,X.base.get? b=some o->b∉X.ex
 exfs:∀b∈X.ex,b∉X.fs
 funs:X.s₀.heap.FunFrames X.base X.outer
 frf:∀b∈X.fs,X.H₀ b=none
structure Inv(X:Cx)(ge:List (gg×Obj))(σ:List (Option V))(H:Hp)(s:gh):Prop where
 ok:X.Ok
 os:s.os=X.s₀.os
 bare:AllBare s.gens
 base:Un X.fs X.ex X.H₀ H X.s₀.heap s.heap
 loc:∃m,s.heap.Ns X.env.locals m/\∀(i:Nat) (x:Str) (v:V),X.N[i]?=some x->σ[i]?=some (some v)->Vis X.env.scope x->∃u,RelV v u/\cA X.env s.heap m x u
 cell:∀x c,X.env.cells.lookup x=some c->∃v,s.heap.IsCell c v
 free:H X.env.locals=none
 freeC:∀x c,X.env.cells.lookup x=some c->H c=none
 pin:∀p∈X.pn++ge,s.heap.get? p.1=some p.2/\H p.1=none/\p.1≠X.env.locals/\p.1∉X.fs/\∀v,p.2.data≠.cell v
 hok:HOk X.prog X.w H s.heap
 len:σ.length=X.N.length
variable{t' i:Nat}{ch:List gg}{E:gf->gh->Prop}{v:V}{u:gf}{Q:Unit->gh->Prop}
section
variable{X:Cx}{ge:List (gg×Obj)}{σ:List (Option V)}{H H':Hp}{s:gh}{h':Heap}
theorem Cx.Ok.nofr(ok:X.Ok){b:gg}{o:Obj}(e:X.base.get? b=some o):b∉X.fs:=λhb=>by
 have:=(ok.funs.mem hb).1;rw[e] at this;cases this
theorem Inv.bs(I:Inv X ge σ H s):∀b o,X.base.get? b=some o->s.heap.get? b=some o/\H b=none:=λb o e=>
 ⟨I.base.keep b o (I.ok.bs b o e).1 (I.ok.bs b o e).2 (I.ok.nofr e) (I.ok.noex b o e),I.base.free b o (I.ok.bs b o e).1 (I.ok.bs b o e).2 (I.ok.noex b o e)⟩
theorem Inv.bk(I:Inv X ge σ H s):∀b o,X.base.get? b=some o->s.heap.get? b=some o:=λb o e=>(I.bs b o e).1
theorem Inv.mod(I:Inv X ge σ H s):Mod X.K X.mg X.base:=I.ok.mod
theorem Inv.kIn(I:Inv X ge σ H s):X.K.In s.heap:=I.ok.mod.kin.keeps I.bk
theorem Inv.lt(I:Inv X ge σ H s):X.env.locals<s.heap.objs.size:=let ⟨_,hn,_⟩:=I.loc;hn.lt
theorem Inv.sz(I:Inv X ge σ H s):X.s₀.heap.objs.size<=s.heap.objs.size:=ul9 I.ok.above (jy I.lt)
theorem Inv.nofs(I:Inv X ge σ H s){a:gg}(h:s.heap.objs.size<=a):a∉X.fs:=λhb=>by
 obtain⟨_,o,ho,_⟩:=I.ok.funs.mem hb;exact absurd (ue4 (ul7 ho) (ul9 I.sz h)) (uk4 _)
theorem Inv.cne(I:Inv X ge σ H s):∀x c,X.env.cells.lookup x=some c->c≠X.env.locals:=λx c e z=>by
 clear 5(I.cell x c e)v o ho hd;obtain⟨m,⟨o',es,ep,ho',hd',_⟩,_⟩:=I.loc;rw[z,ho'] at ho;cases ho;rw[hd'] at hd;cases hd
theorem Inv.funs(I:Inv X ge σ H s):s.heap.FunFrames X.base X.outer:=by
 have all:∀(l:List Env),(∀b∈frs l,b∈X.fs)->X.s₀.heap.FunFrames X.base l->s.heap.FunFrames X.base l:=by
  intro l
  induction l with
  |nil=>intro _ _;trivial
  |cons env r ih=>
    intro hs hl;obtain⟨hk,⟨L,o,hf,hn,ho,hd⟩,hr⟩:=hl;have hL:L∈X.fs:=hs L (by unfold frs;rw[ud7,hf];exact ue5);obtain⟨sl,e⟩:=I.base.slot L o ho (I.ok.frf L hL) hL λz=>I.ok.exfs L z hL;exact⟨hk,⟨L,_,hf,hn,e,hd⟩,ih (λb hb=>hs b (by unfold frs;rw[ud7,hf];exact ud4 _ hb)) hr⟩
 exact all X.outer (λ_ hb=>hb) I.ok.funs
theorem Inv.stack(I:Inv X ge σ H s):s.heap.FunFrames X.base X.stack:=by
 rcases I.ok.stk with e|⟨e,hf⟩
 .rw[e];exact I.funs
 .rw[e];obtain⟨m,hn,_⟩:=I.loc;refine .cons (by rw[I.ok.kind];decide) hf hn ?_ I.funs;exact Heap.get?_none_of_le (ul9 I.ok.bsz I.ok.above)
theorem Inv.stkSub(I:Inv X ge σ H s):∀b∈frs X.stack,b∈X.env.locals::X.fs:=λb hb=>by
 rcases I.ok.stk with e|⟨e,hf⟩
 .rw[e] at hb;exact ud4 _ hb
 .rw[e] at hb;unfold frs at hb;rw[ud7,hf] at hb;exact hb
theorem Inv.stkFree(I:Inv X ge σ H s):∀b∈frs X.stack,H b=none:=λb hb=>by
 rcases uk5.mp (I.stkSub b hb) with e|hb
 .rw[e];exact I.free
 .obtain⟨_,o,ho,_⟩:=I.ok.funs.mem hb;exact I.base.free b o ho (I.ok.frf b hb) λz=>I.ok.exfs b z hb
theorem Inv.step{g':Array GenState}{d':Drawn}(I:Inv X ge σ H s)
 (hch:∀b∈ch,(b∈X.ex\/X.s₀.heap.objs.size<=b)/\b≠X.env.locals/\(∀x c,X.env.cells.lookup x=some c->c≠b)/\∀p∈X.pn++ge,p.1≠b)
 (keep:∀b o,b≠X.env.locals->b∉X.fs->b∉ch->s.heap.get? b=some o->H b=none->h'.get? b=some o)
 (slot:∀b o,b≠X.env.locals->b∈X.fs->b∉ch->s.heap.get? b=some o->H b=none->∃sl,h'.get? b=some {o with slots:=sl}) (free:∀b o,b∉ch->s.heap.get? b=some o->H b=none->H' b=none)
 (there:∀b o,b∉ch->s.heap.get? b=some o->∃o',h'.get? b=some o')
 (tups:∀b xs,H b=some (.tup xs)->H' b=some (.tup xs)) (frzs:∀b o u,H b=some (.frz o u)->H' b=some (.frz o u)) (tbls:∀b ps,H b=some (.tbl ps)->∃more,H' b=some (.tbl (ps++more)))
 (ns:∀m,s.heap.Ns X.env.locals m->h'.Ns X.env.locals m) (hok:HOk X.prog X.w H' h') (hg:AllBare g') :
 Inv X ge σ H' {s with heap:=h',gens:=g',drawn:=d',toks:=t'}:=by
 have neL:∀b o,X.s₀.heap.get? b=some o->b≠X.env.locals:=λb o e=>ul8 (ue4 (ul7 e) I.ok.above);have neC:∀b o,X.s₀.heap.get? b=some o->b∉X.ex->b∉ch:=λb o e hx hb=>by
  rcases (hch b hb).1 with z|z
  .exact hx z
  .exact absurd (ue4 (ul7 e) z) (uk4 _)
 have cellK:∀x c,X.env.cells.lookup x=some c->∀v,s.heap.IsCell c v->h'.IsCell c v:=λx c e v z9=>by
  clear 5 z9 o ho hd;have nch:c∉ch:=λz=>(hch c z).2.2.1 x c e rfl
  by_cases hc:c∈X.fs
  .clear 5(slot c o (I.cne x c e) hc nch ho (I.freeC x c e))sl q;exact⟨_,q,hd⟩
  .exact⟨o,keep c o (I.cne x c e) hc nch ho (I.freeC x c e),hd⟩
 refine⟨I.ok,I.os,hg,⟨λb o e n hb hx=>?_,λb o e n hb hx=>?_,λb o e n hx=>?_,λb o e hx=>?_,λb xs e=>tups b xs (I.base.tups b xs e),λb o xs e=>frzs b o xs (I.base.frzs b o xs e),λb ps e=>?_⟩,?_,λx c e=>?_,?_,λx c e=>?_,λp hp=>?_,hok,I.len⟩
 .exact keep b o (neL b o e) hb (neC b o e hx) (I.base.keep b o e n hb hx) (I.base.free b o e n hx)
 .clear 5(I.base.slot b o e n hb hx)sl e1;clear 5(slot b _ (neL b o e) hb (neC b o e hx) e1 (I.base.free b o e n hx))sl' e2;exact⟨sl',e2⟩
 .clear 5(I.base.there b o e hx)o' e1;exact free b o' (neC b o e hx) e1 (I.base.free b o e n hx)
 .clear 5(I.base.there b o e hx)o' e1;exact there b o' (neC b o e hx) e1
 .clear 5(I.base.tbls b ps e)m1 e1;clear 5(tbls b _ e1)m2 e2;exact⟨m1++m2,by rw[e2,Array.append_assoc]⟩
 .clear 5 I.loc m hn hl;refine⟨m,ns m hn,λi x v e1 e2 e3=>?_⟩;clear 5(hl i x v e1 e2 e3)u r l;refine⟨u,r,?_⟩;rcases l with l|⟨k,c,e,z⟩
  .exact .inl l
  .exact .inr ⟨k,c,e,cellK x c e _ z⟩
 .clear 5(I.cell x c e)v z;exact⟨v,cellK x c e v z⟩
 .obtain⟨m,⟨o,_,_,ho,_⟩,_⟩:=I.loc;exact free _ o (λz=>(hch _ z).2.1 rfl) ho I.free
 .clear 5(I.cell x c e)v o ho hd;exact free c o (λz=>(hch c z).2.2.1 x c e rfl) ho (I.freeC x c e)
 .clear 5(I.pin p hp)e n ne nf d;have nch:p.1∉ch:=λz=>(hch p.1 z).2.2.2 p hp rfl;exact⟨keep p.1 p.2 ne nf nch e n,free p.1 p.2 nch e n,ne,nf,d⟩
theorem Inv.un(I:Inv X ge σ H s)(u:Un X.fs [] H H' s.heap h')(hok:HOk X.prog X.w H' h'):Inv X ge σ H' {s with heap:=h',toks:=t'}:=by
 obtain⟨m,⟨o,es,ep,ho,r⟩,_⟩:=id I.loc;clear 5(u.any ho I.free (by simp))sl hL;exact I.step (g':=s.gens) (d':=s.drawn) (ch:=[]) (λ_ z=>nomatch z) (λb o _ hb _ e n=>u.keep b o e n hb (by simp)) (λb o _ hb _ e n=>u.slot b o e n hb (by simp)) (λb o _ e n=>u.free b o e n (by simp)) (λb o _ e=>u.there b o e (by simp)) u.tups u.frzs u.tbls (λm' hm=>by
  clear 5 hm o' es' ep' ho' r';rw[ho] at ho';cases ho'
  exact⟨_,es',ep',hL,r'⟩) hok I.bare
theorem Inv.call{g':Array GenState}{d':Drawn}(I:Inv X ge σ H s)(u:Un (frs X.stack) ch H H' s.heap h')(hok:HOk X.prog X.w H' h')(hg:AllBare g')
 (hch:∀b∈ch,(b∈X.ex\/X.s₀.heap.objs.size<=b)/\b≠X.env.locals/\(∀x c,X.env.cells.lookup x=some c->c≠b)/\∀p∈X.pn++ge,p.1≠b) :
 Inv X ge σ H' {s with heap:=h',gens:=g',drawn:=d',toks:=t'}:=by
 obtain⟨m,⟨o,es,ep,ho,r⟩,_⟩:=id I.loc;obtain⟨sl,hL⟩:=u.any ho I.free λz=>(hch _ z).2.1 rfl;exact I.step (ch:=ch) hch (λb o hL hb hc e n=>u.keep b o e n (λz=>(uk5.mp (I.stkSub b z)).elim hL hb) hc) (λb o _ _ hc e n=>u.any e n hc) (λb o hc e n=>u.free b o e n hc) (λb o hc e=>u.there b o e hc) u.tups u.frzs u.tbls (λm' hm=>by
  clear 5 hm o' es' ep' ho' r';rw[ho] at ho';cases ho'
  exact⟨_,es',ep',hL,r'⟩) hok hg
theorem Inv.turned{it:gg}(I:Inv X ge σ H s)(k:∀b o,b≠it->s.heap.get? b=some o->h'.get? b=some o)(hn:H it=none)(hL:it≠X.env.locals)
 (h1:it∈X.ex\/X.s₀.heap.objs.size<=it) (h2:∀x c,X.env.cells.lookup x=some c->c≠it) (h3:∀p∈X.pn++ge,p.1≠it):Inv X ge σ H {s with heap:=h',toks:=t'}:=by
 have nit:∀b u,H b=some u->b≠it:=λb u e z=>by rw[z,hn] at e;cases e
 refine I.step (g':=s.gens) (d':=s.drawn) (ch:=[it]) (λb hb=>?_) (λb o _ _ hc e _=>k b o (λz=>hc (by simp[z])) e) (λb o _ _ hc e _=>⟨o.slots,k b o (λz=>hc (by simp[z])) e⟩) (λ_ _ _ _ n=>n)
  (λb o hc e=>⟨o,k b o (λz=>hc (by simp[z])) e⟩) (λ_ _ e=>e) (λ_ _ _ e=>e) (λb ps e=>⟨#[],by rw[e];simp⟩) (λm hm=>?_) (λb u e=>?_) I.bare
 .have e:b=it:=by simpa using hb
  subst e;exact⟨h1,hL,h2,h3⟩
 .clear 5 hm o es ep ho r;exact⟨o,es,ep,k _ o (Ne.symm hL) ho,r⟩
 .refine(I.hok b u e).stay (λc v hc q=>k c v ?_ q) (λ_ q=>q) λ_ _ q=>q;rcases hc with z|z
  .rw[z];exact nit b u e
  .exact nit c _ z
theorem Inv.tok(I:Inv X ge σ H s)(t:Nat):Inv X ge σ H {s with toks:=t}:=I.un (h':=s.heap) (t':=t) Un.refl I.hok
theorem Inv.kept{t':Nat}(I:Inv X ge σ H s)(k:∀b u,s.heap.get? b=some u->h'.get? b=some u):Inv X ge σ H {s with heap:=h',toks:=t'}:=I.un (Un.kept k) (I.hok.kept k)
theorem Inv.laid{a:gg}{o:HO}{t':Nat}(I:Inv X ge σ H s)(k:∀b u,s.heap.get? b=some u->h'.get? b=some u)(hp:s.heap.objs.size<=a)(new:ObjOk X.prog X.w (upd H a o) h' a o) :
 Inv X ge σ (upd H a o) {s with heap:=h',toks:=t'}:=I.un (Un.laid k hp (I.hok.fresh hp)) (I.hok.laid k hp new)
theorem Inv.write{x e:gg}{o:HO}{t':Nat}(I:Inv X ge σ H s)(mu:Mut (H x))(he:e=x\/H e=some (.own x))(k:∀b u,b≠e->s.heap.get? b=some u->h'.get? b=some u)(heo:∃u,h'.get? e=some u)
 (new:ObjOk X.prog X.w (upd H x o) h' x o):Inv X ge σ (upd H x o) {s with heap:=h',toks:=t'}:=I.un (Un.write mu he k heo) (I.hok.write mu he k heo new)
theorem Inv.pins_of{pins':List (gg×Obj)}(I:Inv X ge σ H s)(h:∀p∈pins',s.heap.get? p.1=some p.2/\H p.1=none/\p.1≠X.env.locals/\p.1∉X.fs/\∀v,p.2.data≠.cell v):Inv X pins' σ H s:=
 ⟨I.ok,I.os,I.bare,I.base,I.loc,I.cell,I.free,I.freeC,λp hp=>(ui1.mp hp).elim (λz=>I.pin p (List.mem_append_left _ z)) (h p),I.hok,I.len⟩
theorem JS{N:List Str}(hN:N.Nodup){i j:Nat}{x:Str}(a:N[i]?=some x)(b:N[j]?=some x):i=j:=by
 clear 5(ua9.mp a)h1 e1;clear 5(ua9.mp b)h2 e2;exact(ug5 hN).mp (e1.trans e2.symm)
theorem L9{M:Model}{A:Around}{x:Str}(I:Inv X ge σ H s)(hN:X.N.Nodup)(hi:X.N[i]?=some x)(hx:Loc X.env.scope x)(r:RelV v u)
 (h:∀s',Inv X ge (σ.set i (some v)) H s'->(∃a,Heap.SameBut a s.heap s'.heap/\(a=X.env.locals\/X.env.cells.lookup x=some a))->Q () s') (hf:X.fn x=true\/X.env.scope.names.lookup x=some .local:=by walk_at"h"):wpAny M A (storeName X.env x u) Q E s:=by
 clear 5(id I.loc)m hn hl;have hcls:(X.env.scope.kind==.class||(X.env.scope.kind==.module&&X.env.locals != X.env.globals))=false:=by rw[I.ok.kind];rfl
 have hiσ:i < σ.length:=by rw[I.len];exact(ua9.mp hi).1
 have cne:=I.cne;have tracked:∀{a:gg}{h':Heap},(∃o,s.heap.get? a=some o/\H a=none)->Heap.SameBut a s.heap h'->HOk X.prog X.w H h':=λ{a h'} ha hs b ob e=>by
  obtain⟨_,_,hfree⟩:=ha;refine(I.hok b ob e).stay (λc w' hc q=>(hs.2 c ?_).trans q) (λ_ q=>q) λ_ _ q=>q;rintro rfl;rcases hc with rfl|hc
  .rw[hfree] at e;cases e
  .rw[hfree] at hc;cases hc
 rcases hx with hk|hk
 .refine wpAny_storeName_local hk hn (λh' hn' hs=>?_) hcls;obtain⟨oL,_,_,hoL,_⟩:=id hn;refine h _ ⟨I.ok,I.os,I.bare,⟨λb o e n hb hx=>?_,λb o e n hb hx=>?_,I.base.free,λb o e hx=>?_,I.base.tups,I.base.frzs,I.base.tbls⟩,⟨_,hn',λj y v' e1 e2 e3=>?_⟩,λy c e=>?_,I.free,I.freeC,λp hp=>?_,tracked ⟨oL,hoL,I.free⟩ hs,by simpa using I.len⟩ ⟨_,hs,.inl rfl⟩
  .exact(hs.2 b (ul8 (ue4 (ul7 e) I.ok.above))).trans (I.base.keep b o e n hb hx)
  .clear 5(I.base.slot b o e n hb hx)sl e1;exact⟨sl,(hs.2 b (ul8 (ue4 (ul7 e) I.ok.above))).trans e1⟩
  .clear 5(I.base.there b o e hx)o' e1;exact⟨o',(hs.2 b (ul8 (ue4 (ul7 e) I.ok.above))).trans e1⟩
  .by_cases hj:j=i
   .subst hj;rw[hi] at e1;cases e1
    rw[ub8 hiσ] at e2
    cases e2
    exact⟨u,r,.inl ⟨hk,by simp⟩⟩
   .rw[ud5 (Ne.symm hj)] at e2;clear 5(hl j y v' e1 e2 e3)u' r' q;refine⟨u',r',?_⟩;rcases q with⟨k,e⟩|⟨k,c,e,z⟩
    .refine .inl ⟨k,?_⟩;have:y≠x:=λe=>hj (JS hN e1 (e ▸ hi));simp[this,e]
    .exact .inr ⟨k,c,e,z.sameBut hs (cne y c e)⟩
  .clear 5(I.cell y c e)w' z;exact⟨w',z.sameBut hs (cne y c e)⟩
  .clear 5(I.pin p hp)e n ne nf d;exact⟨(hs.2 p.1 ne).trans e,n,ne,nf,d⟩
 .have hfn:X.fn x=true:=by
   rcases hf with z|z
   .exact z
   .rw[z] at hk;cases hk
  clear 5(I.ok.has x (.inl hk))c hc;clear 5(I.cell x c hc)w' z;refine wpAny_storeName_cell I.ok.kind hk hc z (λh' hc' hs=>?_);clear 5(id z)oc hoc hocd;refine h {s with heap:=h'} ⟨I.ok,I.os,I.bare,⟨λb o e n hb hx=>?_,λb o e n hb hx=>?_,I.base.free,λb o e hx=>?_,I.base.tups,I.base.frzs,I.base.tbls⟩,⟨m,hn.sameBut hs (Ne.symm (cne x c hc)),λj y v' e1 e2 e3=>?_⟩,λy c' e=>?_,I.free,I.freeC,λp hp=>?_,tracked ⟨oc,hoc,I.freeC x c hc⟩ hs,by simpa using I.len⟩ ⟨c,hs,.inr hc⟩
  .exact(hs.2 b (ul8 (ue4 (ul7 e) (I.ok.cab x c hfn hc)))).trans (I.base.keep b o e n hb hx)
  .clear 5(I.base.slot b o e n hb hx)sl e1;exact⟨sl,(hs.2 b (ul8 (ue4 (ul7 e) (I.ok.cab x c hfn hc)))).trans e1⟩
  .clear 5(I.base.there b o e hx)o' e1;exact⟨o',(hs.2 b (ul8 (ue4 (ul7 e) (I.ok.cab x c hfn hc)))).trans e1⟩
  .by_cases hj:j=i
   .subst hj;rw[hi] at e1;cases e1
    rw[ub8 hiσ] at e2
    cases e2
    exact⟨u,r,.inr ⟨.inl hk,c,hc,hc'⟩⟩
   .rw[ud5 (Ne.symm hj)] at e2;clear 5(hl j y v' e1 e2 e3)u' r' q;refine⟨u',r',?_⟩;rcases q with q|⟨k,c',e,z'⟩
    .exact .inl q
    .refine .inr ⟨k,c',e,z'.sameBut hs ?_⟩;rintro rfl;exact hj (JS hN e1 (I.ok.inj _ _ _ e hc ▸ hi))
  .by_cases hcc:c'=c
   .subst hcc;exact⟨_,hc'⟩
   .clear 5(I.cell y c' e)w2 z2;exact⟨w2,z2.sameBut hs hcc⟩
  .clear 5(I.pin p hp)e n ne nf d;refine⟨(hs.2 p.1 ?_).trans e,n,ne,nf,d⟩;intro q;rw[q,hoc] at e;have q':oc=p.2:=ui2 e;exact d w' (by rw[<-q'];exact hocd)
theorem Fs{M:Model}{A:Around}{x:Str}(I:Inv X ge σ H s)(hN:X.N.Nodup)(hi:X.N[i]?=some x)(hx:Loc X.env.scope x)(r:RelV v u)
 (h:∀s',Inv X ge (σ.set i (some v)) H s'->Q () s') (hf:X.fn x=true\/X.env.scope.names.lookup x=some .local:=by walk_at"h"):wpAny M A (storeName X.env x u) Q E s:=
 L9 I hN hi hx r (λs' I' _=>h s' I') hf
theorem Inv.call'{s':gh}(I:Inv X ge σ H s)(ho:s'.os=s.os)(u:Un (frs X.stack) ch H H' s.heap s'.heap)(hok:HOk X.prog X.w H' s'.heap)(hg:AllBare s'.gens)
 (hch:∀b∈ch,(b∈X.ex\/X.s₀.heap.objs.size<=b)/\b≠X.env.locals/\(∀x c,X.env.cells.lookup x=some c->c≠b)/\∀p∈X.pn++ge,p.1≠b):Inv X ge σ H' s':=by
 clear 5 s' h' g' d' t' o';have e:o'=s.os:=ho;subst e;exact I.call (g':=g') (t':=t') (d':=d') u hok hg hch
end
abbrev XK:=gf->Option gg->Hp->Prop
abbrev St:=List (Option V)
abbrev VK:=V->Hp->Prop
abbrev TE:=St->Hp->VK->Prop
abbrev TT:=St->Hp->(Bool->Hp->Prop)->Prop
abbrev TA:=St->Hp->(List V->Hp->Prop)->Prop
structure Ends where
 nx:St->Hp->Prop
 rt:VK
 bk:St->Hp->Prop:=λ_ _=>False
 ct:St->Hp->Prop:=λ_ _=>False
abbrev TS:=Ends->St->Hp->Prop
inductive EP(X:Cx)(ge:List (gg×Obj))(σ:St)(Q:VK)(u:gf)(s':gh):Prop where
 |mk (v:V) (H':Hp) (i:Inv X ge σ H' s') (r:RelV v u) (q:Q v H'):EP X ge σ Q u s'
inductive TP(X:Cx)(ge:List (gg×Obj))(σ:St)(Q:Bool->Hp->Prop)(b:Bool)(s':gh):Prop where
 |mk (H':Hp) (i:Inv X ge σ H' s') (q:Q b H'):TP X ge σ Q b s'
inductive AP(X:Cx)(ge:List (gg×Obj))(σ:St)(Q:List V->Hp->Prop)(us:List gf)(s':gh):Prop where
 |mk (vs:List V) (H':Hp) (i:Inv X ge σ H' s') (r:Vals vs us) (q:Q vs H'):AP X ge σ Q us s'
def SP(X:Cx)(ge:List (gg×Obj))(D:Ends)(f:Flow)(s':gh):Prop:=
 match f with
 |.next=>∃σ' H',Inv X ge σ' H' s'/\D.nx σ' H'
 |.brk=>∃σ' H',Inv X ge σ' H' s'/\D.bk σ' H'
 |.cont=>∃σ' H',Inv X ge σ' H' s'/\D.ct σ' H'
 |.ret u=>∃v σ' H',Inv X ge σ' H' s'/\RelV v u/\D.rt v H'
def PE(X:Cx)(e:Expr)(t:TE):Prop:=
 ∀(ge:List (gg×Obj)) (s:gh) (σ:St) (H:Hp) (Q:VK),Inv X ge σ H s->t σ H Q->wpAny (model X.prog X.w) X.A (eval e X.env) (EP X ge σ Q) X.xe s
def PT(X:Cx)(e:Expr)(t:TT):Prop:=
 ∀(ge:List (gg×Obj)) (s:gh) (σ:St) (H:Hp) (Q:Bool->Hp->Prop),Inv X ge σ H s->t σ H Q->wpAny (model X.prog X.w) X.A (isTrue e X.env (eval e X.env)) (TP X ge σ Q) X.xe s
def PW(X:Cx)(e:Expr)(t:TT):Prop:=
 ∀(whole:Sem gf) (ge:List (gg×Obj)) (s:gh) (σ:St) (H:Hp) (Q:Bool->Hp->Prop),Inv X ge σ H s->t σ H Q->wpAny (model X.prog X.w) X.A (isTrue e X.env whole) (TP X ge σ Q) X.xe s
variable{X:Cx}{e:Expr}
theorem PW.pt{t:TT}(h:PW X e t):PT X e t:=h _
def PA(X:Cx)(es:List Expr)(t:TA):Prop:=
 ∀(pos:Pos) (ge:List (gg×Obj)) (s:gh) (σ:St) (H:Hp) (Q:List V->Hp->Prop),Inv X ge σ H s->t σ H Q->wpAny (model X.prog X.w) X.A (spliced (backTo pos (starEach es X.env))) (AP X ge σ Q) X.xe s
def PS(X:Cx)(st:Stmt)(t:TS):Prop:=
 ∀(ge:List (gg×Obj)) (s:gh) (σ:St) (H:Hp) (D:Ends),Inv X ge σ H s->t D σ H->wpAny (model X.prog X.w) X.A (exec st X.env) (SP X ge D) X.xe s
def PSs(X:Cx)(st:List Stmt)(t:TS):Prop:=
 ∀(ge:List (gg×Obj)) (s:gh) (σ:St) (H:Hp) (D:Ends),Inv X ge σ H s->t D σ H->wpAny (model X.prog X.w) X.A (execs st X.env) (SP X ge D) X.xe s
variable{s:gh}
theorem thn{α:Type}{t:Sem α}{Q Q':α->gh->Prop}{M:Model}{A:Around}(h:wpAny M A t Q E s)(hQ:∀a s,Q a s->Q' a s):wpAny M A t Q' E s:=un4 h hQ λ_ _ x=>x
variable{ge:List (gg×Obj)}{σ:St}{c:Expr}
section
variable{X:Cx}
def Z5(i:Nat):TE:=λσ H Q=>∃v,σ[i]?=some (some v)/\Q v H
def tC(v:V):TE:=λ_ H Q=>Q v H
theorem KD{x:Str}{pos:Pos}(hN:X.N[i]?=some x)(hv:Vis X.env.scope x)(hd:(x==("__debug__":Str))=false:=by decide)(hcd:(x==("__classdict__":Str))=false:=by decide):PE X (.Name x pos) (Z5 i):=by
 intro ge s σ H Q I h;clear 5 h v e h;clear 5 I.loc m hn hl;clear 5(hl i x v hN e hv)u r l;have fin:EP X ge σ Q u s:=⟨v,H,I,r,h⟩;rcases l with⟨hk,hm⟩|⟨hk,c,hc,hcell⟩
 .exact wpAny_Name (wpAny_loadName_local I.ok.kind hk hn hm fin) hd
 .rcases hk with hk|hk
  .exact wpAny_Name (wpAny_loadName_cell I.ok.kind hk hc hcell fin) hd
  .exact wpAny_Name (wpAny_loadName_free I.ok.kind hk hc hcell fin hcd) hd
theorem Zg{i j pos}:PE X (.Constant (.int i) j pos) (tC (.int i)):=λ_ _ _ H _ I h=>wpAny_Constant_int ⟨.int i,H,I.tok _,⟨_,rfl⟩,h⟩
theorem aW{b j pos}:PE X (.Constant (.bool b) j pos) (tC (.bl b)):=λ_ _ _ H _ I h=>Constant_bool ⟨.bl b,H,I,rfl,h⟩
theorem Zi{j pos}:PE X (.Constant .none j pos) (tC .non):=λ_ _ _ H _ I h=>Constant_none ⟨.non,H,I,rfl,h⟩
theorem R0{x j pos}:PE X (.Constant (.str x) j pos) (tC (.str x)):=λ_ _ _ H _ I h=>Calls.Constant_str ⟨.str x,H,I.tok _,⟨_,rfl⟩,h⟩
def Gl(X:Cx)(x:Str):Prop:=X.env.kindOf x=some .globalImplicit
theorem EK{x:Str}{pos:Pos}{Q:gf->gh->Prop}(I:Inv X ge σ H s)(hg:Gl X x)(hm:X.mg x=some u)(h:Q u s)
 (hd:(x==("__debug__":Str))=false:=by decide):wpAny (model X.prog X.w) X.A (eval (.Name x pos) X.env) Q E s:=
 gm I.ok.kind hg (Calls.loadGlobal_global (by rw[I.ok.glob];exact I.mod.glob.keeps I.bk) hm h) hd
theorem Iz{x:Str}{pos:Pos}{Q:gf->gh->Prop}(I:Inv X ge σ H s)(hg:Gl X x)(hm:X.mg x=none)(hv:bootBuiltins x=some u)(h:Q u s)
 (hn:x≠"__name__":=by decide) (hd:(x==("__debug__":Str))=false:=by decide):wpAny (model X.prog X.w) X.A (eval (.Name x pos) X.env) Q E s:=by
 clear 5 I.mod.blt mb h1 h2;exact gm I.ok.kind hg (Calls.loadGlobal_builtin (by rw[I.ok.glob];exact I.mod.glob.keeps I.bk) hm (by rw[I.ok.blt];exact h1.keeps I.bk) ((h2 x hn).trans hv) h) hd
theorem Ls{x:Str}{pos:Pos}(hg:Gl X x)(hm:X.mg x=some u)(r:RelV v u)(hd:(x==("__debug__":Str))=false:=by decide):PE X (.Name x pos) (tC v):=
 λ_ _ _ H _ I h=>EK I hg hm ⟨v,H,I,r,h⟩ hd
theorem Wh{x:Str}{pos:Pos}(hg:Gl X x)(hm:X.mg x=none)(hv:bootBuiltins x=some u)(r:RelV v u)(hn:x≠"__name__":=by decide)(hd:(x==("__debug__":Str))=false:=by decide):PE X (.Name x pos) (tC v):=
 λ_ _ _ H _ I h=>Iz I hg hm hv ⟨v,H,I,r,h⟩ hn hd
variable{a b:Expr}{ta tb:TE}{pos:Pos}
def tB(t:TE):TT:=λσ H Q=>t σ H λx H1=>∃c,x=.bl c/\Q c H1
theorem Zw{t:TE}(h:PE X e t)(he:∀whole,isTrue e X.env whole=(do let v <-whole;standAt e.pos;holding [v] (truthy v)):=by intro _;rfl):PT X e (tB t):=by
 intro ge s σ H Q I hw;refine isTrue_plain (thn (h ge s σ H _ I hw) λv s1 z9=>?_) (he _);clear 5 z9 x H1 I1 r1 q1;clear 5 q1 d rfl q
 cases r1
 exact jd ⟨H1,I1,q⟩
variable{tA tB':TT}{rest:List Expr}
def dj(t u:TT):TT:=λσ H Q=>t σ H λc H1=>if c=true then u σ H1 Q else Q false H1
def tOr(t u:TT):TT:=λσ H Q=>t σ H λc H1=>if c=true then Q true H1 else u σ H1 Q
def dC(t:TT):TT:=λσ H Q=>t σ H λc H1=>Q (!c) H1
theorem WC(ha:PT X a tA):PW X (.BoolOp .And [a] pos) tA:=by
 intro wh ge s σ H Q I h;refine isTrue_and (thn (ha ge s σ H Q I h) λc s1 e=>?_)
 cases c with
 |true=>exact isTrue_and_nil e
 |false=>exact e
theorem Zy(ha:PT X a tA):PW X (.BoolOp .Or [a] pos) tA:=by
 intro wh ge s σ H Q I h;refine isTrue_or (thn (ha ge s σ H Q I h) λc s1 e=>?_)
 cases c with
 |false=>exact isTrue_or_nil e
 |true=>exact e
theorem Zx(ha:PT X a tA)(hb:PW X (.BoolOp .And (b::rest) pos) tB'):PW X (.BoolOp .And (a::b::rest) pos) (dj tA tB'):=by
 intro wh ge s σ H Q I h;refine isTrue_and (thn (ha ge s σ H _ I h) λc s1 z9=>?_);clear 5 z9 H1 I1 q1
 cases c with
 |true=>exact hb wh ge s1 σ H1 Q I1 q1
 |false=>exact⟨H1,I1,q1⟩
theorem bg(ha:PT X a tA)(hb:PW X (.BoolOp .Or (b::rest) pos) tB'):PW X (.BoolOp .Or (a::b::rest) pos) (tOr tA tB'):=by
 intro wh ge s σ H Q I h;refine isTrue_or (thn (ha ge s σ H _ I h) λc s1 z9=>?_);clear 5 z9 H1 I1 q1
 cases c with
 |true=>exact⟨H1,I1,q1⟩
 |false=>exact hb wh ge s1 σ H1 Q I1 q1
theorem Zv(ha:PT X a tA):PT X (.UnaryOp .Not a pos) (dC tA):=by
 intro ge s σ H Q I h;refine isTrue_not (thn (ha ge s σ H (λc H1=>Q (!c) H1) I h) λc s1 z=>?_);clear 5 z H1 I1 q1;exact⟨H1,I1,q1⟩
def bi(ta tb:TE):TE:=λσ H Q=>ta σ H λx H1=>∃c,x=.bl c/\if c=true then tb σ H1 Q else Q (.bl false) H1
def bu(ta:TE):TE:=λσ H Q=>ta σ H λx H1=>∃c,x=.bl c/\Q (.bl (!c)) H1
theorem Zk{op}{t:TE}(h:PE X a t):PE X (.BoolOp op [a] pos) t:=λge s σ H Q I hw=>BoolOp_one (h ge s σ H Q I hw)
theorem Ze(ha:PE X a ta)(hb:PE X (.BoolOp .And (b::rest) pos) tb):PE X (.BoolOp .And (a::b::rest) pos) (bi ta tb):=by
 intro ge s σ H Q I h;refine BoolOp_and (thn (ha ge s σ H _ I h) λv s1 z9=>?_);clear 5 z9 x H1 I1 r1 q1;clear 5 q1 c rfl q1
 cases r1
 refine jd ?_
 cases c with
 |true=>exact hb ge s1 σ H1 Q I1 q1
 |false=>exact⟨.bl false,H1,I1,rfl,q1⟩
theorem Zj(ha:PE X a ta):PE X (.UnaryOp .Not a pos) (bu ta):=by
 intro ge s σ H Q I h;refine UnaryOp_ (thn (ha ge s σ H _ I h) λv s1 z9=>?_);clear 5 z9 x H1 I1 r1 q1;clear 5 q1 c rfl q1
 cases r1
 exact not_of (jd ⟨.bl (!c),H1,I1,rfl,q1⟩)
def tIf(t:TT)(ta tb:TE):TE:=λσ H Q=>t σ H λc H1=>if c=true then ta σ H1 Q else tb σ H1 Q
theorem T4(hc:PT X c tA)(ha:PE X a ta)(hb:PE X b tb):PE X (.IfExp c a b pos) (tIf tA ta tb):=by
 intro ge s σ H Q I h;refine wpAny_IfExp (thn (hc ge s σ H _ I h) λd s1 z9=>?_);clear 5 z9 H1 I1 q1
 cases d with
 |true=>exact ha ge s1 σ H1 Q I1 q1
 |false=>exact hb ge s1 σ H1 Q I1 q1
end
noncomputable def SqL(K:gd)(H:Hp)(a:gg)(xs:List V):Prop:=
 Rd H a (.lst xs)\/
  ∃(o:Obj) (its:Array gf) (n:Nat),K.lookup a=some o/\o.cls=.type "list"/\o.dict=none/\o.data=.seq its n/\its.size<=sizeLine/\Vals xs its.toList
noncomputable def SqT(K:gd)(H:Hp)(a:gg)(xs:List V):Prop:=
 Rd H a (.tup xs)\/
  ∃(o:Obj) (its:Array gf) (n:Nat),K.lookup a=some o/\o.cls=.type "tuple"/\o.data=.seq its n/\its.size<=sizeLine/\Vals xs its.toList
noncomputable def cJ:gf->Option V
 |.none=>some .non
 |.bool b=>some (.bl b)
 |.int i _=>some (.int i)
 |.str x _=>some (.str x)
 |.bytes b _=>some (.byt b)
 |.float b _=>some (.flt b)
 |.ref a=>some (.ref a)
 |.type n=>some (.ty n)
 |_=>none
theorem RelV.abs{x:V}(r:RelV x u):cJ u=some x:=by
 cases x with
 |non=>cases r;rfl
 |bl _=>cases r;rfl
 |int _=>clear 5 r t rfl;rfl
 |str _=>clear 5 r t rfl;rfl
 |byt _=>clear 5 r t rfl;rfl
 |flt _=>clear 5 r t rfl;rfl
 |ref _=>cases r;rfl
 |ty _=>cases r;rfl
theorem RelV.inj{x y:V}{u:gf}(r:RelV x u)(q:RelV y u):x=y:=ui2 (r.abs.symm.trans q.abs)
theorem Vals.inj{xs ys:List V}{us:List gf}(a:Vals xs us)(b:Vals ys us):xs=ys:=by
 cases a with
 |nil=>
   cases b
   rfl
 |cons r t=>
   cases b with
   |cons r' t'=>rw[r.inj r',Vals.inj t t']
variable{K:gd}
section
variable{X:Cx}{ge:List (gg×Obj)}{σ:St}{H:Hp}{s:gh}{a:gg}{xs ys:List V}
theorem SqL.of(h:H a=some (.lst xs)):SqL K H a xs:=.inl (.inl h)
theorem SqT.of(h:H a=some (.tup xs)):SqT K H a xs:=.inl (.inl h)
theorem Inv.list(I:Inv X ge σ H s)(h:SqL X.K H a xs):∃its:List gf,Vals xs its/\PlainL s.heap a its.toArray/\xs.length<=sizeLine:=by
 rcases h with h|⟨o,its,n,hk,hc,hd,hs,hz,r⟩
 .clear 5(h.ok I.hok)z its n r e;exact⟨its,r,⟨_,n,e,rfl,rfl,rfl⟩,z⟩
 .refine⟨its.toList,r,⟨o,n,I.kIn a o hk,hc,hd,by simpa using hs⟩,?_⟩;have e:=r.length;simp only[ud8] at e;lia
theorem Inv.tuple(I:Inv X ge σ H s)(h:SqT X.K H a xs):∃its:List gf,Vals xs its/\IsTup s.heap a its.toArray/\xs.length<=sizeLine:=by
 rcases h with h|⟨o,its,n,hk,hc,hs,hz,r⟩
 .clear 5(h.ok I.hok)z its r p;exact⟨its,r,p,z⟩
 .refine⟨its.toList,r,⟨o,I.kIn a o hk,hc,n,by simpa using hs⟩,?_⟩;have e:=r.length;simp only[ud8] at e;lia
theorem Inv.list_inj(I:Inv X ge σ H s)(h:SqL X.K H a xs)(h':SqL X.K H a ys):xs=ys:=by
 obtain⟨its,r,⟨o,n,e,_,_,d⟩,_⟩:=I.list h;obtain⟨its',r',⟨o',n',e',_,_,d'⟩,_⟩:=I.list h';rw[e] at e';cases e'
 rw[d] at d';injection d' with d1 _
 have:its=its':=by simpa using kr Array.toList d1
 subst this;exact r.inj r'
theorem Inv.tuple_inj(I:Inv X ge σ H s)(h:SqT X.K H a xs)(h':SqT X.K H a ys):xs=ys:=by
 obtain⟨its,r,⟨o,e,_,n,d⟩,_⟩:=I.tuple h;obtain⟨its',r',⟨o',e',_,n',d'⟩,_⟩:=I.tuple h';rw[e] at e';cases e'
 rw[d] at d';injection d' with d1 _
 have:its=its':=by simpa using kr Array.toList d1
 subst this;exact r.inj r'
end
abbrev Cx.wish(X:Cx)(E:gf->gh->Prop):Cx:={X with xe:=E}
abbrev Cx.nox(X:Cx):Cx:=X.wish λ_ _=>False
theorem Cx.Ok.wish{X:Cx}(ok:X.Ok)(E:gf->gh->Prop):(X.wish E).Ok:=
 ⟨ok.mod,ok.kind,ok.glob,ok.blt,ok.above,ok.inj,ok.has,ok.cab,ok.hd,ok.frames,ok.stk,ok.exf,ok.bs,ok.bsz,ok.noex,ok.exfs,ok.funs,ok.frf⟩
theorem Cx.Ok.unwish(ok:(X.wish E).Ok):X.Ok:=
 ⟨ok.mod,ok.kind,ok.glob,ok.blt,ok.above,ok.inj,ok.has,ok.cab,ok.hd,ok.frames,ok.stk,ok.exf,ok.bs,ok.bsz,ok.noex,ok.exfs,ok.funs,ok.frf⟩
section
variable{X:Cx}{ge:List (gg×Obj)}{σ:St}{H:Hp}{s:gh}{E:gf->gh->Prop}
theorem Inv.wish(I:Inv X ge σ H s)(E:gf->gh->Prop):Inv (X.wish E) ge σ H s:=⟨I.ok.wish E,I.os,I.bare,I.base,I.loc,I.cell,I.free,I.freeC,I.pin,I.hok,I.len⟩
theorem Inv.unwish(I:Inv (X.wish E) ge σ H s):Inv X ge σ H s:=⟨I.ok.unwish,I.os,I.bare,I.base,I.loc,I.cell,I.free,I.freeC,I.pin,I.hok,I.len⟩
theorem SP.unwish{D:Ends}{f:Flow}{s':gh}(h:SP (X.wish E) ge D f s'):SP X ge D f s':=by
 cases f with
 |next=>clear 5 h σ' H' I q;exact⟨σ',H',I.unwish,q⟩
 |brk=>clear 5 h σ' H' I q;exact⟨σ',H',I.unwish,q⟩
 |cont=>clear 5 h σ' H' I q;exact⟨σ',H',I.unwish,q⟩
 |ret u=>clear 5 h v σ' H' I r q;exact⟨v,σ',H',I.unwish,r,q⟩
theorem PSs.nox{st:List Stmt}{t:TS}(h:PSs X.nox st t):PSs X st t:=λge s σ H D I hw=>
 un4 (h ge s σ H D (I.wish _) hw) (λ_ _ q=>q.unwish) λ_ _ z=>False.elim z
end
section
variable{X:Cx}{st:Stmt}{rest:List Stmt}{t u:TS}{e:Expr}{te:TE}{pos:Pos}
def U9:TS:=λD σ H=>D.nx σ H
def dF(t u:TS):TS:=λD σ H=>t {D with nx:=u D} σ H
theorem Wz:PSs X [] U9:=λ_ _ σ H _ I h=>jh ⟨σ,H,I,h⟩
theorem Ue(h1:PS X st t)(h2:PSs X rest u):PSs X (st::rest) (dF t u):=by
 intro ge s σ H D I h;refine wpAny_execs_cons (thn (h1 ge s σ H {D with nx:=u D} I h) λf s1 q=>?_)
 cases f with
 |next=>
   clear 5 q σ' H' I' q;exact h2 ge s1 σ' H' D I' q
 |ret v=>exact q
 |brk=>exact q
 |cont=>exact q
theorem OV(h1:PS X st t):PSs X [st] t:=by
 intro ge s σ H D I h;refine wpAny_execs_cons (thn (h1 ge s σ H D I h) λf s1 q=>?_)
 cases f with
 |next=>exact jh q
 |ret v=>exact q
 |brk=>exact q
 |cont=>exact q
def Z1:TS:=λD σ H=>D.bk σ H
def bo:TS:=λD σ H=>D.ct σ H
theorem Ww:PS X (.Pass pos) U9:=λ_ _ σ H _ I h=>wpAny_Pass ⟨σ,H,I,h⟩
theorem Ua:PS X (.Break pos) Z1:=λ_ _ σ H _ I h=>wpAny_Break ⟨σ,H,I,h⟩
theorem Og:PS X (.Continue pos) bo:=λ_ _ σ H _ I h=>wpAny_Continue ⟨σ,H,I,h⟩
theorem Inv.quiet(I:Inv X ge σ H s):interactive X.env=false:=by simp[interactive,I.ok.kind]
def U7(te:TE):TS:=λD σ H=>te σ H λ_ H1=>D.nx σ H1
theorem Lv(he:PE X e te)(hs:swapsWith e none pos.line X.env=pure false:=by rfl):PS X (.Expr e pos) (U7 te):=by
 intro ge s σ H D I h;exact wpAny_Expr_any (thn (he ge s σ H _ I h) λv s1 z9=>by clear 5 z9 x H1 I1 r1 q1;exact⟨σ,H1,I1,q1⟩) I.quiet hs
def dE(te:TE):TS:=λD σ H=>te σ H D.rt
theorem IP(he:PE X e te):PS X (.Return (some e) pos) (dE te):=by
 intro ge s σ H D I h;exact wpAny_Return_some (thn (he ge s σ H _ I h) λv s1 z9=>by clear 5 z9 x H1 I1 r1 q1;exact⟨x,σ,H1,I1,r1,q1⟩)
def dA(c:TT)(t u:TS):TS:=λD σ H=>c σ H λb H1=>if b=true then t D σ H1 else u D σ H1
theorem bf{a b:List Stmt}{tc:TT}(hc:PT X c tc)(ha:PSs X a t)(hb:PSs X b u):PS X (.If c a b pos) (dA tc t u):=by
 intro ge s σ H D I h;refine wpAny_If (thn (hc ge s σ H _ I h) λd s1 z9=>?_);clear 5 z9 H1 I1 q1
 cases d with
 |true=>exact ha ge s1 σ H1 D I1 q1
 |false=>exact hb ge s1 σ H1 D I1 q1
end
abbrev TG:=V->St->Hp->(St->Hp->Prop)->Prop
abbrev TGs:=List V->St->Hp->(St->Hp->Prop)->Prop
def PG(X:Cx)(target:Expr)(t:TG):Prop:=
 ∀(ge:List (gg×Obj)) (s:gh) (σ:St) (H:Hp) (v:V) (u:gf) (Q:St->Hp->Prop),Inv X ge σ H s->RelV v u->t v σ H Q->
  wpAny (model X.prog X.w) X.A (assign target X.env u) (λ_ s'=>∃σ' H',Inv X ge σ' H' s'/\Q σ' H') X.xe s
def PGs(X:Cx)(ts:List Expr)(t:TGs):Prop:=
 ∀(ge:List (gg×Obj)) (s:gh) (σ:St) (H:Hp) (vs:List V) (us:List gf) (Q:St->Hp->Prop),Inv X ge σ H s->Vals vs us->t vs σ H Q->
  wpAny (model X.prog X.w) X.A (assignInOrder ((assignEach ts X.env).map (·.2)) us) (λ_ s'=>∃σ' H',Inv X ge σ' H' s'/\Q σ' H') X.xe s
abbrev SL:=V->V->V->Hp->(Hp->Prop)->Prop
def Xx(X:Cx)(t:SL):Prop:=
 ∀(ge:List (gg×Obj)) (s:gh) (σ:St) (H:Hp) (o i v:V) (ov iv u:gf) (Q:Hp->Prop),Inv X ge σ H s->RelV o ov->RelV i iv->RelV v u->t o i v H Q->
  wpAny (model X.prog X.w) X.A (setItem ov iv u) (λ_ s'=>∃H',Inv X ge σ H' s'/\Q H') X.xe s
variable{tg:Expr}{ta:TA}
section
variable{X:Cx}{pos:Pos}
def Kv(i:Nat):TG:=λv σ H Q=>Q (σ.set i (some v)) H
theorem Wn{x:Str}(hN:X.N.Nodup)(hi:X.N[i]?=some x)(hx:Loc X.env.scope x)(hf:X.fn x=true\/X.env.scope.names.lookup x=some .local:=by walk_at"h"):PG X (.Name x pos) (Kv i):=by
 intro ge s σ H v u Q I r h;exact wpAny_assign_Name (Fs I hN hi hx r (λs' I'=>⟨_,H,I',h⟩) hf)
def cT:TGs:=λvs σ H Q=>vs=[]/\Q σ H
def UW(t:TG)(u:TGs):TGs:=λvs σ H Q=>∃v r,vs=v::r/\t v σ H λσ' H'=>u r σ' H' Q
theorem Wo:PGs X [] cT:=by
 intro ge s σ H vs us Q I r h;clear 5 h e h;subst e
 cases r
 exact assignInOrder_nil ⟨σ,H,I,h⟩
theorem T6{es:List Expr}{t:TG}{u:TGs}(h1:PG X e t)(h2:PGs X es u)
 (hs:(assignEach (e::es) X.env).map (·.2)=assign e X.env::(assignEach es X.env).map (·.2):=by rfl):PGs X (e::es) (UW t u):=by
 intro ge s σ H vs us Q I r h;clear 5 h v vr e1 h;subst e1
 cases r with
 |cons r rr=>
   rw[hs];refine iz (thn (h1 ge s σ H _ _ _ I r h) λ_ s1 z9=>?_);clear 5 z9 σ1 H1 I1 q1;exact h2 ge s1 σ1 H1 _ _ Q I1 rr q1
def cV(K:gd)(n:Nat)(t:TGs):TG:=λv σ H Q=>∃a xs,v=.ref a/\SqT K H a xs/\xs.length=n/\t xs σ H Q
theorem Zn{es:List Expr}{k:Nat}{t:TGs}{n:Nat}(hc:X.calm=true)(h:PGs X es t)
 (hn:(assignEach es X.env).length=n:=by rfl) (hst:(assignEach es X.env).findIdx? (·.1)=none:=by rfl):PG X (.Tuple es k pos) (cV X.K n t):=by
 intro ge s σ H v u Q I r hw;clear 5 hw a xs e1 hq hl hw;subst e1
 cases r
 clear 5(I.tuple hq)its rv ht hz;refine assign_Tuple_tuple (I.ok.hd hc) ht (by simp[hn,<-hl,rv.length]) hst λh' hx=>?_;have I1:Inv X ge σ H {s with heap:=h'}:=I.kept (t':=s.toks) λb o e=>hx b o (ul8 (ul7 e)) e;exact h ge _ σ H xs _ Q I1 (by simpa using rv) hw
def cU(to ti:TE)(t:SL):TG:=λv σ H Q=>to σ H λo H1=>ti σ H1 λi H2=>t o i v H2 λH3=>Q σ H3
theorem Zm{o i:Expr}{to ti:TE}{t:SL}(ho:PE X o to)(hi:PE X i ti)(hs:Xx X t)
 (ha:∀v,assign (.Subscript o i pos) X.env v=(do
   let ov <-holding [v] (eval o X.env)
   let iv <-holding [v,ov] (eval i X.env)
   standAt pos
   holding [v,ov,iv] (setItem ov iv v)
   release [v,ov,iv] []):=by intro _;rfl):PG X (.Subscript o i pos) (cU to ti t):=by
 intro ge s σ H v u Q I r h;rw[ha];refine un2 (ul6 (thn (ho ge s σ H _ I h) λov s1 z9=>?_));clear 5 z9 x H1 I1 r1 q1;refine un2 (ul6 (thn (hi ge s1 σ H1 _ I1 q1) λiv s2 z9=>?_));clear 5 z9 y H2 I2 r2 q2;refine un2 (jn (un2 (ul6 (thn (hs ge s2 σ H2 x y v ov iv u _ I2 r1 r2 r q2) λ_ s3 z9=>?_))));clear 5 z9 H3 I3 q3;exact wpAny_release ⟨σ,H3,I3,q3⟩
def NZ(te:TE)(g:TG):TS:=λD σ H=>te σ H λx H1=>g x σ H1 D.nx
theorem R6{te:TE}{g:TG}(he:PE X e te)(hg:PG X tg g)(hs:swapsWithSole [tg] e pos.line X.env=pure false:=by rfl)(hw:swappedStores [tg] e X.env=pure none:=by rfl)
 (h1:(assignEach [tg] X.env).map (·.2)=[assign tg X.env]:=by rfl):PS X (.Assign [tg] e pos) (NZ te g):=by
 intro ge s σ H D I h;refine wpAny_Assign_stores (thn (he ge s σ H _ I h) λv s1 z9=>?_) hs hw;clear 5 z9 x H1 I1 r1 q1;rw[h1];exact thn (hg ge s1 σ H1 x v _ I1 r1 q1) λ_ s2 q=>q
theorem NI{x:Str}{te:TE}{pos':Pos}(hN:X.N.Nodup)(hi:X.N[i]?=some x)(hx:Loc X.env.scope x)(he:PE X e te)(hs:swapsWith e (some (.Name x pos')) pos.line X.env=pure false:=by rfl)(hf:X.fn x=true\/X.env.scope.names.lookup x=some .local:=by walk_at"h") :
 PS X (.Assign [.Name x pos'] e pos) (NZ te (Kv i)):=by
 intro ge s σ H D I h;refine wpAny_Assign_Name (thn (he ge s σ H _ I h) λv s1 z9=>?_) hs;clear 5 z9 y H1 I1 r1 q1;exact Fs I1 hN hi hx r1 (λs2 I2=>⟨_,H1,I2,q1⟩) hf
def dD(i j:Nat)(ta:TA):TS:=λD σ H=>ta σ H λvs H1=>∃v w,vs=[v,w]/\D.nx ((σ.set i (some v)).set j (some w)) H1
theorem Zt{j:Nat}{x y:Str}{a b:Expr}{px py pt:Pos}{kt k2 pt2}(hc:X.calm=true)(hN:X.N.Nodup)(hi:X.N[i]?=some x)(hj:X.N[j]?=some y)(hij:i≠j)
 (hx:X.env.scope.names.lookup x=some .local) (hy:X.env.scope.names.lookup y=some .local) (ha:PA X [a,b] ta)
 (hw:swappedStores [.Tuple [.Name x px,.Name y py] kt pt] (.Tuple [a,b] k2 pt2) X.env=pure (some [x,y]))
 (hs:swapsWithSole [.Tuple [.Name x px,.Name y py] kt pt] (.Tuple [a,b] k2 pt2) pos.line X.env=pure false:=by rfl) :
 PS X (.Assign [.Tuple [.Name x px,.Name y py] kt pt] (.Tuple [a,b] k2 pt2) pos) (dD i j ta):=by
 intro ge s σ H D I h;rw[exec_Assign_arm];refine un2 (jn ?_);rw[hs];refine un2 (un3 ?_);rw[kS (by decide)];refine un2 (Tuple_ (thn (ha _ ge s σ H _ I h) λus s1 z9=>?_));clear 5 z9 vs H1 I1 r1 q1;clear 5 q1 v w e1 q1;subst e1;obtain⟨u1,u2,rfl,rv,rw'⟩:∃u1 u2,us=[u1,u2]/\RelV v u1/\RelV w u2:=by
  cases r1 with
  |cons p q=>
    cases q with
    |cons p' q'=>
      cases q'
      exact⟨_,_,rfl,p,p'⟩
 refine je ?_ (by show 2<=sizeLine;decide);have I2:Inv X ge σ H1 {s1 with heap:=s1.heap.push {cls:=.type "tuple",data:=.seq [u1,u2].toArray} }:=I1.kept (t':=s1.toks) λb o e=>ub9 _ e;rw[hw];refine un2 (un3 ?_);show wpAny (model X.prog X.w) X.A (do rule "assign.swapped-stores";let items <-unpackItems (.ref s1.heap.objs.size) 2 none;assignInOrder [λv=>bindName X.env y v,λv=>bindName X.env x v] items.reverse;pure Flow.next) _ _ _;refine un2 (wpAny_rule (un2 (unpackItems_tuple (items:=#[u1,u2]) (I.ok.hd hc) (IsTup.new s1.heap _) λh' hx'=>?_)));have I3:=I2.kept (h':=h') (t':=s1.toks) λb o e=>hx' b o (ul8 (ul7 e)) e;show wpAny _ _ (assignInOrder [λv=>bindName X.env y v,λv=>bindName X.env x v] [u2,u1] >>= λ_=>pure Flow.next) _ _ _;refine un2 (iz (jk (Fs I3 hN hj (.inl hy) rw' (λs2 I4=>?_) (.inr hy))));refine iz (jk (Fs I4 hN hi (.inl hx) rv (λs3 I5=>assignInOrder_nil (un3 ?_)) (.inr hx)));rw[List.set_comm _ _ (Ne.symm hij)] at I5;exact⟨_,H1,I5,q1⟩
end
section
variable{X:Cx}{pos:Pos}
def Sx(c:TT)(tb:TS):TS:=λD σ H=>∃W:Nat->St->Hp->Prop,(∃m,W m σ H)/\∀m σ H,W m σ H->
 c σ H λb H1=>if b=true then ∃N:St->Hp->Prop,(∀σ' H',N σ' H'->∃m',m'<m/\W m' σ' H')/\tb {D with nx:=N,ct:=N,bk:=D.nx} σ H1 else D.nx σ H1
theorem Uc{body:List Stmt}{tc:TT}{tb:TS}(hp:PassesOwn (model X.prog X.w) X.A X.env X.xe)(hc:PT X c tc)(hb:PSs X body tb):PS X (.While c body [] pos) (Sx tc tb):=by
 intro ge s σ H D I h;obtain⟨W,⟨m0,w0⟩,turn⟩:=h;refine wpAny_While (codeAny_whileLoop (λn s'=>∃σ' H',Inv X ge σ' H' s'/\W n σ' H') ?_ m0 ⟨σ,H,I,w0⟩);rintro n s1 ⟨σ1,H1,I1,w1⟩;refine ji hp (thn (hc ge s1 σ1 H1 _ I1 (turn n σ1 H1 w1)) λb s2 z9=>?_);clear 5 z9 H2 I2 q2
 cases b with
 |true=>
   clear 5 q2 N hN q2;rw[kQ rfl];refine ji hp (thn (hb ge s2 σ1 H2 _ I2 q2) λf s3 q3=>?_)
   cases f with
   |next=>
     clear 5 q3 σ3 H3 I3 n3;clear 5(hN σ3 H3 n3)m' hm w3;exact⟨m',hm,σ3,H3,I3,w3⟩
   |cont=>
     clear 5 q3 σ3 H3 I3 n3;clear 5(hN σ3 H3 n3)m' hm w3;exact⟨m',hm,σ3,H3,I3,w3⟩
   |brk=>exact q3
   |ret v=>exact q3
 |false=>
   rw[kS ue6];exact jh ⟨σ1,H2,I2,q2⟩
end
structure It where
 go:Nat->Hp->Prop
 yld:Nat->Hp->V->Hp->Prop
 stop:Nat->Hp->Prop
def FpOk(X:Cx)(ge:List (gg×Obj))(H:Hp)(b:gg):Prop:=
 H b=none/\b≠X.env.locals/\b∉X.fs/\(b∈X.ex\/X.s₀.heap.objs.size<=b)/\(∀x c,X.env.cells.lookup x=some c->c≠b)/\∀p∈X.pn++ge,p.1≠b
theorem Inv.fpOk{H':Hp}(I:Inv X ge σ H s)(hb:s.heap.objs.size<=b)(hn:H' b=none):FpOk X ge H' b:=by
 refine⟨hn,um0 (ue4 I.lt hb),I.nofs hb,.inr (ul9 I.sz hb),λx c e z=>?_,λp hp z=>?_⟩
 .clear 5(I.cell x c e)v q;exact absurd (ue4 q.lt (by rw[z];exact hb)) (uk4 _)
 .exact absurd (ue4 (ul7 (I.pin p hp).1) (by rw[z];exact hb)) (uk4 _)
structure Turn(P:gi)(w:gj)(K:gd)(tg:Expr)(J:It)(fp:List gg)(it:gg)(tn:Nat->Heap->Prop):Prop where
 mem:it∈fp
 obj:∀i h,tn i h->∀b∈fp,∃o,h.get? b=some o/\∀v,o.data≠.cell v
 keep:∀i h h',tn i h->(∀b∈fp,∀o,h.get? b=some o->h'.get? b=some o)->tn i h'
 item:∀(X:Cx),X.prog=P->X.w=w->X.K=K->X.calm=true->∀(i:Nat) (ge:List (gg×Obj)) (s:gh) (σ:St) (H:Hp) (E:gf->gh->Prop),Inv X ge σ H s->(∀b∈fp,FpOk X ge H b)->tn i s.heap->J.go i H->
  wpAny (model P w) X.A (pyNext (.ref it)) (λr s1=>∃u,r=some u/\
   wpAny (model P w) X.A (letOwnedTupleGo tg (.ref it) u) (λ_ s2=>∃x H',Inv X ge σ H' s2/\RelV x u/\J.yld i H x H'/\tn (i+1) s2.heap/\∀b∈fp,H' b=none) E s1) E s
 done:∀(X:Cx),X.prog=P->X.w=w->X.K=K->X.calm=true->∀(i:Nat) (ge:List (gg×Obj)) (s:gh) (σ:St) (H:Hp) (E:gf->gh->Prop),Inv X ge σ H s->(∀b∈fp,FpOk X ge H b)->tn i s.heap->J.stop i H->
  wpAny (model P w) X.A (pyNext (.ref it)) (λr s1=>r=none/\Inv X ge σ H s1) E s
 self:∀(A:Around) (i:Nat) (s:gh) (Q:gf->gh->Prop) (E:gf->gh->Prop),tn i s.heap->Q (.ref it) s->wpAny (model P w) A (pyIter (.ref it)) Q E s
abbrev TI:=St->Hp->(It->Hp->Prop)->Prop
def PIE(X:Cx)(ge:List (gg×Obj))(σ:St)(tg:Expr)(R:It->Hp->Prop)(itv:gf)(s2:gh):Prop:=
 ∃(it:gg) (fp:List gg) (tn:Nat->Heap->Prop) (J:It) (H':Hp),itv=.ref it/\Inv X ge σ H' s2/\Turn X.prog X.w X.K tg J fp it tn/\tn 0 s2.heap/\(∀b∈fp,FpOk X ge H' b)/\R J H'
def PI(X:Cx)(tg iter:Expr)(wi:TI):Prop:=
 ∀(ge:List (gg×Obj)) (s:gh) (σ:St) (H:Hp) (R:It->Hp->Prop),Inv X ge σ H s->wi σ H R->
  wpAny (model X.prog X.w) X.A (eval iter X.env) (λv s1=>wpAny (model X.prog X.w) X.A (pyIter v) (PIE X ge σ tg R) X.xe s1) X.xe s
theorem Mq{M:Model}{A:Around}{it:gg}{o:Obj}{n:String}{vs:Array gf}(ho:s.heap.get? it=some o)(hc:o.cls=.type n)(hd:o.data=.fields vs)
 (hn:["enumerate", "zip", "dict_itemiterator", "dict_reverseitemiterator", "odict_iterator", "itertools.zip_longest", "itertools.pairwise"].contains n=false) (hQ:Q () s):wpAny M A (letOwnedTupleGo tg (.ref it) u) Q E s:=by
 unfold letOwnedTupleGo
 cases tg<;>first
  |exact un3 hQ
  | (cases u <;> first
      |exact un3 hQ
      | (refine un2 (wpAny_load ho ?_)
         rw[hc,hd];show wpAny M A (if (["enumerate", "zip", "dict_itemiterator", "dict_reverseitemiterator", "odict_iterator", "itertools.zip_longest", "itertools.pairwise"].contains n&&vs[0]?==some (rawInt _))=true then _ else _) Q E s;rw[kS (by intro h;rw[hn,uk0] at h;cases h)]
         exact un3 hQ))
def Itl(K:gd)(a:gg):It:=
 ⟨λi H=>∃xs x,SqL K H a xs/\xs[i]?=some x,λi H x H'=>H'=H/\∀xs,SqL K H a xs->xs[i]?=some x,λi H=>∃xs,SqL K H a xs/\xs.length<=i⟩
def Itt(K:gd)(a:gg):It:=
 ⟨λi H=>∃xs x,SqT K H a xs/\xs[i]?=some x,λi H x H'=>H'=H/\∀xs,SqT K H a xs->xs[i]?=some x,λi H=>∃xs,SqT K H a xs/\xs.length<=i⟩
noncomputable def Itr(lo:Int)(n:Nat):It:=⟨λi _=>i<n,λi H x H'=>H'=H/\x=.int (lo+i),λi _=>n<=i⟩
theorem SA(a it:gg):Turn P w K tg (Itl K a) [it] it (λi h=>h.IsListIter it a i) where
 mem:=by simp
 obj:=λi h st b hb=>by
  have e:b=it:=by simpa using hb
  subst e;clear 5 st o e c d;exact⟨o,e,λv z=>by rw[d] at z;cases z⟩
 keep:=λi h h' st k=>st.at λo e=>k it (by simp) o e
 item:=by
  intro X hP hw hK hc i ge s σ H E I hf st hg;subst hP hw hK;clear 5 hg xs x hq hx;clear 5(I.list hq)its rv p hz;clear 5(rv.get hx)u hu ru;clear 5(hf it (by simp))f0 f1 f2 f3 f4 f5;refine wpAny_pyNext_list_item st p.isList (x:=u) (by simpa using hu) λh' st' sb=>?_;have I1:Inv X ge σ H {s with heap:=h'}:=I.turned (t':=s.toks) (λb o hb e=>(sb.2 b hb).trans e) f0 f1 f3 f4 f5;clear 5(id st')o e c d;exact⟨u,rfl,Mq (s:={s with heap:=h'}) e c d (by decide) ⟨x,H,I1,ru,⟨rfl,λys hy=>by rw[I.list_inj hy hq];exact hx⟩,st',λb hb=>(hf b hb).1⟩⟩
 done:=by
  intro X hP hw hK hc i ge s σ H E I hf st hg;subst hP hw hK;clear 5 hg xs hq hx;clear 5(I.list hq)its rv p hz;clear 5(hf it (by simp))f0 f1 f2 f3 f4 f5;have hl:=rv.length;exact wpAny_pyNext_list_end (I.ok.hd hc) st p.isList (by simp;lia) λh' eb=>⟨rfl,I.turned (t':=s.toks) (λb o hb e=>eb b o hb e) f0 f1 f3 f4 f5⟩
 self:=λ_ _ _ _ _ st h=>wpAny_pyIter_listiter st h
theorem Qh(a it:gg):Turn P w K tg (Itt K a) [it] it (λi h=>h.IsTupleIter it a i) where
 mem:=by simp
 obj:=λi h st b hb=>by
  have e:b=it:=by simpa using hb
  subst e;clear 5 st o e c d;exact⟨o,e,λv z=>by rw[d] at z;cases z⟩
 keep:=λi h h' st k=>st.at λo e=>k it (by simp) o e
 item:=by
  intro X hP hw hK hc i ge s σ H E I hf st hg;subst hP hw hK;clear 5 hg xs x hq hx;clear 5(I.tuple hq)its rv p hz;clear 5(rv.get hx)u hu ru;clear 5(hf it (by simp))f0 f1 f2 f3 f4 f5;refine wpAny_pyNext_tuple_item st (show s.heap.IsTuple a its.toArray from p) (x:=u) (by simpa using hu) λh' st' sb=>?_;have I1:Inv X ge σ H {s with heap:=h'}:=I.turned (t':=s.toks) (λb o hb e=>(sb.2 b hb).trans e) f0 f1 f3 f4 f5;clear 5(id st')o e c d;exact⟨u,rfl,Mq (s:={s with heap:=h'}) e c d (by decide) ⟨x,H,I1,ru,⟨rfl,λys hy=>by rw[I.tuple_inj hy hq];exact hx⟩,st',λb hb=>(hf b hb).1⟩⟩
 done:=by
  intro X hP hw hK hc i ge s σ H E I hf st hg;subst hP hw hK;clear 5 hg xs hq hx;clear 5(I.tuple hq)its rv p hz;clear 5(hf it (by simp))f0 f1 f2 f3 f4 f5;have hl:=rv.length;exact wpAny_pyNext_tuple_end (I.ok.hd hc) st (show s.heap.IsTuple a its.toArray from p) (by simp;lia) λh' eb=>⟨rfl,I.turned (t':=s.toks) (λb o hb e=>eb b o hb e) f0 f1 f3 f4 f5⟩
 self:=λ_ _ _ _ _ st h=>wpAny_pyIter_tupleiter st h
theorem Qg(it:gg)(lo:Int)(n:Nat):Turn P w K tg (Itr lo n) [it] it (λi h=>IsRangeIter h it (lo+(i:Nat)*1) ((n:Int)-(i:Nat)) 1) where
 mem:=by simp
 obj:=λi h st b hb=>by
  have e:b=it:=by simpa using hb
  subst e;exact⟨_,st,λv z=>by
   have z':Data.fields _=Data.cell v:=z
   cases z'⟩
 keep:=λi h h' st k=>k it (by simp) _ st
 item:=by
  intro X hP hw hK hc i ge s σ H E I hf st hg;subst hP hw hK;clear 5(hf it (by simp))f0 f1 f2 f3 f4 f5;have W:=Walks.range (prog:=X.prog) (w:=X.w) (I.ok.hd hc) it lo 1 n;refine W.item i s _ _ hg st λv h' tk hv st' kk=>?_;clear 5 hv t rfl;have I1:Inv X ge σ H {s with heap:=h',toks:=tk}:=I.turned (λb o hb e=>kk b o (by simpa using hb) e) f0 f1 f3 f4 f5;refine⟨_,rfl,Mq (s:={s with heap:=h',toks:=tk}) (n:="range_iterator") st' rfl rfl (by decide) ⟨.int (lo+i),H,I1,⟨t,?_⟩,⟨rfl,rfl⟩,st',λb hb=>(hf b hb).1⟩⟩;rw[Int.mul_one]
 done:=by
  intro X hP hw hK hc i ge s σ H E I hf st hg;subst hP hw hK;clear 5(hf it (by simp))f0 f1 f2 f3 f4 f5;exact wpAny_pyNext_range_end (I.ok.hd hc) st (by have:n<=i:=hg;lia) λh' eb=>⟨rfl,I.turned (t':=s.toks) (λb o hb e=>eb b o hb e) f0 f1 f3 f4 f5⟩
 self:=λ_ _ _ _ _ st h=>wpAny_pyIter_rangeiter st h
variable{fp:List gg}
section
variable{X:Cx}{tg:Expr}
theorem NK{R:It->Hp->Prop}{lo hi:Int}{t u v:Tok}{tk:Nat}(I:Inv X ge σ H s)(h1 : -(2 ^ 62)<=lo)(h2:lo<2 ^ 62)(h3 : -(2 ^ 62)<=hi)(h4:hi<2 ^ 62)
 (q:R (Itr lo (hi-lo).toNat) H):wpAny (model X.prog X.w) X.A (pyIter (.ref s.heap.objs.size)) (PIE X ge σ tg R) E {s with heap:=s.heap.push {cls:=.type "range",data:=.fields #[.int lo t,.int hi u,.int 1 v]},toks:=tk}:=by
 refine wpAny_pyIter_range (IsRange.new ..) (small_one h1 h2 h3 h4) ?_;have I1:Inv X ge σ H {s with heap:=s.heap.push {cls:=.type "range",data:=.fields #[.int lo t,.int hi u,.int 1 v]},toks:=tk}:=I.kept λb o e=>ub9 _ e;refine⟨(s.heap.push {cls:=.type "range",data:=.fields #[.int lo t,.int hi u,.int 1 v]}).objs.size,[(s.heap.push {cls:=.type "range",data:=.fields #[.int lo t,.int hi u,.int 1 v]}).objs.size],_,_,H,rfl,
  I1.kept (t':=tk) λb o e=>ub9 _ e,Qg _ lo (hi-lo).toNat,?_,λb hb=>?_,q⟩
 .have e1:lo+((0:Nat):Int)*1=lo:=by simp
  have e2:(((hi-lo).toNat:Nat):Int)-((0:Nat):Int)=Builtin.Range.rangeSize lo hi 1:=by rw[rangeSize_one];split<;>lia
  show IsRangeIter _ _ (lo+((0:Nat):Int)*1) ((((hi-lo).toNat:Nat):Int)-((0:Nat):Int)) 1;rw[e1,e2];exact ud9 _ rfl
 .have e:b=(s.heap.push {cls:=.type "range",data:=.fields #[.int lo t,.int hi u,.int 1 v]}).objs.size:=by simpa using hb
  subst e;exact I1.fpOk (um8 _) (I1.hok.fresh (um8 _))
def aQ(ta:TA):TI:=λσ H R=>ta σ H λvs H1=>∃j:Int,vs=[.int j]/\-(2 ^ 62)<=j/\j<2 ^ 62/\R (Itr 0 j.toNat) H1
def aR(ta:TA):TI:=λσ H R=>ta σ H λvs H1=>∃i j:Int,vs=[.int i,.int j]/\(-(2 ^ 62)<=i/\i<2 ^ 62/\-(2 ^ 62)<=j/\j<2 ^ 62)/\R (Itr i (j-i).toNat) H1
theorem R3{a:Expr}{p pos:Pos}(hg:Gl X "range")(hm:X.mg "range" = none)(ha:PA X [a] ta)(hs:starEach [a] X.env=[(false,eval a X.env)]:=by rfl):PI X tg (.Call (.Name "range" p) [a] [] pos) (aQ ta):=by
 intro ge s σ H R I h;refine Call_ (Iz I hg hm boot_range (ua4 (thn (ha pos ge s σ H _ I h) λus s1 z9=>?_) hs rfl));clear 5 z9 vs H1 I1 r1 q1;clear 5 q1 j e q1 q2 q;subst e
 cases r1 with
 |cons r rr=>
   cases rr
   clear 5 r t rfl;exact call_range_1 (NK I1 (by lia) (by lia) q1 q2 (by simpa using q))
theorem R4{a b:Expr}{p pos:Pos}(hg:Gl X "range")(hm:X.mg "range" = none)(ha:PA X [a,b] ta)(hs:starEach [a,b] X.env=[(false,eval a X.env),(false,eval b X.env)]:=by rfl)(hs2:starEach [b] X.env=[(false,eval b X.env)]:=by rfl) :
 PI X tg (.Call (.Name "range" p) [a,b] [] pos) (aR ta):=by
 intro ge s σ H R I h;refine Call_ (Iz I hg hm boot_range (ua4 (thn (ha pos ge s σ H _ I h) λus s1 z9=>?_) (by rw[hs,hs2]) (by rw[hs2];rfl)));clear 5 z9 vs H1 I1 r1 q1;obtain⟨i,j,e,⟨q1,q2,q3,q4⟩,q⟩:=q1;subst e
 cases r1 with
 |cons r rr=>
   cases rr with
   |cons r' rr=>
     cases rr
     clear 5 r t rfl;clear 5 r' t' rfl;exact call_range_2 (NK I1 q1 q2 q3 q4 q)
def Z3(wi:TI)(g:TG)(tb:TS):TS:=λD σ H=>wi σ H λJ H1=>∃W:Nat->Nat->St->Hp->Prop,(∃m,W 0 m σ H1)/\∀i m σ H,W i m σ H->
 (J.stop i H/\D.nx σ H)\/(J.go i H/\∃N:St->Hp->Prop,(∀σ' H',N σ' H'->∃m',m'<m/\W (i+1) m' σ' H')/\∀x H',J.yld i H x H'->g x σ H' λσ2 H2=>tb {D with nx:=N,ct:=N,bk:=D.nx} σ2 H2)
noncomputable def IN(fp:List gg)(h:Heap):List (gg×Obj):=fp.filterMap λb=>(h.get? b).map λo=>(b,o)
theorem FX{o:Obj}(hb:b∈fp)(e:h.get? b=some o):(b,o)∈IN fp h:=List.mem_filterMap.mpr ⟨b,hb,by rw[e];rfl⟩
theorem RN{p:gg×Obj}(hp:p∈IN fp h):p.1∈fp/\h.get? p.1=some p.2:=by
 clear 5(List.mem_filterMap.mp hp)b hb e
 cases q:h.get? b with
 |none=>rw[q] at e;cases e
 |some o=>
   rw[q] at e;have e':(b,o)=p:=ui2 e;subst e';exact⟨hb,q⟩
theorem Inv.pinned(I:Inv X ge σ H s)(hf:∀b∈fp,FpOk X ge H b)(ho:∀b∈fp,∃o,s.heap.get? b=some o/\∀v,o.data≠.cell v):Inv X (ge++IN fp s.heap) σ H s:=
 I.pins_of λp hp=>(ui1.mp hp).elim (λz=>I.pin p (uc6 _ z)) λz=>by
  clear 5(RN z)hb e;obtain⟨f0,f1,f2,_⟩:=hf p.1 hb;clear 5(ho p.1 hb)o e' d;rw[e] at e';cases e'
  exact⟨e,f0,f1,f2,d⟩
theorem Inv.unpinned{pl:List (gg×Obj)}(I:Inv X (ge++pl) σ H s):Inv X ge σ H s:=I.pins_of λp hp=>I.pin p (uc6 _ (List.mem_append_left _ hp))
theorem Zs{iter:Expr}{body:List Stmt}{wi:TI}{g:TG}{tb:TS}{pos:Pos}(hp:PassesOwn (model X.prog X.w) X.A X.env X.xe)(hc:X.calm=true)(hi:PI X tg iter wi)(hg:PG X tg g)(hb:PSs X body tb)
 (hs:∀x,foldedSetIterable iter X.env x=pure x:=by intro _;rfl):PS X (.For tg iter body [] pos) (Z3 wi g tb):=by
 intro ge s σ H D I h;refine wpAny_For (thn (hi ge s σ H _ I h) λv s1 h1=>thn h1 λitv s2 h2=>?_) hs;obtain⟨it,fp,tn,J,H2,e,I2,T,st2,f2,W,⟨m0,w0⟩,turn⟩:=h2;subst e
 -- what stays true of the iterator's objects through the loop
 have stat:∀{H':Hp},(∀b∈fp,H' b=none)->∀b∈fp,FpOk X ge H' b:=λhn b hb=>⟨hn b hb,(f2 b hb).2⟩;refine codeAny_forLoop_any (λn s'=>∃i σ' H',Inv X ge σ' H' s'/\tn i s'.heap/\(∀b∈fp,H' b=none)/\W i n σ' H') ?_ m0 ⟨0,σ,H2,I2,st2,λb hb=>(f2 b hb).1,w0⟩;rintro n s3 ⟨i,σ3,H3,I3,st3,fr3,w3⟩;rcases turn i n σ3 H3 w3 with⟨stop,qn⟩|⟨go,N,hN,step⟩
 .refine ji hp (thn (T.done X rfl rfl rfl hc i ge s3 σ3 H3 X.xe I3 (stat fr3) st3 stop) λr s4 z9=>?_);clear 5 z9 hr I4;subst hr;exact jh ⟨σ3,H3,I4,qn⟩
 .refine ji hp (thn (T.item X rfl rfl rfl hc i ge s3 σ3 H3 X.xe I3 (stat fr3) st3 go) λr s4 z9=>?_);clear 5 z9 u hr h4;subst hr;refine ji hp (thn h4 λ_ s5 z9=>?_);clear 5 z9 x H5 I5 r5 y5 st5 fr5;have I5':=I5.pinned (stat fr5) (T.obj _ _ st5);refine ji hp (thn (hg _ s5 σ3 H5 x u _ I5' r5 (step x H5 y5)) λ_ s6 z9=>?_);clear 5 z9 σ6 H6 I6 q6;refine ji hp (thn (hb _ s6 σ6 H6 _ I6 q6) λf s7 q7=>?_);have again:∀{σ7:St}{H7:Hp},Inv X (ge++IN fp s5.heap) σ7 H7 s7->N σ7 H7->∃m,m<n/\∃i σ' H',Inv X ge σ' H' s7/\tn i s7.heap/\(∀b∈fp,H' b=none)/\W i m σ' H':=λ{σ7 H7} I7 n7=>by
   clear 5(hN σ7 H7 n7)m' hm w7;refine⟨m',hm,i+1,σ7,H7,I7.unpinned,T.keep _ _ _ st5 λb hb o e=>(I7.pin (b,o) (uc6 _ (uc6 _ (FX hb e)))).1,λb hb=>?_,w7⟩;clear 5(T.obj _ _ st5 b hb)o e d;exact(I7.pin (b,o) (uc6 _ (uc6 _ (FX hb e)))).2.1
  cases f with
  |next=>clear 5 q7 σ7 H7 I7 n7;exact again I7 n7
  |cont=>clear 5 q7 σ7 H7 I7 n7;exact again I7 n7
  |brk=>clear 5 q7 σ7 H7 I7 q7;exact⟨σ7,H7,I7.unpinned,q7⟩
  |ret v=>clear 5 q7 x7 σ7 H7 I7 r7 q7;exact⟨x7,σ7,H7,I7.unpinned,r7,q7⟩
end
abbrev R2:=V->V->Hp->VK->Prop
def OpR(X:Cx)(f:gf->gf->Sem gf)(r:R2):Prop:=
 ∀(ge:List (gg×Obj)) (s:gh) (σ:St) (H:Hp) (x y:V) (v u:gf) (Q:VK),Inv X ge σ H s->RelV x v->RelV y u->r x y H Q->
  wpAny (model X.prog X.w) X.A (f v u) (EP X ge σ Q) X.xe s
def UnR(X:Cx)(f:gf->Sem gf)(r:V->Hp->VK->Prop):Prop:=
 ∀(ge:List (gg×Obj)) (s:gh) (σ:St) (H:Hp) (x:V) (v:gf) (Q:VK),Inv X ge σ H s->RelV x v->r x H Q->
  wpAny (model X.prog X.w) X.A (f v) (EP X ge σ Q) X.xe s
def C9(X:Cx)(f:gf)(r:List V->Hp->VK->Prop):Prop:=
 ∀(ge:List (gg×Obj)) (s:gh) (σ:St) (H:Hp) (xs:List V) (us:List gf) (Q:VK),Inv X ge σ H s->Vals xs us->r xs H Q->
  wpAny (model X.prog X.w) X.A (call f us) (EP X ge σ Q) X.xe s
def tOp(r:R2)(ta tb:TE):TE:=λσ H Q=>ta σ H λx H1=>tb σ H1 λy H2=>r x y H2 Q
def tUn(r:V->Hp->VK->Prop)(ta:TE):TE:=λσ H Q=>ta σ H λx H1=>r x H1 Q
def rI(C:Int->Int->Prop)(g:Int->Int->V):R2:=λx y H Q=>∃i j,x=.int i/\y=.int j/\C i j/\Q (g i j) H
def rI0(g:Int->Int->V):R2:=λx y H Q=>∃i j,x=.int i/\y=.int j/\Q (g i j) H
def rU(g:Int->V):V->Hp->VK->Prop:=λx H Q=>∃i,x=.int i/\Q (g i) H
variable{r:R2}{f:gf->gf->Sem gf}
section
variable{X:Cx}{a b c:Expr}{ta tb tc:TE}{pos:Pos}
theorem SR(ha:PE X a ta)(hb:PE X b tb){ge:List (gg×Obj)}{s:gh}{σ:St}{H:Hp}{R:V->V->Hp->Prop}(I:Inv X ge σ H s)
 (h:ta σ H λx H1=>tb σ H1 λy H2=>R x y H2){Q:gf->gh->Prop}{f:gf->gf->Sem gf}
 (hf:∀v u s2 x y H2,Inv X ge σ H2 s2->RelV x v->RelV y u->R x y H2->wpAny (model X.prog X.w) X.A (f v u) Q X.xe s2) :
 wpAny (model X.prog X.w) X.A (eval a X.env) (λv s₁=>wpAny (model X.prog X.w) X.A (eval b X.env) (λu s₂=>wpAny (model X.prog X.w) X.A (f v u) Q X.xe s₂) X.xe s₁) X.xe s:=by
 refine thn (ha ge s σ H _ I h) λv s1 z9=>?_;clear 5 z9 x H1 I1 r1 q1;refine thn (hb ge s1 σ H1 _ I1 q1) λu s2 z9=>?_;clear 5 z9 y H2 I2 r2 q2;exact hf v u s2 x y H2 I2 r1 r2 q2
theorem PY{op:Operator}(ho:OpR X (binaryOp op) r)(ha:PE X a ta)(hb:PE X b tb):PE X (.BinOp a op b pos) (tOp r ta tb):=by
 intro ge s σ H Q I h;exact wpAny_BinOp (SR ha hb I h λv u s2 x y H2 I2 rx ry q=>ho ge s2 σ H2 x y v u Q I2 rx ry q)
theorem aY{op:UnaryOp}{r:V->Hp->VK->Prop}(ho:UnR X (unaryOp op) r)(ha:PE X a ta):PE X (.UnaryOp op a pos) (tUn r ta):=by
 intro ge s σ H Q I h;exact UnaryOp_ (thn (ha ge s σ H _ I h) λv s1 z9=>by clear 5 z9 x H1 I1 r1 q1;exact ho ge s1 σ H1 x v Q I1 r1 q1)
theorem opI{C:Int->Int->Prop}{g:Int->Int->Int}
 (rule:∀(i j:Int) (t u:Tok) (s:gh) (Q:gf->gh->Prop) (E:gf->gh->Prop),C i j->Q (.int (g i j) s.toks) {s with toks:=s.toks+1}->wpAny (model X.prog X.w) X.A (f (.int i t) (.int j u)) Q E s) :
 OpR X f (rI C λi j=>.int (g i j)):=by
 intro ge s σ H x y v u Q I rx ry h;clear 5 h i j rfl rfl hc q;clear 5 rx t rfl;clear 5 ry t' rfl;exact rule i j t t' s _ _ hc ⟨.int (g i j),H,I.tok _,⟨_,rfl⟩,q⟩
theorem YZ{g:Int->Int->Int}
 (rule:∀(i j:Int) (t u:Tok) (s:gh) (Q:gf->gh->Prop) (E:gf->gh->Prop),Q (.int (g i j) s.toks) {s with toks:=s.toks+1}->wpAny (model X.prog X.w) X.A (f (.int i t) (.int j u)) Q E s) :
 OpR X f (rI0 λi j=>.int (g i j)):=by
 intro ge s σ H x y v u Q I rx ry h;clear 5 h i j rfl rfl q;clear 5 rx t rfl;clear 5 ry t' rfl;exact rule i j t t' s _ _ ⟨.int (g i j),H,I.tok _,⟨_,rfl⟩,q⟩
theorem PX{g:Int->Int->Bool}
 (rule:∀(i j:Int) (t u:Tok) (s:gh) (Q:gf->gh->Prop) (E:gf->gh->Prop),Q (.bool (g i j)) s->wpAny (model X.prog X.w) X.A (f (.int i t) (.int j u)) Q E s) :
 OpR X f (rI0 λi j=>.bl (g i j)):=by
 intro ge s σ H x y v u Q I rx ry h;clear 5 h i j rfl rfl q;clear 5 rx t rfl;clear 5 ry t' rfl;exact rule i j t t' s _ _ ⟨.bl (g i j),H,I,rfl,q⟩
def Xt(i j:Int):Prop:=0<j/\j<1073741824
def CMul(i j:Int):Prop:=(-(2 ^ 64)<i/\i<2 ^ 64)\/(-(2 ^ 64)<j/\j<2 ^ 64)
theorem CMul.ok{i j:Int}(h:CMul i j):IntMulOk i j:=by
 rcases h with⟨h1,h2⟩|⟨h1,h2⟩
 .exact .of_left (intBits_le_64 h1 h2)
 .exact .of_right (intBits_le_64 h1 h2)
theorem two_pow_nn(k:Nat):(0:Int)<=2 ^ k:=by
 rw[two_pow_cast];exact Int.natCast_nonneg _
theorem op_add:OpR X (binaryOp .Add) (rI0 λi j=>.int (i+j)):=YZ λ_ _ _ _ _ _ _ q=>add_int q
theorem Zb:OpR X (binaryOp .Sub) (rI0 λi j=>.int (i-j)):=YZ λ_ _ _ _ _ _ _ q=>sub_int q
theorem Y9:OpR X (binaryOp .Mult) (rI CMul λi j=>.int (i*j)):=opI λ_ _ _ _ _ _ _ hc q=>mul_int q hc.ok
theorem Wb:OpR X (binaryOp .FloorDiv) (rI Xt λi j=>.int (i/j)):=opI λi j _ _ _ _ _ hc q=>by
 have h1:(0:Int)<j:=hc.1;have h2:j<1073741824:=hc.2;exact floordiv_int (by lia) (by rw[gn i (by lia)];exact q) (.inl (PyProof.noPylong_small (by lia)))
theorem Y8:OpR X (binaryOp .Mod) (rI (λ_ j=>0<j) λi j=>.int (i%j)):=opI λi j _ _ _ _ _ hc q=>by
 have h1:(0:Int)<j:=hc;exact mod_int' (by lia) (by rw[Int.fmod_eq_emod_of_nonneg i (by lia)];exact q)
theorem Za:OpR X (binaryOp .RShift) (rI (λ_ j=>0<=j) λi j=>.int (i/2 ^ j.toNat)):=opI λi j _ _ _ _ _ hc q=>
 rshift_int hc (by rw[gn i (two_pow_nn _)];exact q)
theorem unI{f:gf->Sem gf}{g:Int->Int}
 (rule:∀(i:Int) (t:Tok) (s:gh) (Q:gf->gh->Prop) (E:gf->gh->Prop),Q (.int (g i) s.toks) {s with toks:=s.toks+1}->wpAny (model X.prog X.w) X.A (f (.int i t)) Q E s) :
 UnR X f (rU λi=>.int (g i)):=by
 intro ge s σ H x v Q I rx h;clear 5 h i rfl q;clear 5 rx t rfl;exact rule i t s _ _ ⟨.int (g i),H,I.tok _,⟨_,rfl⟩,q⟩
theorem Z7:UnR X (unaryOp .USub) (rU λi=>.int (-i)):=unI λ_ _ _ _ _ q=>neg_int q
end
variable{op:CmpOp}{us:List gf}
section
variable{X:Cx}{a b c:Expr}{ta tb tc:TE}{pos:Pos}
theorem op_lt:OpR X (compareOp .Lt) (rI0 λi j=>.bl (decide (i<j))):=PX λ_ _ _ _ _ _ _ q=>lt_int q
theorem op_le:OpR X (compareOp .LtE) (rI0 λi j=>.bl (decide (i<=j))):=PX λ_ _ _ _ _ _ _ q=>le_int q
theorem op_gt:OpR X (compareOp .Gt) (rI0 λi j=>.bl (decide (j<i))):=PX λ_ _ _ _ _ _ _ q=>gt_int q
theorem op_ge:OpR X (compareOp .GtE) (rI0 λi j=>.bl (decide (j<=i))):=PX λ_ _ _ _ _ _ _ q=>ge_int q
theorem OpR.or{r':R2}(h:OpR X f r)(h':OpR X f r'):OpR X f (λx y H Q=>r x y H Q\/r' x y H Q):=by
 intro ge s σ H x y v u Q I rx ry q;rcases q with q|q
 .exact h ge s σ H x y v u Q I rx ry q
 .exact h' ge s σ H x y v u Q I rx ry q
theorem Et(b:Expr){op:CmpOp}(h:op≠.In:=by decide)(h2:op≠.NotIn:=by decide):behindInMarks op b=false:=by
 have e1:(op==CmpOp.In)=false:=by cases op<;>first|rfl|exact absurd rfl h
 have e2:(op==CmpOp.NotIn)=false:=by cases op<;>first|rfl|exact absurd rfl h2
 cases b<;>simp[behindInMarks,e1,e2]
theorem Wi(ho:OpR X (compareOp op) r)(ha:PE X a ta)(hb:PE X b tb)(hm:behindInMarks op b=false):PE X (.Compare a [op] [b] pos) (tOp r ta tb):=by
 intro ge s σ H Q I h;exact wpAny_Compare1 (SR ha hb I h λv u s2 x y H2 I2 rx ry q=>ho ge s2 σ H2 x y v u Q I2 rx ry q) hm
def bw(t:TE):TT:=λσ H Q=>t σ H λx H'=>∃k,x=.bl k/\Q k H'
theorem WA(ho:OpR X (compareOp op) r)(ha:PE X a ta)(hb:PE X b tb)(hm:behindInMarks op b=false):PT X (.Compare a [op] [b] pos) (bw (tOp r ta tb)):=by
 intro ge s σ H Q I h;refine wpAny_isTrue_Compare1 (thn (ha ge s σ H _ I h) λv s1 ⟨x,H1,I1,r1,q1⟩=>thn (hb ge s1 σ H1 _ I1 q1) λu s2 ⟨y,H2,I2,r2,q2⟩=>
  thn (ho ge s2 σ H2 x y v u _ I2 r1 r2 q2) λc s3 ⟨z,H3,I3,r3,k,e,q3⟩=>?_) hm
 subst e
 cases r3
 exact jd ⟨H3,I3,q3⟩
def Sw(r r':R2)(ta tb tc:TE):TE:=λσ H Q=>ta σ H λx H1=>tb σ H1 λy H2=>r x y H2 λz H3=>∃k,z=.bl k/\
 (if k=true then tc σ H3 λw' H4=>r' y w' H4 Q else Q (.bl false) H3)
theorem T2{op':CmpOp}{r':R2}(ho:OpR X (compareOp op) r)(ho':OpR X (compareOp op') r')(ha:PE X a ta)(hb:PE X b tb)(hc:PE X c tc)
 (hm:lastMarks [op,op'] [b,c]=false:=by with_unfolding_all rfl):PE X (.Compare a [op,op'] [b,c] pos) (Sw r r' ta tb tc):=by
 intro ge s σ H Q I h;refine Compare_chain (thn (ha ge s σ H _ I h) λv s1 ⟨x,H1,I1,r1,q1⟩=>chain_link (thn (hb ge s1 σ H1 _ I1 q1) λu s2 ⟨y,H2,I2,r2,q2⟩=>
  thn (ho ge s2 σ H2 x y v u _ I2 r1 r2 q2) λd s3 ⟨z,H3,I3,r3,k,e,q3⟩=>?_)) hm
 subst e
 cases r3
 refine jd ?_
 cases k with
 |false=>exact ite_ff ⟨.bl false,H3,I3,rfl,q3⟩
 |true=>exact ite_tt (chain_last (thn (hc ge s3 σ H3 _ I3 q3) λw' s4 z9=>by clear 5 z9 z' H4 I4 r4 q4;exact ho' ge s4 σ H4 y z' u w' Q I4 r2 r4 q4))
theorem KA:(sizeLine:Nat)<2 ^ 63:=by rw[kj];decide
theorem op_add_str:OpR X (binaryOp .Add) (λx y H Q=>∃i j,x=.str i/\y=.str j/\i.length+j.length<=sizeLine/\Q (.str (i++j)) H):=by
 intro ge s σ H x y v u Q I rx ry h;clear 5 h i j rfl rfl hz q;clear 5 rx t rfl;clear 5 ry t' rfl;exact add_str (λt' tk=>⟨.str (i++j),H,I.tok _,⟨_,rfl⟩,q⟩) hz
theorem Jt{x:V}(r:Vals [x] us):∃u,us=[u]/\RelV x u:=by
 cases r with
 |cons r1 r2=>cases r2;exact⟨_,rfl,r1⟩
theorem Qi{x y:V}(r:Vals [x,y] us):∃u w',us=[u,w']/\RelV x u/\RelV y w':=by
 cases r with
 |cons r1 r2=>
   cases r2 with
   |cons r3 r4=>cases r4;exact⟨_,_,rfl,r1,r3⟩
theorem QG(hc:X.calm=true):C9 X (.builtin "max") (λxs H Q=>∃i j,xs=[.int i,.int j]/\Q (.int (if j > i then j else i)) H):=by
 intro ge s σ H xs us Q I r h;clear 5 h i j rfl q;obtain⟨u,w',rfl,⟨t,rfl⟩,⟨t',rfl⟩⟩:=Qi r;refine max_two_ints (I.ok.hd hc) λh' tk k=>⟨_,H,I.kept k,?_,q⟩
 by_cases hj:j > i
 .rw[kQ hj,kQ hj];exact⟨_,rfl⟩
 .rw[kS hj,kS hj];exact⟨_,rfl⟩
theorem QH(hc:X.calm=true):C9 X (.builtin "min") (λxs H Q=>∃i j,xs=[.int i,.int j]/\Q (.int (if j<i then j else i)) H):=by
 intro ge s σ H xs us Q I r h;clear 5 h i j rfl q;obtain⟨u,w',rfl,⟨t,rfl⟩,⟨t',rfl⟩⟩:=Qi r;refine min_two_ints (I.ok.hd hc) λh' tk k=>⟨_,H,I.kept k,?_,q⟩
 by_cases hj:j<i
 .rw[kQ hj,kQ hj];exact⟨_,rfl⟩
 .rw[kS hj,kS hj];exact⟨_,rfl⟩
theorem QF:C9 X (.type "int") (λxs H Q=>(∃i,xs=[.int i]/\Q (.int i) H)\/∃k,xs=[.bl k]/\Q (.int (if k then 1 else 0)) H):=by
 intro ge s σ H xs us Q I r h;rcases h with⟨i,rfl,q⟩|⟨k,rfl,q⟩
 .clear 5(Jt r)u rfl t rfl;exact call_int_int ⟨.int i,H,I,⟨_,rfl⟩,q⟩
 .obtain⟨u,rfl,r1⟩:=Jt r
  cases r1
  exact call_int_bool ⟨.int (if k then 1 else 0),H,I.tok _,⟨_,rfl⟩,q⟩
theorem SW:C9 X (.builtin "ord") (λxs H Q=>∃x,xs=[.str x]/\x.length=1/\Q (.int (x.cps.getD 0 0:Nat)) H):=by
 intro ge s σ H xs us Q I r h;clear 5 h x rfl hz q;clear 5(Jt r)u rfl t rfl;exact ord_of_one hz ⟨.int _,H,I.tok _,⟨_,rfl⟩,q⟩
def Xv(K:gd)(x:V)(H:Hp)(n:Nat):Prop:=
 match x with
 |.str y=>y.length<=sizeLine/\n=y.length
 |.byt y=>y.size<=sizeLine/\n=y.size
 |.ref p=>(∃xs,SqL K H p xs/\n=xs.length)\/∃xs,SqT K H p xs/\n=xs.length
 |_=>False
theorem SV:C9 X (.builtin "len") (λxs H Q=>∃x n,xs=[x]/\Xv X.K x H n/\Q (.int n) H):=by
 intro ge s σ H xs us Q I r h;clear 5 h x n rfl e q;clear 5(Jt r)u rfl rx;have hl:=KA;have hs:sizeLine=16777216:=kj
 cases x with
 |str y=>
   clear 5 rx t rfl;obtain⟨hy,e'⟩:y.length<=sizeLine/\n=y.length:=e;subst e';exact len_str (by lia) ⟨.int _,H,I.tok _,⟨_,rfl⟩,q⟩
 |byt y=>
   clear 5 rx t rfl;obtain⟨hy,e'⟩:y.size<=sizeLine/\n=y.size:=e;subst e';exact PySem.W.len_bytes (by lia) ⟨.int _,H,I.tok _,⟨_,rfl⟩,q⟩
 |ref p=>
   cases rx
   have e':(∃xs,SqL X.K H p xs/\n=xs.length)\/∃xs,SqT X.K H p xs/\n=xs.length:=e;rcases e' with⟨xs,hx,e'⟩|⟨xs,hx,e'⟩
   .subst e';clear 5(I.list hx)its r' pl hz;have hlen:=r'.length;exact Calls.call_len_list pl.isList (by simp only[uf5];lia) ⟨.int xs.length,H,I.tok _,⟨_,by simp only[uf5];rw[hlen]⟩,q⟩
   .subst e';clear 5(I.tuple hx)its r' pl hz;have hlen:=r'.length;exact len_tuple pl (by simp only[uf5];lia) ⟨.int xs.length,H,I.tok _,⟨_,by simp only[uf5];rw[hlen]⟩,q⟩
 |_=>exact(show False from e).elim
end
structure ObjM(h:Heap)(x dx C:gg)(mA:Str->Option gf):Prop where
 obj:h.get? x=some (PySem.W.instObj C dx)
 ns:h.Ns1 dx mA
 ne:dx≠x
theorem Ru{dx:gg}{mA:Str->Option gf}(n:h.Ns1 dx mA):∃od,h.get? dx=some od/\∀name,PySem.W.lookIn name od=some (mA name):=by
 obtain⟨o,es,ep,ho,hd,hk,_,hm⟩:=n;refine⟨o,ho,λname=>?_⟩;have e:=hm name;unfold nsFind findBy at e;rw[<-Array.find?_toList] at e;unfold PySem.W.lookIn;rw[hd];dsimp only
 split
 .rename_i y q;rw[q] at e;exact kr some e
 .rename_i q;rw[q] at e;have a:es.toList.any (·.refKey)=false:=by
   rw[List.any_eq_false];intro y hy;clear 5(hk y (Array.mem_toList_iff.mp hy))z t hkey;simp[DictEntry.refKey,hkey]
  have a':¬es.toList.any (·.refKey)=true:=by rw[a];exact ue6
  rw[kS a'];exact kr some e
variable{C:gg}
theorem ObjM.look{x dx:gg}{mA:Str->Option gf}(I:ObjM h x dx C mA):∃od,PySem.W.InstAt h x (PySem.W.instObj C dx) C (some od)/\∀name,PySem.W.lookIn name od=some (mA name):=
 let ⟨od,ho,hl⟩:=Ru I.ns
 ⟨od,⟨I.obj,rfl,rfl,ho⟩,hl⟩
variable{pl:Sem Bool}{kw:List (Str×gf)}
section
variable{prog:gi}{w:gj}{A:Around}{E:gf->gh->Prop}{s:gh}{K:gd}{x dx C f:gg}{mA:Str->Option gf}{name:Str}{v:gf}
theorem VO{expr:Bool}{Q:gf->gh->Prop}(X:K.In s.heap)(I:ObjM s.heap x dx C mA)(hg:PySem.W.plainGet K C name=true)(hh:PySem.W.hasDictIn K C=true)
 (ha:PySem.W.findIn K (.ref C) name=some none) (hv:mA name=some v) (hv':PySem.W.handedIn v=true) (h:Q v {s with toks:=s.toks+1}) :
 wpAny (model prog w) A (getAttr (.ref x) name expr) Q E s:=by
 clear 5 I.look od J hl;exact PySem.W.get_value X J (ue0 hg).1 (PySem.W.findObj_own hh ha rfl (by rw[hl,hv])) hv' h
theorem Tv{Q:gf×List gf->gh->Prop}(X:K.In s.heap)(I:ObjM s.heap x dx C mA)(hg:PySem.W.plainGet K C name=true)
 (hf:PySem.W.findIn K (.ref C) name=some (some (.ref f))) (ht:PySem.W.isFn K (.ref f)=true) (hv:mA name=none) (h:Q (.ref f,[.ref x]) s) :
 wpAny (model prog w) A (getMethod (.ref x) name pl) Q E s:=by
 clear 5 I.look od J hl;exact PySem.W.method_fn X J (ue0 hg).1 (ue0 hg).2 hf (kl.mp ht) (by show(PySem.W.lookIn name od).map (·.isSome)=some false;rw[hl,hv];rfl) h
theorem W9{ns:List Str}(X:K.In s.heap)(I:ObjM s.heap x dx C mA)
 (hs:PySem.W.findIn K (.ref C) "__setattr__" = some (some (.builtin "object.__setattr__"))) (hp:PySem.W.plainOver K C=true) (ht:PySem.W.takerIn K C name=some none) (hh:PySem.W.hasDictIn K C=true)
 (hw:PySem.Within mA ns) (hsz:ns.length<=sizeLine)
 (h:∀h',ObjM h' x dx C (λy=>if y=name then some v else mA y)->Heap.SameBut dx s.heap h'->Q () {s with heap:=h',toks:=s.toks+2}) :
 wpAny (model prog w) A (setAttr (.ref x) name v) Q E s:=by
 clear 5 I.look od J hl;refine PySem.W.set_plain X J hs (PySem.W.osa_open (s:={s with toks:=s.toks+1}) (r:=none) X J hp ht λb=>?_);clear 5(PySem.W.any_some hh)cd hc hd';have hx:s.heap.get? x=some ⟨.ref C,some dx,.plain,#[]⟩:=I.obj;refine un2 (un3 (un2 (un2 (wpAny_loadPart hx (un2 (PySem.W.Looks.here (s:={s with toks:=s.toks+1}) (PySem.W.looks_clsIn X hc) ?_))))));rw[hd'];refine un3 (a:=some dx) (un2 (un3 (un2 ?_)));refine wpAny_nsSet1 (s:={s with toks:=s.toks+1}) I.ns λh' hn2 hs2=>?_;clear 5(hn2.count (PySem.Within.cons name v hw))oD esD epD hoD hdD hcD;refine un2 (wpAny_lookBehind hoD (by rw[hdD];exact pastItsLine_dict (ul9 hcD (by rw[ug6];lia))) ?_);exact un3 (h _ ⟨(hs2.2 _ (Ne.symm I.ne)).trans I.obj,hn2,I.ne⟩ hs2)
theorem TQ{R:Result->gh->Prop}{vs:List gf}(X:K.In s.heap)(hm:PySem.W.makesIn K C=true)
 (hi:PySem.W.findIn K (.ref C) "__init__" = some (some (.ref f))) (hf:PySem.W.typeIn K (.ref f)=some (.type "function"))
 (h:codeAny (model prog w) (A.under (.builtin "type.__call__" ⟨.ref C :: vs,kw⟩)) (.call (.ref f) ⟨.ref (s.heap.objs.size + 1) :: vs,kw⟩) (PySem.W.InitBack (s.heap.objs.size + 1) R)
   {s with heap:=(s.heap.push PySem.W.emptyDict).push (PySem.W.instObj C s.heap.objs.size)}) :
 codeAny (model prog w) A (.call (.ref C) ⟨vs,kw⟩) R s:=by
 clear 5 s hh g d t os;exact PySem.W.make_core (PySem.W.makes_of X hm) (PySem.W.looks_findIn X hi) (λself=>PySem.W.bind_fn X self hf) (.inl rfl) h
end
noncomputable def DB(f:Str)(v:V):List (Str×V)->List (Str×V)
 |[]=>[(f,v)]
 |(g,x)::r=>if g=f then(g,v)::r else(g,x)::DB f v r
theorem JC(f g:Str)(v:V):∀fs:List (Str×V),(DB f v fs).lookup g=if g=f then some v else fs.lookup g
 |[]=>by
   show List.lookup g [(f,v)]=_
   by_cases h:g=f
   .have hb:(g==f)=true:=kl.mpr h;simp only[List.lookup,hb,kQ h]
   .have hb:(g==f)=false:=ir.mpr h;simp only[List.lookup,hb,kS h]
 |(k,x)::r=>by
   have ih:=JC f g v r;rw[show DB f v ((k,x)::r)=(if k=f then(k,v)::r else(k,x)::DB f v r) from rfl]
   by_cases hk:k=f
   .rw[kQ hk]
    by_cases h:g=k
    .have hb:(g==k)=true:=kl.mpr h;simp only[List.lookup,hb,kQ (h.trans hk)]
    .have hb:(g==k)=false:=ir.mpr h;simp only[List.lookup,hb,kS (λe:g=f=>h (e.trans hk.symm))]
   .rw[kS hk]
    by_cases h:g=k
    .have hb:(g==k)=true:=kl.mpr h;simp only[List.lookup,hb,kS (λe:g=f=>hk (h.symm.trans e))]
    .have hb:(g==k)=false:=ir.mpr h;simp only[List.lookup,hb];exact ih
theorem Iy(f:Str)(v:V):∀fs:List (Str×V),f∈(DB f v fs).map (·.1)/\∀g,g∈fs.map (·.1)->g∈(DB f v fs).map (·.1)
 |[]=>⟨by simp[DB],λg h=>by simp at h⟩
 |(k,x)::r=>by
   clear 5(Iy f v r)i1 i2;rw[show DB f v ((k,x)::r)=(if k=f then(k,v)::r else(k,x)::DB f v r) from rfl]
   by_cases hk:k=f
   .rw[kQ hk];subst hk;exact⟨by simp,λg h=>by simpa using h⟩
   .rw[kS hk];refine⟨?_,λg h=>?_⟩
    .rw[uk6];exact ud4 _ i1
    .rw[uk6] at h⊢;rcases uk5.mp h with e|e
     .exact uk5.mpr (.inl e)
     .exact ud4 _ (i2 g e)
theorem Jz(f:Str)(v:V):∀fs:List (Str×V),(DB f v fs).length<=fs.length+1
 |[]=>by simp[DB]
 |(k,x)::r=>by
   have ih:=Jz f v r;rw[show DB f v ((k,x)::r)=(if k=f then(k,v)::r else(k,x)::DB f v r) from rfl]
   by_cases hk:k=f
   .rw[kQ hk,ug6,ug6];lia
   .rw[kS hk,ug6,ug6];lia
theorem RelO.some_of{o:Option gf}(r:RelO (some v) o):∃u,o=some u/\RelV v u:=by
 cases o with
 |none=>exact(show False from r).elim
 |some u=>exact⟨u,rfl,r⟩
theorem RelO.none_of{o:Option gf}(r:RelO none o):o=none:=by
 cases o with
 |none=>rfl
 |some u=>exact(show False from r).elim
theorem Q7(r:RelV v u):PySem.W.handedIn u=true:=by
 cases v with
 |non=>cases (show u=Value.none from r);rfl
 |bl b=>cases (show u=Value.bool b from r);rfl
 |int i=>clear 5((show ∃t,u=Value.int i t from r))t e;cases e;rfl
 |str x=>clear 5((show ∃t,u=Value.str x t from r))t e;cases e;rfl
 |byt b=>clear 5((show ∃t,u=Value.bytes b t from r))t e;cases e;rfl
 |flt b=>clear 5((show ∃t,u=Value.float b t from r))t e;cases e;rfl
 |ref a=>cases (show u=Value.ref a from r);rfl
 |ty n=>cases (show u=Value.type n from r);rfl
section
variable{P:gi}{w:gj}{H H':Hp}{h h':Heap}{a C dx:gg}{fs fs':List (Str×V)}
theorem Jh(hok:HOk P w H h)(e:H a=some (.ins C dx fs)):∃mA,ObjM h a dx C mA/\(∀f,RelO (fs.lookup f) (mA f))/\PySem.Within mA (fs.map (·.1))/\fs.length<=1000/\H dx=some (.own a):=by
 clear 5((show ObjOk P w H h a (.ins C dx fs) from hok a _ e))d z ne ob mA n r q;exact⟨mA,⟨ob,n,ne⟩,r,q,z,d⟩
end
structure Cls(K:gd)(C:gg):Prop where
 pg:PySem.W.plainGet K C Str.empty=true
 hd:PySem.W.hasDictIn K C=true
 po:PySem.W.plainOver K C=true
 sa:PySem.W.findIn K (.ref C) "__setattr__" = some (some (.builtin "object.__setattr__"))
theorem Cls.get{K:gd}{C:gg}(c:Cls K C)(f:Str):PySem.W.plainGet K C f=true:=c.pg
def NoAttr(K:gd)(C:gg)(f:Str):Prop:=PySem.W.findIn K (.ref C) f=some none
theorem NoAttr.taker{f:Str}(n:NoAttr K C f):PySem.W.takerIn K C f=some none:=by
 unfold PySem.W.takerIn;rw[show PySem.W.findIn K (.ref C) f=some none from n];rfl
structure Con(K:gd)(C:gg)(f:Str)(v:V)(u:gf):Prop where
 at_:PySem.W.findIn K (.ref C) f=some (some u)
 rel:RelV v u
 get:PySem.W.specialIn K u "__get__" = some none
 cp:PySem.W.copiedNames.contains f=false
structure Meth(K:gd)(C:gg)(m:Str)(f:gg):Prop where
 at_:PySem.W.findIn K (.ref C) m=some (some (.ref f))
 fn:PySem.W.isFn K (.ref f)=true
 kp:PySem.W.keepIn K (.ref f)=true
section
variable{X:Cx}{ge:List (gg×Obj)}{σ:St}{H:Hp}{s:gh}{a C dx:gg}{fs:List (Str×V)}{f:Str}{v:V}{A:Around}{E:gf->gh->Prop}
theorem PD{b:Bool}{Q:gf->gh->Prop}(I:Inv X ge σ H s)(e:H a=some (.ins C dx fs))(c:Cls X.K C)(n:NoAttr X.K C f)(l:fs.lookup f=some v)
 (h:∀u s',Inv X ge σ H s'->RelV v u->Q u s'):wpAny (model X.prog X.w) A (getAttr (.ref a) f b) Q E s:=by
 obtain⟨mA,O,r,_,_,_⟩:=Jh I.hok e;clear 5(RelO.some_of (v:=v) (o:=mA f) (by rw[<-l];exact r f))u hu ru;exact VO I.kIn O (c.get f) c.hd n hu (Q7 ru) (h u _ (I.tok _) ru)
theorem Kw{m:Str}{g:gg}{Q:gf×List gf->gh->Prop}(I:Inv X ge σ H s)(e:H a=some (.ins C dx fs))(c:Cls X.K C)(k:Meth X.K C m g)(l:fs.lookup m=none)
 (h:Q (.ref g,[.ref a]) s):wpAny (model X.prog X.w) A (getMethod (.ref a) m pl) Q E s:=by
 obtain⟨mA,O,r,_,_,_⟩:=Jh I.hok e;have hn:mA m=none:=RelO.none_of (by rw[<-l];exact r m);exact Tv I.kIn O (c.get m) k.at_ k.fn hn h
theorem Qc{y:V}(I:Inv X ge σ H s)(e:H a=some (.ins C dx fs))(c:Cls X.K C)(n:NoAttr X.K C f)(hl:fs.length<1000)(ry:RelV y u)
 (h:∀s',Inv X ge σ (upd H a (.ins C dx (DB f y fs))) s'->Q () s'):wpAny (model X.prog X.w) A (setAttr (.ref a) f u) Q E s:=by
 obtain⟨mA,O,r,wi,_,ho⟩:=Jh I.hok e;have hz:(fs.map (·.1)).length<=sizeLine:=by rw[ui3,kj];lia
 refine W9 I.kIn O c.sa c.po n.taker c.hd wi hz λh' O' sb=>h _ ?_;have hd:∃o,h'.get? dx=some o:=let ⟨o,_,_,e',_⟩:=O'.ns;⟨o,e'⟩;refine I.write (x:=a) (e:=dx) (by rw[e];exact True.intro) (.inr ho) (λb q hb z=>(sb.2 b hb).trans z) hd ?_;refine⟨by rw[Az O.ne];exact ho,?_,O.ne,O'.obj,_,O'.ns,λg=>?_,λg hg=>?_⟩
 .have:=Jz f y fs;lia
 .show RelO ((DB f y fs).lookup g) (if g=f then some u else mA g);rw[JC]
  by_cases q:g=f
  .rw[kQ q,kQ q];exact ry
  .rw[kS q,kS q];exact r g
 .by_cases q:g=f
  .rw[q];exact(Iy f y fs).1
  .refine(Iy f y fs).2 g (wi g λz=>hg ?_);show(if g=f then some u else mA g)=none;rw[kS q];exact z
theorem Inv.made(I:Inv X ge σ H s):Inv X ge σ (upd (upd H s.heap.objs.size (.own (s.heap.objs.size+1))) (s.heap.objs.size+1) (.ins C s.heap.objs.size []))
 {s with heap:=(s.heap.push PySem.W.emptyDict).push (PySem.W.instObj C s.heap.objs.size)}:=by
 have e1:(s.heap.push PySem.W.emptyDict).get? s.heap.objs.size=some PySem.W.emptyDict:=ud9 s.heap rfl;have e2:((s.heap.push PySem.W.emptyDict).push (PySem.W.instObj C s.heap.objs.size)).get? (s.heap.objs.size+1)=some (PySem.W.instObj C s.heap.objs.size):=by
  have:=ud9 (s.heap.push PySem.W.emptyDict) (o:=PySem.W.instObj C s.heap.objs.size) rfl
  rwa [jl] at this
 have e3:(s.heap.push PySem.W.emptyDict).Ns s.heap.objs.size (λ_=>none):=⟨PySem.W.emptyDict,#[],_,e1,rfl,(λe he=>absurd he (by simp)),λ_=>rfl⟩;have I1:=I.laid (a:=s.heap.objs.size) (o:=.own (s.heap.objs.size+1)) (h':=s.heap.push PySem.W.emptyDict) (t':=s.toks) (λb u q=>ub9 _ q) (um8 _) ⟨_,e1⟩;refine I1.laid (a:=s.heap.objs.size+1) (o:=.ins C s.heap.objs.size []) (t':=s.toks) (λb u q=>ub9 _ q) (kc (jl _ _)) ?_;have ne:s.heap.objs.size≠s.heap.objs.size+1:=ul8 (ug7 _);refine⟨by rw[Az ne,Bf],um9 _,ne,e2,λ_=>none,(Heap.Ns1.of_empty e3).at λo q=>ub9 _ q,λ_=>True.intro,λy hy=>absurd rfl hy⟩
theorem Vi{prog:gi}{env:Env}{f:Str}{pos:Pos}{s:gh}{Q:gf->gh->Prop}(hb:attributeBase e f env (eval e env)=eval e env)
 (h:wpAny (model prog w) A (eval e env) (λo s₁=>wpAny (model prog w) A (getAttr o f true) Q E s₁) E s):wpAny (model prog w) A (eval (.Attribute e f pos) env) Q E s:=
 Attribute_any_ h (by rw[arm_eval_Attribute,hb])
end
def dk(K:gd)(ta:TE)(f:Str):TE:=λσ H Q=>ta σ H λx H1=>∃a C dx fs v,x=.ref a/\H1 a=some (.ins C dx fs)/\Cls K C/\NoAttr K C f/\fs.lookup f=some v/\Q v H1
def dh(K:gd)(ta tv:TE)(f:Str):TS:=λD σ H=>tv σ H λy H1=>ta σ H1 λx H2=>∃a C dx fs,x=.ref a/\H2 a=some (.ins C dx fs)/\Cls K C/\NoAttr K C f/\fs.length<1000/\
 D.nx σ (upd H2 a (.ins C dx (DB f y fs)))
section
variable{X:Cx}{o e value:Expr}{f:Str}{pos pos' tpos:Pos}{ta tv:TE}
theorem Zf(he:PE X e ta)(hb:attributeBase e f X.env (eval e X.env)=eval e X.env):PE X (.Attribute e f pos) (dk X.K ta f):=by
 intro ge s σ H Q I h;refine Vi hb (thn (he ge s σ H _ I h) λu s1 z9=>?_);clear 5 z9 x H1 I1 rx a C dx fs v ex ea c n l q;subst ex;obtain rfl:u=Value.ref a:=rx;exact PD I1 ea c n l λu' s2 I2 ru=>⟨v,H1,I2,ru,q⟩
theorem Zr(ha:PE X o ta)(hv:PE X value tv)(hs:swapsWith value (some (.Attribute o f pos')) pos.line X.env=pure false):PS X (.Assign [.Attribute o f pos'] value pos) (dh X.K ta tv f):=by
 intro ge s σ H D I h;refine plainObj_wpAny_Assign_Attribute (thn (hv ge s σ H _ I h) λu s1 ⟨y,H1,I1,ry,q⟩=>thn (ha ge s1 σ H1 _ I1 q) λov s2 z9=>?_) hs;clear 5 z9 x H2 I2 rx a C dx fs ex ea c n l q2;subst ex;obtain rfl:ov=Value.ref a:=rx;exact Qc I2 ea c n l ry λs3 I3=>⟨σ,_,I3,q2⟩
end
section
variable{X:Cx}{ge:List (gg×Obj)}{σ:St}{H:Hp}{s:gh}{A:Around}{E:gf->gh->Prop}{Q:gf->gh->Prop}{c:gf}{b:Bool}
inductive TyOf(K:gd)(H:Hp):V->gf->Prop where
 |non:TyOf K H .non (.type "NoneType")
 |bl (x:Bool):TyOf K H (.bl x) (.type "bool")
 |int (i:Int):TyOf K H (.int i) (.type "int")
 |str (x:Str):TyOf K H (.str x) (.type "str")
 |flt (x:UInt64):TyOf K H (.flt x) (.type "float")
 |lst {a:gg}{xs:List V} (e:H a=some (.lst xs)):TyOf K H (.ref a) (.type "list")
 |frz {a:gg}{o:Obj}{xs:List V} (e:H a=some (.frz o (.lst xs))):TyOf K H (.ref a) (.type "list")
 |tup {a:gg}{xs:List V} (e:H a=some (.tup xs)):TyOf K H (.ref a) (.type "tuple")
 |dK {a:gg}{kvs:List (Key×V)} (e:H a=some (.dK kvs)):TyOf K H (.ref a) (.type "dict")
 |dT {a:gg}{kvs:List (List Key×V)} (e:H a=some (.dT kvs)):TyOf K H (.ref a) (.type "dict")
 | ins {a C dx:gg} {fs:List (Str×V)} (e:H a=some (.ins C dx fs)) (cl:Cls K C) (ha:PySem.W.findIn K (.ref C) "__class__" = some (some (.builtin "object.__class__")))
    (hn:PySem.W.specialIn K (.builtin "object.__class__") "__get__" = some (some (.builtin "getset_descriptor.__get__"))) (htk:PySem.W.takesIn K (.builtin "object.__class__")=some true)
    (hm:PySem.W.mroIn K C (.type "object")=some true):TyOf K H (.ref a) (.ref C)
theorem Rl{x:V}{t:gf}(I:Inv X ge σ H s)(rx:RelV x u)(ty:TyOf X.K H x t)(e:PySem.W.kitOne X.K t c=some b)(h:∀tk,Q (.bool b) {s with toks:=tk}) :
 wpAny (model X.prog X.w) A (call (.builtin "isinstance") [u,c]) Q E s:=by
 cases ty with
 |non=>cases (show u=Value.none from rx);exact ui4 PySem.W.kitx_none I.kIn True.intro e (λz=>nomatch z) h
 |bl y=>cases (show u=Value.bool y from rx);exact ui4 PySem.W.kitx_bool I.kIn True.intro e (λz=>nomatch z) h
 |int i=>clear 5((show ∃t,u=Value.int i t from rx))t q;cases q;exact ui4 PySem.W.kitx_int I.kIn True.intro e (λz=>nomatch z) h
 |str y=>clear 5((show ∃t,u=Value.str y t from rx))t q;cases q;exact ui4 PySem.W.kitx_str I.kIn True.intro e (λz=>nomatch z) h
 |flt y=>clear 5((show ∃t,u=Value.float y t from rx))t q;cases q;exact ui4 PySem.W.kitx_float I.kIn True.intro e (λz=>nomatch z) h
 |@lst a xs ea=>
   cases (show u=Value.ref a from rx)
   obtain⟨_,_,n,_,h1⟩:=(show ObjOk X.prog X.w H s.heap a (.lst xs) from I.hok a _ ea);exact ui4 PySem.W.kitx_list I.kIn ⟨_,h1,rfl⟩ e (λz=>nomatch z) h
 |@frz a ob xs ea=>
   cases (show u=Value.ref a from rx)
   obtain⟨_,_,_,n,_,h1⟩:=(show ObjOk X.prog X.w H s.heap a (.frz ob (.lst xs)) from I.hok a _ ea);exact ui4 PySem.W.kitx_list I.kIn ⟨_,h1,rfl⟩ e (λz=>nomatch z) h
 |@tup a xs ea=>
   cases (show u=Value.ref a from rx)
   obtain⟨_,_,_,p⟩:=(show ObjOk X.prog X.w H s.heap a (.tup xs) from I.hok a _ ea);obtain⟨o,h1,h2,_⟩:=p;exact ui4 PySem.W.kitx_tuple I.kIn ⟨o,h1,h2⟩ e (λz=>nomatch z) h
 |@dK a kvs ea=>
   cases (show u=Value.ref a from rx)
   obtain⟨_,_,vs,_,p⟩:=(show ObjOk X.prog X.w H s.heap a (.dK kvs) from I.hok a _ ea);obtain⟨o,es,ep,h1,h2,_⟩:=p;exact ui4 PySem.W.kitx_dict I.kIn ⟨o,h1,h2.1⟩ e (λz=>nomatch z) h
 |@dT a kvs ea=>
   cases (show u=Value.ref a from rx)
   obtain⟨_,_,xs,_,o,es,ep,h1,h2,_⟩:=(show ObjOk X.prog X.w H s.heap a (.dT kvs) from I.hok a _ ea);exact ui4 PySem.W.kitx_dict I.kIn ⟨o,h1,h2.1⟩ e (λz=>nomatch z) h
 |@ins a C dx fs ea cl ha hn htk hm=>
   cases (show u=Value.ref a from rx)
   obtain⟨mA,O,_⟩:=Jh I.hok ea;obtain⟨od,J,_⟩:=O.look;exact ui4 (PySem.W.kitx_own (cl.get _) cl.hd ha hn htk hm) I.kIn J e (λz=>nomatch z) h
end
structure Room(k:Nat)(A:Around):Prop where
 hd:A.handled=none
 dp:A.depth+3*k+5<recursionLimit
 un:A.units+16*k+200<cLine
theorem Room.mono{j k:Nat}{A:Around}(r:Room k A)(h:j<=k):Room j A:=⟨r.hd,by have:=r.dp;lia,by have:=r.un;lia⟩
theorem Room.deeper{k:Nat}{A:Around}(r:Room (k+1) A)(env:Env):Room k (A.deeper env):=
 ⟨r.hd,by have:=r.dp;show A.depth+1+3*k+5<_;lia,by have:=r.un;show A.units+3+16*k+200<_;lia⟩
theorem PN{A:Around}:(A.under (.builtin "type.__call__" ⟨.ref C::us,kw⟩)).depth=A.depth+1:=by
 first|rfl|simp[Around.under,Code.weight,Code.isCreation,Code.isGuard,Code.isCaller,Code.frames,Code.isFrame,guardIds]
theorem PP{A:Around}:(A.under (.builtin "type.__call__" ⟨.ref C::us,kw⟩)).units=A.units+1:=by
 first|rfl|simp[Around.under,Code.cUnits,Code.frames,Code.isFrame]
theorem Room.make{k:Nat}{A:Around}(r:Room (k+1) A)(C:gg)(us:List gf)(kw:List (Str×gf)):Room k (A.under (.builtin "type.__call__" ⟨.ref C::us,kw⟩)):=
 ⟨r.hd,by have:=r.dp;rw[PN];lia,by have:=r.un;rw[PP];lia⟩
theorem Room.depth{k:Nat}{A:Around}(r:Room k A):A.depth<recursionLimit:=by have:=r.dp;lia
theorem Room.units{k:Nat}{A:Around}(r:Room k A):A.units+64<cLine:=by have:=r.un;lia
def Z4:TA:=λ_ H Q=>Q [] H
def bn(ta:TE)(tr:TA):TA:=λσ H Q=>ta σ H λx H1=>tr σ H1 λxs H2=>Q (x::xs) H2
section
variable{X:Cx}{e:Expr}{es:List Expr}{te:TE}{t:TA}{pos:Pos}
theorem Zd:PA X [] Z4:=λ_ _ _ _ H Q I h=>Calls.spliced_nil ⟨[],H,I,.nil,h⟩
theorem We(ha:PE X e te)(hr:PA X es t)(hs:starEach (e::es) X.env=(false,eval e X.env)::starEach es X.env:=by rfl):PA X (e::es) (bn te t):=by
 intro pos ge s σ H Q I h;rw[hs];show wpAny _ _ (spliced ((false,eval e X.env)::backTo pos (starEach es X.env))) _ _ s;refine Calls.spliced_cons (thn (ha ge s σ H _ I h) λu s1 z9=>?_);clear 5 z9 x H1 I1 r1 q1;exact thn (hr pos ge s1 σ H1 _ I1 q1) λus s2 ⟨xs,H2,I2,r2,q2⟩=>⟨x::xs,H2,I2,.cons r1 r2,q2⟩
def dG(t:TA):TE:=λσ H Q=>t σ H λxs H1=>xs.length<=sizeLine/\∀p,H1 p=none->Q (.ref p) (upd H1 p (.tup xs))
def dB(t:TA):TE:=λσ H Q=>t σ H λxs H1=>xs.length<=sizeLine/\∀p,H1 p=none->Q (.ref p) (upd H1 p (.lst xs))
theorem Zl{x1}(h:PA X es t):PE X (.Tuple es x1 pos) (dG t):=by
 intro ge s σ H Q I hq;refine wpAny_Tuple_spliced (thn (h pos ge s σ H _ I hq) λus s1 z9=>?_);clear 5 z9 xs H1 I1 r z q;refine⟨by rw[<-r.length];exact z,?_⟩;have hf:H1 s1.heap.objs.size=none:=I1.hok.fresh (um8 _);refine⟨.ref s1.heap.objs.size,upd H1 s1.heap.objs.size (.tup xs),I1.laid (t':=s1.toks) (λb u e=>ub9 _ e) (um8 _) ?_,rfl,q _ hf⟩;exact⟨z,us,r,⟨_,ud9 _ rfl,rfl,_,rfl⟩⟩
theorem Zh(h:PA X es t):PE X (.List es pos) (dB t):=by
 intro ge s σ H Q I hq;refine wpAny_List_spliced (thn (h pos ge s σ H _ I hq) λus s1 z9=>?_);clear 5 z9 xs H1 I1 r z q;refine⟨by rw[<-r.length];exact z,?_⟩;have hf:H1 s1.heap.objs.size=none:=I1.hok.fresh (um8 _);refine⟨.ref s1.heap.objs.size,upd H1 s1.heap.objs.size (.lst xs),I1.laid (t':=s1.toks) (λb u e=>ub9 _ e) (um8 _) ?_,rfl,q _ hf⟩;exact⟨z,us,0,r,ud9 _ rfl⟩
end
abbrev Sp:=List V->Hp->VK->XK->Prop
abbrev CXT:=List Env->Hp->gh->XK->gf->gh->Prop
structure Env0(P:gi)(w:gj)(K:gd)(mg:Str->Option gf)(base:Heap)(A:Around)(outer:List Env)(s:gh)(H:Hp):Prop where
 frames:A.frames=some outer
 mod:Mod K mg base
 bs:∀b o,base.get? b=some o->s.heap.get? b=some o/\H b=none
 bsz:base.objs.size<=s.heap.objs.size
 funs:s.heap.FunFrames base outer
 frf:∀b∈frs outer,H b=none
 hok:HOk P w H s.heap
 bare:AllBare s.gens
def CE(outer:List Env)(P:gi)(w:gj)(H:Hp)(s:gh)(Q:VK)(u:gf)(s':gh):Prop:=
 ∃v H',s'.os=s.os/\AllBare s'.gens/\Un (frs outer) [] H H' s.heap s'.heap/\HOk P w H' s'.heap/\RelV v u/\Q v H'
def CR(CX:CXT)(outer:List Env)(P:gi)(w:gj)(H:Hp)(s:gh)(Q:VK)(E:XK)(r:Result)(s':gh):Prop:=
 match r with
 |.ok (.ret u)=>CE outer P w H s Q u s'
 |.ok _=>False
 |.error e=>CX outer H s E e s'
structure FnOk(P:gi)(w:gj)(K:gd)(mg:Str->Option gf)(base:Heap)(CX:CXT)(k:Nat)(f:gg)(fd:gk)(ps:List Str)(sp:Sp):Prop where
 len:∀vs H Q E,sp vs H Q E->vs.length=ps.length
 run:∀(A:Around) (outer:List Env) (s:gh) (H:Hp) (args:Args) (us:List gf) (vs:List V) (Q:VK) (E:XK),Room k A->Env0 P w K mg base A outer s H->BindsTo s fd args (ps.zip us)->Vals vs us->sp vs H Q E->
  codeAny (model P w) A (.call (.ref f) args) (CR CX outer P w H s Q E) s
theorem FnOk.mono{P:gi}{w:gj}{K:gd}{mg:Str->Option gf}{base:Heap}{CX:CXT}{j k:Nat}{f:gg}{fd:gk}{ps:List Str}{sp:Sp}(F:FnOk P w K mg base CX j f fd ps sp)(h:j<=k) :
 FnOk P w K mg base CX k f fd ps sp:=⟨F.len,λA outer s H args us vs Q E hr=>F.run A outer s H args us vs Q E (hr.mono h)⟩
variable{mg:Str->Option gf}{base:Heap}
theorem Env0.make{A:Around}{outer:List Env}(e:Env0 P w K mg base A outer s H)(C:gg)(us:List gf)(kw:List (Str×gf)) :
 Env0 P w K mg base (A.under (.builtin "type.__call__" ⟨.ref C::us,kw⟩)) outer s H:=⟨by first|exact e.frames|(simpa[Around.under,Code.envs,Code.isFrame,pushEnvs] using e.frames),e.mod,e.bs,e.bsz,e.funs,e.frf,e.hok,e.bare⟩
section
variable{X:Cx}{ge:List (gg×Obj)}{σ:St}{H:Hp}{s s':gh}
theorem Inv.env0(I:Inv X ge σ H s):Env0 X.prog X.w X.K X.mg X.base X.A X.stack s H:=
 ⟨I.ok.frames,I.ok.mod,I.bs,ul9 I.ok.bsz I.sz,I.stack,I.stkFree,I.hok,I.bare⟩
theorem Inv.after{Q:VK}(I:Inv X ge σ H s)(h:CE X.stack X.prog X.w H s Q u s'):EP X ge σ Q u s':=by
 clear 5 h v H' os bare un hok r q;clear 5 s' hh g d t os';obtain rfl:os'=s.os:=os;exact⟨v,H',I.call (h':=hh) (g':=g) (d':=d) (t':=t) (ch:=[]) un hok bare (λb z=>absurd z (by simp)),r,q⟩
end
def bj(sp:Sp)(dvs:List V)(E:XK)(t:TA):TE:=λσ H Q=>t σ H λvs H1=>sp (vs++dvs) H1 Q E
def U8(C:gg)(m:Str)(sp:Sp)(dvs:List V)(E:XK)(ta:TE)(t:TA):TE:=λσ H Q=>ta σ H λx H1=>∃a dx fs,x=.ref a/\H1 a=some (.ins C dx fs)/\fs.lookup m=none/\
 t σ H1 λvs H2=>sp (x::(vs++dvs)) H2 Q E
def bq(C:gg)(sp:Sp)(dvs:List V)(E:XK)(t:TA):TE:=λσ H Q=>t σ H λvs H1=>∀x dx,H1 x=none->H1 dx=none->dx≠x->
 sp (.ref x::(vs++dvs)) (upd (upd H1 dx (.own x)) x (.ins C dx [])) (λv H2=>v=.non/\Q (.ref x) H2) E
def Binds(K:gd)(fd:gk)(ps:List Str)(ds:List gf):Prop:=
 ∀(s:gh) (us:List gf),K.In s.heap->(us++ds).length=ps.length->BindsTo s fd ⟨us,[]⟩ (ps.zip (us++ds))
theorem Binds.all{fd:gk}{ps:List Str}(h:∀us:List gf,us.length=ps.length->bindArgs fd ⟨us,[]⟩=pure (ps.zip us)):Binds K fd ps []:=λs us _ hl=>by
 rw[ui5] at hl⊢;exact .of_eq (h us hl)
def F4(CX:CXT)(X:Cx)(E:XK):Prop:=∀(ge:List (gg×Obj)) (σ:St) (H:Hp) (s:gh) (e:gf) (s':gh),Inv X ge σ H s->CX X.stack H s E e s'->X.xe e s'
variable{vs:List V}
section
variable{X:Cx}{CX:CXT}{k:Nat}{f C:gg}{fd:gk}{ps:List Str}{sp:Sp}{dvs:List V}{ds:List gf}{E:XK}{x m:Str}{p pos apos:Pos}{e o:Expr}{es:List Expr}{ta:TE}{t:TA}
theorem NQ{Q:VK}(F:FnOk X.prog X.w X.K X.mg X.base CX k f fd ps sp)(hr:Room k X.A)(hb:Binds X.K fd ps ds)(hd:Vals dvs ds)(hx:F4 CX X E)
 (I:Inv X ge σ H s) (r:Vals vs us) (h:sp (vs++dvs) H Q E):wpAny (model X.prog X.w) X.A (call (.ref f) us) (EP X ge σ Q) X.xe s:=by
 have r2:Vals (vs++dvs) (us++ds):=r.append hd;have hl:(us++ds).length=ps.length:=by rw[<-r2.length];exact F.len _ _ _ _ h
 refine km (ke (F.run X.A X.stack s H ⟨us,[]⟩ (us++ds) (vs++dvs) Q E hr I.env0 (hb s us I.kIn hl) r2 h) λr s' hq=>?_)
 cases r with
 |error e=>exact hx ge σ H s e s' I hq
 |ok fl=>
   cases fl with
   |ret u=>exact I.after hq
   |next=>exact False.elim hq
   |brk=>exact False.elim hq
   |cont=>exact False.elim hq
theorem OU(F:FnOk X.prog X.w X.K X.mg X.base CX k f fd ps sp)(hr:Room k X.A)(hg:Gl X x)(hm:X.mg x=some (.ref f))(hk:PySem.W.keepIn X.K (.ref f)=true)(hb:Binds X.K fd ps ds)(hd:Vals dvs ds)(hx:F4 CX X E)
 (ha:PA X (e::es) t) (hdb:(x==("__debug__":Str))=false:=by decide) (he:starEach (e::es) X.env=(false,eval e X.env)::starEach es X.env:=by rfl) (hpl:(backTo pos (starEach es X.env)).any (·.1)=false:=by rfl) :
 PE X (.Call (.Name x p) (e::es) [] pos) (bj sp dvs E t):=by
 intro ge s σ H Q I h;refine ja (EK I hg hm ?_ hdb);refine ue7 (h₀:=X.base) I.ok.mod.kin hk (thn (ha pos ge s σ H _ I h) λus s1 z9=>?_) he hpl;clear 5 z9 vs H1 I1 r q;refine⟨I1.kIn,?_⟩;exact NQ F hr hb hd hx I1 r q
theorem Wm(he:PE X o ta)(c:Cls X.K C)(hm:Meth X.K C m f)(F:FnOk X.prog X.w X.K X.mg X.base CX k f fd ps sp)(hr:Room k X.A)(hb:Binds X.K fd ps ds)(hd:Vals dvs ds)(hx:F4 CX X E)(ha:PA X (e::es) t)
 (hst:starEach (e::es) X.env=(false,eval e X.env)::starEach es X.env:=by rfl) (hpl:(backTo pos (starEach es X.env)).any (·.1)=false:=by rfl)
 (ht:eval (.Call (.Attribute o m apos) (e :: es) [] pos) X.env=(do
   let ov <-eval o X.env
   standAt apos.atName
   let (f,first) <-holding [ov] (getMethod ov m pl)
   callWith pos f first (backTo pos (starEach (e::es) X.env)) (backToKw pos (keywordEach [] X.env))):=by rfl) :
 PE X (.Call (.Attribute o m apos) (e::es) [] pos) (U8 C m sp dvs E ta t):=by
 intro ge s σ H Q I h;refine uc7 (pl:=pl) (thn (he ge s σ H _ I h) λu s1 z9=>?_) ht;clear 5 z9 x H1 I1 rx a dx fs ex ea l q;subst ex;obtain rfl:u=Value.ref a:=rx;refine Kw I1 ea c hm l ?_;refine ue7 (first:=[.ref a]) (h₀:=X.base) I.ok.mod.kin hm.kp (thn (ha pos ge s1 σ H1 _ I1 q) λus s2 z9=>?_) hst hpl;clear 5 z9 vs H2 I2 r q2;refine⟨I2.kIn,?_⟩;exact NQ (us:=.ref a::us) (vs:=.ref a::vs) F hr hb hd hx I2 (.cons rfl r) q2
theorem T5(he:PE X o ta)(c:Cls X.K C)(hm:Meth X.K C m f)(F:FnOk X.prog X.w X.K X.mg X.base CX k f fd ps sp)(hr:Room k X.A)(hb:Binds X.K fd ps ds)(hd:Vals dvs ds)(hx:F4 CX X E)
 (ht:eval (.Call (.Attribute o m apos) [] [] pos) X.env=(do
   let ov <-eval o X.env
   standAt apos.atName
   let (f,first) <-holding [ov] (getMethod ov m pl)
   callWith pos f first (backTo pos (starEach [] X.env)) (backToKw pos (keywordEach [] X.env))):=by rfl) :
 PE X (.Call (.Attribute o m apos) [] [] pos) (U8 C m sp dvs E ta Z4):=by
 intro ge s σ H Q I h;refine uc7 (pl:=pl) (thn (he ge s σ H _ I h) λu s1 z9=>?_) ht;clear 5 z9 x H1 I1 rx a dx fs ex ea l q;subst ex;obtain rfl:u=Value.ref a:=rx;refine Kw I1 ea c hm l ?_;exact PySem.W.callWith_K0 (first:=[.ref a]) I1.kIn hm.kp (NQ (us:=[.ref a]) (vs:=[.ref a]) F hr hb hd hx I1 (.cons rfl .nil) q)
structure Mk(K:gd)(C f:gg):Prop where
 makes:PySem.W.makesIn K C=true
 init:PySem.W.findIn K (.ref C) "__init__" = some (some (.ref f))
 fn:PySem.W.isFn K (.ref f)=true
 kp:PySem.W.keepIn K (.ref C)=true
theorem Uj{Q:VK}(M:Mk X.K C f)(F:FnOk X.prog X.w X.K X.mg X.base CX k f fd ps sp)(hr:Room (k+1) X.A)(hb:Binds X.K fd ps ds)(hd:Vals dvs ds)
 (hx:F4 CX X E) (I:Inv X ge σ H s) (r:Vals vs us)
 (h:∀x dx,H x=none->H dx=none->dx≠x->sp (.ref x::(vs++dvs)) (upd (upd H dx (.own x)) x (.ins C dx [])) (λv H2=>v=.non/\Q (.ref x) H2) E) :
 wpAny (model X.prog X.w) X.A (call (.ref C) us) (EP X ge σ Q) X.xe s:=by
 have hq:=h (s.heap.objs.size+1) s.heap.objs.size (I.hok.fresh (un0 _)) (I.hok.fresh (um8 _)) (ul8 (ug7 _));have I2:=Inv.made (C:=C) I;have r2:Vals (V.ref (s.heap.objs.size+1)::(vs++dvs)) (Value.ref (s.heap.objs.size+1)::(us++ds)):=.cons rfl (r.append hd);have hl:(Value.ref (s.heap.objs.size+1)::us++ds).length=ps.length:=by
  have e:=r2.length;rw[F.len _ _ _ _ hq] at e;exact e.symm
 refine km (TQ (f:=f) I.kIn M.makes M.init (kl.mp M.fn) (ke (F.run _ X.stack _ _ ⟨Value.ref (s.heap.objs.size+1)::us,[]⟩ (Value.ref (s.heap.objs.size+1)::(us++ds)) _ _ E (hr.make C us [])
  (I2.env0.make C us []) (hb _ (Value.ref (s.heap.objs.size+1)::us) I2.kIn hl) r2 hq) λr s' hq'=>?_))
 cases r with
 |error e=>exact hx ge σ _ _ e s' I2 hq'
 |ok fl=>
   cases fl with
   |ret u=>
     clear 5(I2.after hq')v H' I3 rv ev q3;subst ev;exact⟨rv,⟨V.ref (s.heap.objs.size+1),H',I3,rfl,q3⟩⟩
   |next=>exact False.elim hq'
   |brk=>exact False.elim hq'
   |cont=>exact False.elim hq'
theorem Wl(M:Mk X.K C f)(F:FnOk X.prog X.w X.K X.mg X.base CX k f fd ps sp)(hr:Room (k+1) X.A)(hg:Gl X x)(hm:X.mg x=some (.ref C))(hb:Binds X.K fd ps ds)(hd:Vals dvs ds)(hx:F4 CX X E)
 (ha:PA X (e::es) t) (hdb:(x==("__debug__":Str))=false:=by decide) (he:starEach (e::es) X.env=(false,eval e X.env)::starEach es X.env:=by rfl) (hpl:(backTo pos (starEach es X.env)).any (·.1)=false:=by rfl) :
 PE X (.Call (.Name x p) (e::es) [] pos) (bq C sp dvs E t):=by
 intro ge s σ H Q I h;refine ja (EK I hg hm ?_ hdb);refine ue7 (h₀:=X.base) I.ok.mod.kin M.kp (thn (ha pos ge s σ H _ I h) λus s1 z9=>?_) he hpl;clear 5 z9 vs H1 I1 r q;refine⟨I1.kIn,?_⟩;exact Uj M F hr hb hd hx I1 r q
end
section
variable{X:Cx}{CX:CXT}{k:Nat}{f C:gg}{fd:gk}{ps ks:List Str}{sp:Sp}{E:XK}{x m:Str}{p pos apos kpos:Pos}{e o:Expr}{es:List Expr}{kws:List Keyword}{te ta:TE}{t tk:TA}{nm:Option Str}
structure KBinds(K:gd)(fd:gk)(ps ks:List Str)(g:List gf->List gf->List gf)(gV:List V->List V->List V):Prop where
 to:∀(s:gh) (us ws:List gf),K.In s.heap->(g us ws).length=ps.length->BindsTo s fd ⟨us,ks.zip ws⟩ (ps.zip (g us ws))
 rel:∀{vs:List V}{us:List gf}{zs:List V}{ws:List gf},Vals vs us->Vals zs ws->Vals (gV vs zs) (g us ws)
variable{g:List gf->List gf->List gf}{gV:List V->List V->List V}
end
structure FnScope(N P:List Str)(sc:Scope):Prop where
 kind:sc.kind=.function
 co:sc.isCoroutine=false
 gen:sc.isGenerator=false
 nd:N.Nodup
 pre:N.take P.length=P
 par:∀x∈P,sc.names.lookup x=some .local\/sc.names.lookup x=some .cell
 nofree:∀y∈sc.names,y.2≠.free
theorem LR{kindOf:Str->Option NameKind}{x:Str}:∀{binds:List (Str×gf)}{m:Str->Option gf},(∀v,(x,v)∉binds)->bindL kindOf binds m x=m x
 |[],_,_=>rfl
 |(n,v)::r,m,h=>by
   unfold bindL;rw[LR λw hw=>h w (ud4 _ hw)]
   split
   .have:x≠n:=by rintro rfl;exact h v ue5
    simp[this]
   .rfl
theorem LP{kindOf:Str->Option NameKind}{x:Str}:∀{binds:List (Str×gf)}{m:Str->Option gf},(∀v,(x,v)∉binds)->bindC kindOf binds m x=m x
 |[],_,_=>rfl
 |(n,v)::r,m,h=>by
   unfold bindC;rw[LP λw hw=>h w (ud4 _ hw)]
   split
   .rfl
   .have:x≠n:=by rintro rfl;exact h v ue5
    simp[this]
theorem LQ{kindOf:Str->Option NameKind}{x:Str}{v:gf}:∀{P:List Str}{vs:List gf}{i:Nat}{m:Str->Option gf},P.Nodup->P[i]?=some x->vs[i]?=some v->kindOf x=some .local->
 bindL kindOf (P.zip vs) m x=some v
 |[],_,_,_,_,h,_,_=>by simp at h
 |_::_,[],_,_,_,_,h,_=>by simp at h
 |p::P,w::vs,0,m,nd,h1,h2,hk=>by
   simp at h1 h2;subst h1;subst h2;show bindL kindOf ((p,w)::P.zip vs) m p=_;unfold bindL;rw[LR λv hv=>(ui6.mp nd).1 (ui7 hv).1,kQ hk];simp
 |p::P,w::vs,i+1,m,nd,h1,h2,hk=>by
   show bindL kindOf ((p,w)::P.zip vs) m x=_;unfold bindL;exact LQ (i:=i) (ui6.mp nd).2 (by simpa using h1) (by simpa using h2) hk
theorem LO{kindOf:Str->Option NameKind}{x:Str}{v:gf}:∀{P:List Str}{vs:List gf}{i:Nat}{m:Str->Option gf},P.Nodup->P[i]?=some x->vs[i]?=some v->kindOf x≠some .local->
 bindC kindOf (P.zip vs) m x=some v
 |[],_,_,_,_,h,_,_=>by simp at h
 |_::_,[],_,_,_,_,h,_=>by simp at h
 |p::P,w::vs,0,m,nd,h1,h2,hk=>by
   simp at h1 h2;subst h1;subst h2;show bindC kindOf ((p,w)::P.zip vs) m p=_;unfold bindC;rw[LP λv hv=>(ui6.mp nd).1 (ui7 hv).1,kS hk];simp
 |p::P,w::vs,i+1,m,nd,h1,h2,hk=>by
   show bindC kindOf ((p,w)::P.zip vs) m x=_;unfold bindC;exact LO (i:=i) (ui6.mp nd).2 (by simpa using h1) (by simpa using h2) hk
noncomputable def start(N:List Str)(vs:List V):St:=vs.map some++List.replicate (N.length-vs.length) none
noncomputable def Fc(CX:CXT)(P:gi)(w:gj)(K:gd)(mg:Str->Option gf)(base:Heap)(N:List Str)(qual:Str)(scope:Scope)(f:gg)(cd:gf)(A:Around)(outer:List Env)(s:gh)(H:Hp)(E:XK):Cx where
 prog:=P
 w:=w
 K:=K
 mg:=mg
 base:=base
 A:=A.deeper (envOfC qual scope s.heap.objs.size f cd)
 N:=N
 s₀:=s
 H₀:=H
 env:=envOfC qual scope s.heap.objs.size f cd
 outer:=outer
 stack:=envOfC qual scope s.heap.objs.size f cd::outer
 ex:=[]
 calm:=true
 fn:=λ_=>true
 pn:=[]
 xe:=λe s'=>wpAny (model P w) (A.deeper (envOfC qual scope s.heap.objs.size f cd)) (leaving (envOfC qual scope s.heap.objs.size f cd) e) (λ_ s''=>CX outer H s E e s'') (λe' s''=>CX outer H s E e' s'') s'
theorem M1{sc:Scope}{n:Nat}{x:Str}(h:sc.names.lookup x=some .cell):∃c,(cellsFrom n sc.names []).lookup x=some c:=by
 have q:=ie sc.names n [] (.inl h);exact Option.isSome_iff_exists.mp q
theorem Rf{CX:CXT}{N ps:List Str}{qual:Str}{scope:Scope}{f:gg}{cd:gf}{A:Around}{outer:List Env}{s1:gh}{E:XK}
 (S:FnScope N ps scope) (hd:A.handled=none) (e0:Env0 P w K mg base A outer s H) (hl:vs.length=ps.length) (r:Vals vs us)
 (x:InCallC s s.heap.objs.size (bindL (envOfC qual scope s.heap.objs.size f cd).kindOf (ps.zip us) λ_=>none) (cellsFrom (s.heap.objs.size+1) scope.names []) (bindC (envOfC qual scope s.heap.objs.size f cd).kindOf (ps.zip us) λ_=>none) s1) :
 Inv (Fc CX P w K mg base N qual scope f cd A outer s H E) [] (start N vs) H s1:=by
 have hpl:ps.length<=N.length:=by have:=kr List.length S.pre;rw[ug8] at this;lia
 clear 5 x.done h1 tk rfl hk;have noA:∀b:gg,b∉(Fc CX P w K mg base N qual scope f cd A outer s H E).ex:=λb z=>absurd (show b∈([]:List gg) from z) (by simp);refine⟨⟨e0.mod,S.kind,rfl,rfl,um8 _,λy z c h1 h2=>?_,λy hy=>?_,λy c _ h=>?_,λ_=>hd,Around.frames_deeper e0.frames,.inr ⟨rfl,rfl⟩,λb z=>absurd z (noA b),e0.bs,e0.bsz,λb _ _=>noA b,λb z=>absurd z (noA b),e0.funs,e0.frf⟩,
  rfl,e0.bare,Un.kept hk,⟨_,x.toInCall.ns,λi y v h1 h2 h3=>?_⟩,λy c h=>⟨_,x.cell y c h⟩,e0.hok.fresh (um8 _),λy c h=>?_,λp hp=>absurd (show p∈([]:List (gg×Obj)) from hp) (by simp),e0.hok.kept hk,?_⟩
 .exact name_of_addr x.apart (iu h1) (iu h2)
 .have hy:scope.names.lookup y=some .cell\/scope.names.lookup y=some .free:=hy;rcases hy with hy|hy
  .exact M1 hy
  .exact absurd rfl (S.nofree _ (iu hy))
 .exact jy (x.above y c (iu h))
 .have hi:i<vs.length:=by
   unfold start at h2
   by_cases hi:i<vs.length
   .exact hi
   .rw[ua6 (by simpa using hi)] at h2;rw[ub4] at h2
    split at h2<;>cases h2
  have ha:vs[i]?=some v:=by
   unfold start at h2;rw[ub0 (by simpa using hi),uf6] at h2
   cases e:vs[i]? with
   |none=>rw[e] at h2;cases h2
   |some a=>rw[e] at h2;cases h2;rfl
  clear 5(r.get ha)u hu rv;have hp:ps[i]?=some y:=by
   rw[<-S.pre,List.getElem?_take_of_lt (by lia)];exact h1
  have ndP:ps.Nodup:=by rw[<-S.pre];exact S.nd.sublist (List.take_sublist _ _)
  refine⟨u,rv,?_⟩;rcases S.par y (ud6 hp) with k|k
  .exact .inl ⟨k,LQ ndP hp hu k⟩
  .clear 5(M1 (n:=s.heap.objs.size+1) k)c e;refine .inr ⟨.inl k,c,e,?_⟩;have q:=x.cell y c e;rw[LO ndP hp hu (by show scope.names.lookup y≠_;rw[k];decide)] at q;exact q
 .exact e0.hok.fresh (jy (x.above y c (iu h)))
 .unfold start;show _=N.length;rw[ue8,ui3,uc8];lia
theorem UV{CX:CXT}{k:Nat}{f:gg}{name qual:Str}{params:Arguments}{body:List Stmt}{scope:Scope}{dV kV doc pm cdv ct oc:gf}{an od:Option gg}
 {osl:Array (Option gf)}{N ps:List Str}{sp:Sp} (lk:K.lookup f=some ⟨oc,od,.func (PySem.W.fnOf name qual params body scope dV kV doc pm an cdv ct),osl⟩) (hcd:codeIn K cdv qual=true) (S:FnScope N ps scope)
 (len:∀vs H Q E,sp vs H Q E->vs.length=ps.length)
 (hbody:∀(A:Around) (outer:List Env) (s:gh) (H:Hp) (vs:List V) (Q:VK) (E:XK),Room k (A.deeper (envOfC qual scope s.heap.objs.size f cdv))->sp vs H Q E->
   ∃t,PSs (Fc CX P w K mg base N qual scope f cdv A outer s H E) body t/\t {nx:=λ_ H'=>Q .non H',rt:=Q} (start N vs) H) :
 FnOk P w K mg base CX (k+1) f (PySem.W.fnOf name qual params body scope dV kV doc pm an cdv ct) ps sp:=by
 refine⟨len,λA outer s H args us vs Q E hr e0 hb r hsp=>?_⟩;have hl:=len _ _ _ _ hsp;have KX:K.In s.heap:=e0.mod.kin.keeps λb o e=>(e0.bs b o e).1;have lim:s.heap.NoLimit:=e0.mod.nolimit.keeps λb o e=>(e0.bs b o e).1;have hkind:∀y∈ps.zip us,scope.names.lookup y.1=some .local\/(scope.names.lookup y.1=some .cell/\((cellsFrom (s.heap.objs.size+1) scope.names []).lookup y.1).isSome=true):=λz9 hy=>by
  clear 5 z9 n v;rcases S.par n (ui7 hy).1 with q|q
  .exact .inl q
  .exact .inr ⟨q,ie _ _ _ (.inl q)⟩
 refine codeAny_call_function hr.depth (KX _ _ lk) rfl S.co S.gen rfl (PySem.W.codeRec_of KX hcd) (hb _ _ _ _ ?_);refine wpAny_newFunctionEnv_cells S.kind hkind λenv he s1 x=>?_;subst he;refine⟨lim.keeps x.toInCall.keep,codeAny_func ?_⟩;clear 5(hbody A outer s H vs Q E (hr.deeper _) hsp)t ht hq;have I:Inv (Fc CX P w K mg base N qual scope f cdv A outer s H E) [] (start N vs) H s1:=Rf S hr.hd e0 hl r x;refine un4 (ht [] s1 (start N vs) H _ I hq) (λfl s' hs=>?_) λe s' hs=>hs;have fin:∀{σ':St}{H':Hp}{v:V}{u:gf},Inv (Fc CX P w K mg base N qual scope f cdv A outer s H E) [] σ' H' s'->RelV v u->Q v H'->CE outer P w H s Q u s':=
  λ{σ' H' v u} J rv q=>⟨v,H',J.os,J.bare,J.base,J.hok,rv,q⟩
 cases fl with
 |ret u=>
   clear 5 hs v σ' H' J rv q;exact fin J rv q
 |next=>
   clear 5 hs σ' H' J q;exact fin (v:=V.non) (u:=Value.none) J rfl q
 |brk=>
   obtain⟨_,_,_,q⟩:=hs;exact False.elim q
 |cont=>
   obtain⟨_,_,_,q⟩:=hs;exact False.elim q
section
variable{X:Cx}{x:Str}{p pos:Pos}{e:Expr}{es:List Expr}{t:TA}{id T:String}{r:List V->Hp->VK->Prop}
def tCB(r:List V->Hp->VK->Prop)(t:TA):TE:=λσ H Q=>t σ H λvs H1=>r vs H1 Q
theorem T0(hc:C9 X (.builtin id) r)(hg:Gl X x)(hm:X.mg x=none)(hv:bootBuiltins x=some (.builtin id))(ha:PA X (e::es) t)(hn:x≠"__name__":=by decide)(hdb:(x==("__debug__":Str))=false:=by decide)
 (he:starEach (e::es) X.env=(false,eval e X.env)::starEach es X.env:=by rfl) (hpl:(backTo pos (starEach es X.env)).any (·.1)=false:=by rfl):PE X (.Call (.Name x p) (e::es) [] pos) (tCB r t):=by
 intro ge s σ H Q I h;refine ja (Iz I hg hm hv ?_ hn hdb);exact PyProof.Rows.callWith_builtin1 (thn (ha pos ge s σ H _ I h) λus s1 z9=>by clear 5 z9 vs H1 I1 r1 q1;exact hc ge s1 σ H1 vs us Q I1 r1 q1) he hpl
theorem IM(hc:C9 X (.type T) r)(hg:Gl X x)(hm:X.mg x=none)(hv:bootBuiltins x=some (.type T))(ha:PA X (e::es) t)(hn:x≠"__name__":=by decide)(hdb:(x==("__debug__":Str))=false:=by decide)
 (he:starEach (e::es) X.env=(false,eval e X.env)::starEach es X.env:=by rfl) (hpl:(backTo pos (starEach es X.env)).any (·.1)=false:=by rfl):PE X (.Call (.Name x p) (e::es) [] pos) (tCB r t):=by
 intro ge s σ H Q I h;refine ja (Iz I hg hm hv ?_ hn hdb);exact ua4 (thn (ha pos ge s σ H _ I h) λus s1 z9=>by clear 5 z9 vs H1 I1 r1 q1;exact hc ge s1 σ H1 vs us Q I1 r1 q1) he hpl
end
end
end L2
namespace HT
open PySem PyProof.Rows
section
open PySem.SeqAt
open PySem.AutoSeq1 (wpAny_loadPart')
open PySem.MeetsSeq PySem.MeetsSeq2 PySem.MeetsSeq3
end
section
variable{prog:gi}{w:gj}{A:Around}{E:gf->gh->Prop}{s:gh}
noncomputable def sIx(n d:Nat):Option Int->Nat
 |none=>d
 |some v=>if v<0 then(v+(n:Int)).toNat else min v.toNat n
theorem NS(n d:Nat):sIx n d none=d:=rfl
theorem Jp(n d k:Nat):sIx n d (some (k:Int))=min k n:=by
 show(if (k:Int)<0 then((k:Int)+(n:Int)).toNat else min (k:Int).toNat n)=min k n;rw[kS (by lia),uf7]
theorem ZN(n d:Nat)(hd:d<=n)(o:Option Int):sIx n d o<=n:=by
 cases o with
 |none=>exact hd
 |some v=>
   show(if v<0 then(v+(n:Int)).toNat else min v.toNat n)<=n
   by_cases hv:v<0
   .rw[kQ hv];lia
   .rw[kS hv];exact Nat.min_le_right _ _
theorem Os(v:Int)(n d:Nat):(if v<0 then max (v+(n:Int)) 0 else min v (n:Int))=((sIx n d (some v):Nat):Int):=by
 show(if v<0 then max (v+(n:Int)) 0 else min v (n:Int))=(((if v<0 then(v+(n:Int)).toNat else min v.toNat n):Nat):Int)
 by_cases hv:v<0
 .simp only[kQ hv];lia
 .simp only[kS hv];lia
theorem Pn(lo hi:Option Int)(n:Nat):Builtin.Slice.sliceAdjust lo hi 1 (n:Int)=(((sIx n 0 lo:Nat):Int),((sIx n n hi:Nat):Int)):=by
 have h1:¬((1:Int)<0):=by lia
 unfold Builtin.Slice.sliceAdjust;simp only[h1,ku];refine Prod.ext ?_ ?_
 .cases lo with
  |none=>rfl
  |some v=>exact Os v n 0
 .cases hi with
  |none=>rfl
  |some v=>exact Os v n n
theorem P0(i j:Nat):Builtin.Slice.slicePlaces (i:Int) (j:Int) 1=j-i:=by
 unfold Builtin.Slice.slicePlaces;have h1:(1:Int) > 0:=by lia
 simp only[h1,kz,Int.ediv_one]
 split<;>lia
theorem KN{v:gf}{o:Option Int}{Q:Option Int->gh->Prop}(p:IsPart v o)(h:Q o s):wpAny (model prog w) A (Builtin.Slice.slicePartIndex v) Q E s:=by
 cases p with
 |none=>exact slicePart_none h
 |int i t=>exact slicePart_int h
theorem Gx{sl:gg}{vl vu:gf}{lo hi:Option Int}{n:Nat}{Q:Int×Int×Nat->gh->Prop}(hs:s.heap.IsSliceOf sl vl vu .none)(pl:IsPart vl lo)(pu:IsPart vu hi)
 (h:Q (((sIx n 0 lo:Nat):Int),1,sIx n n hi-sIx n 0 lo) s):wpAny (model prog w) A (Builtin.Slice.sliceApplied (.ref sl) (pure (n:Int))) Q E s:=by
 clear 5(id hs)os hos hcs hds;unfold Builtin.Slice.sliceApplied Builtin.Slice.sliceFields;refine un2 (un2 (un1 hos hds (x:=vl) rfl (un2 (un1 hos hds (x:=vu) rfl (un2 (un1 hos hds (x:=.none) rfl (un3 ?_)))))));refine un2 (slicePart_none ?_);show wpAny _ _ (if ((1:Int)==0)=true then _ else _) _ _ s;rw[kS (by decide)];refine un2 (KN pl (un2 (KN pu (un2 (un3 ?_)))));show wpAny _ _ (match Builtin.Slice.sliceAdjust lo hi 1 (n:Int) with|(lo,hi)=>pure (lo,(1:Int),Builtin.Slice.slicePlaces lo hi 1)) _ _ s;rw[Pn lo hi n];show wpAny _ _ (pure (((sIx n 0 lo:Nat):Int),(1:Int),Builtin.Slice.slicePlaces ((sIx n 0 lo:Nat):Int) ((sIx n n hi:Nat):Int) 1)) _ _ s;rw[P0];exact un3 h
theorem T7(xs:Array gf)(i k:Nat):((List.range k).filterMap λ(m:Nat)=>xs[((i:Int)+(m:Int)*1).toNat]?).toArray=((xs.toList.drop i).take k).toArray:=by
 have e:(λ(m:Nat)=>xs[((i:Int)+(m:Int)*1).toNat]?)=λm=>xs[i+m]?:=by
  funext m
  have:((i:Int)+(m:Int)*1).toNat=i+m:=by lia
  rw[this]
 rw[e];have:=pick_run xs i k;rw[List.filterMap_map] at this;have e2:((λx=>xs[x]?) ∘ λx=>i+x)=λm=>xs[i+m]?:=rfl;rw[e2] at this;rw[this]
theorem Jw{t sl:gg}{items:Array gf}{vl vu:gf}{lo hi:Option Int}{Q:gf->gh->Prop}(ht:IsTup s.heap t items)(hs:s.heap.IsSliceOf sl vl vu .none)(pl:IsPart vl lo)(pu:IsPart vu hi)
 (hw:¬(sIx items.size 0 lo=0/\sIx items.size items.size hi=items.size))
 (h:Q (.ref s.heap.objs.size) {s with heap:=s.heap.push {cls:=.type "tuple",data:=.seq ((items.toList.drop (sIx items.size 0 lo)).take (sIx items.size items.size hi-sIx items.size 0 lo)).toArray} })
 (hsz:items.size<=sizeLine):wpAny (model prog w) A (getItem (.ref t) (.ref sl)) Q E s:=by
 have htake:sizeOk (.seq ((items.toList.drop (sIx items.size 0 lo)).take (sIx items.size items.size hi-sIx items.size 0 lo)).toArray):=by
  show((items.toList.drop (sIx items.size 0 lo)).take (sIx items.size items.size hi-sIx items.size 0 lo)).toArray.size<=sizeLine;rw[uf5,ug8,ug9,ud8];lia
 have hj:sIx items.size items.size hi<=items.size:=ZN _ _ (um8 _) hi;clear 5(id hs)os hos hcs hds;have hTs:s.TypeIs (.ref sl) "slice":=⟨os,hos,hcs⟩;unfold getItem
 try with_reducible refine ul6 ?_
 first|refine un2 (un3 ?_)|skip
 refine un2 (wpAny_sequenceKey ht.typeIs (by decide) ?_);refine un2 (wpAny_callSpecial?_slot (name:=Str.ofString "__getitem__") ht.typeIs ua0
  (wpAny_call_entry ua0 ht.typeIs entry_tuple_getitem ?_ (args_tuple_getitem _ _)))
 show wpAny _ _ (Builtin.Tuple.tupleItemsOf (.ref t) >>= _) _ _ s;refine un2 (tupleItemsOf_ ht ?_);refine un2 (wpAny_typeOf hTs ?_);rw[kQ (by decide)];refine un2 (Gx hs pl pu ?_);have hno:¬((((sIx items.size 0 lo:Nat):Int)==0&&(1:Int)==1&&(sIx items.size items.size hi-sIx items.size 0 lo)==items.size)=true):=by
  intro q;rw[uh0,uh0] at q;have q1:((sIx items.size 0 lo:Nat):Int)=0:=eq_of_beq q.1.1;have q2:sIx items.size items.size hi-sIx items.size 0 lo=items.size:=eq_of_beq q.2;exact hw ⟨by lia,by lia⟩
 show wpAny _ _ (if (((sIx items.size 0 lo:Nat):Int)==0&&(1:Int)==1&&(sIx items.size items.size hi-sIx items.size 0 lo)==items.size)=true then _ else _) _ _ s;rw[kS hno,T7]
 first
  |exact un2 (m:=Builtin.Tuple.tupleExact _) (je (un3 ⟨_,rfl,un3 h⟩) htake)
  |exact un2 (m:=Builtin.Tuple.tupleExact _) (je (un2 (un3 (un3 ⟨_,rfl,un3 h⟩))) htake)
  |exact un2 (un2 (m:=Builtin.Tuple.tupleExact _) (je (un3 (un3 ⟨_,rfl,un3 h⟩)) htake))
  |exact un2 (un2 (m:=Builtin.Tuple.tupleExact _) (je (un3 ⟨_,rfl,un3 h⟩) htake))
end
end HT
namespace L2
open PySem PySem.Spec PyProof.Rows
abbrev TO:=St->Hp->(Option Int->Hp->Prop)->Prop
def PO(X:Cx)(e:Option Expr)(t:TO):Prop:=
 ∀(ge:List (gg×Obj)) (s:gh) (σ:St) (H:Hp) (Q:Option Int->Hp->Prop),Inv X ge σ H s->t σ H Q->
  wpAny (model X.prog X.w) X.A (evalPart e X.env) (λu s'=>∃o H',Inv X ge σ H' s'/\IsPart u o/\Q o H') X.xe s
def Xd:TO:=λ_ H Q=>Q none H
def bv(t:TE):TO:=λσ H Q=>t σ H λx H1=>∃i,x=.int i/\Q (some i) H1
section
variable{X:Cx}{e:Expr}{te:TE}{lo hi:Option Expr}{tl th:TO}{pos p2:Pos}
theorem Wt:PO X none Xd:=by
 intro ge s σ H Q I h;rw[evalPart_none];exact un3 ⟨none,H,I,.none,h⟩
theorem Wu(h:PE X e te):PO X (some e) (bv te):=by
 intro ge s σ H Q I hw;rw[evalPart_some];refine thn (h ge s σ H _ I hw) λu s1 z9=>?_;clear 5 z9 x H1 I1 r1 q1;clear 5 q1 i rfl q;clear 5 r1 t rfl;exact⟨some i,H1,I1,.int i t,q⟩
def SlR(X:Cx)(r:V->Option Int->Option Int->Hp->VK->Prop):Prop:=
 ∀(ge:List (gg×Obj)) (s:gh) (σ:St) (H:Hp) (x:V) (v vl vu:gf) (lo hi:Option Int) (sl:gg) (Q:VK),Inv X ge σ H s->RelV x v->s.heap.IsSliceOf sl vl vu .none->IsPart vl lo->IsPart vu hi->r x lo hi H Q->
  ∃T id,typeLookup (.type T) "__getitem__" = pure (some (.builtin id))/\s.TypeIs v T/\wpAny (model X.prog X.w) X.A (getItem v (.ref sl)) (EP X ge σ Q) X.xe s
theorem SlR.or{r r':V->Option Int->Option Int->Hp->VK->Prop}(h:SlR X r)(h':SlR X r'):SlR X (λx lo hi H Q=>r x lo hi H Q\/r' x lo hi H Q):=by
 intro ge s σ H x v vl vu lo hi sl Q I rx hs pl pu q;rcases q with q|q
 .exact h ge s σ H x v vl vu lo hi sl Q I rx hs pl pu q
 .exact h' ge s σ H x v vl vu lo hi sl Q I rx hs pl pu q
def tSl(r:V->Option Int->Option Int->Hp->VK->Prop)(te:TE)(tl th:TO):TE:=λσ H Q=>te σ H λx H1=>tl σ H1 λl H2=>th σ H2 λu H3=>r x l u H3 Q
theorem NF{r:V->Option Int->Option Int->Hp->VK->Prop}(hr:SlR X r)(he:PE X e te)(hl:PO X lo tl)(hu:PO X hi th):PE X (.Subscript e (.Slice lo hi none p2) pos) (tSl r te tl th):=by
 intro ge s σ H Q I h;refine Subscript_ (thn (he ge s σ H _ I h) λv s1 z9=>?_);clear 5 z9 x H1 I1 r1 q1;refine wpAny_Slice (thn (hl ge s1 σ H1 _ I1 q1) λvl s2 ⟨l,H2,I2,pl,q2⟩=>thn (hu ge s2 σ H2 _ I2 q2) λvu s3 z9=>?_);clear 5 z9 u H3 I3 pu q3;rw[evalPart_none];refine un3 ?_;have I4:Inv X ge σ H3 {s3 with heap:=s3.heap.push {cls:=.type "slice",data:=.fields #[vl,vu,.none]} }:=I3.kept (t':=s3.toks) λb ob q=>ub9 _ q;clear 5(hr ge {s3 with heap:=s3.heap.push {cls:=.type "slice",data:=.fields #[vl,vu,.none]} } σ H3 x v vl vu l u s3.heap.objs.size Q I4 r1 (Heap.IsSliceOf.new ..) pl pu q3)T id hT ht hg;show wpAny (model X.prog X.w) X.A (subscriptTail e (.Slice lo hi none p2) v (.ref s3.heap.objs.size)) (EP X ge σ Q) X.xe {s3 with heap:=s3.heap.push {cls:=.type "slice",data:=.fields #[vl,vu,.none]} };exact tail_any (ops:=[.ref s3.heap.objs.size,v]) ht hT hg (by with_unfolding_all rfl)
def Ht(xs:List V)(lo hi:Option Int):List V:=(xs.drop (HT.sIx xs.length 0 lo)).take (HT.sIx xs.length xs.length hi-HT.sIx xs.length 0 lo)
theorem Jx(xs:List V)(lo hi:Option Int):(Ht xs lo hi).length<=xs.length:=by
 unfold Ht;rw[ug8,ug9];lia
def ZH(K:gd):V->Option Int->Option Int->Hp->VK->Prop:=λx lo hi H Q=>∃a xs,x=.ref a/\SqT K H a xs/\
 ¬(HT.sIx xs.length 0 lo=0/\HT.sIx xs.length xs.length hi=xs.length)/\∀p,H p=none->Q (.ref p) (upd H p (.tup (Ht xs lo hi)))
theorem ZV:SlR X (ZH X.K):=by
 intro ge s σ H x v vl vu lo hi sl Q I rx hs pl pu h;clear 5 h a xs rfl hx hw q
 cases rx
 clear 5(I.tuple hx)its r ht hz;have hlen:its.toArray.size=xs.length:=by rw[uf5];exact r.length.symm
 refine⟨"tuple",_,ua0.lookup,ht.typeIs,?_⟩;refine HT.Jw ht hs pl pu (by rw[hlen];exact hw) ?_ (by rw[hlen];exact hz);rw[hlen];refine⟨.ref s.heap.objs.size,_,I.laid (t':=s.toks) (o:=.tup (Ht xs lo hi)) (λb ob q=>ub9 _ q) (um8 _) ?_,rfl,q _ (I.hok.fresh (um8 _))⟩;exact⟨ul9 (Jx xs lo hi) hz,_,(r.drop (HT.sIx xs.length 0 lo)).take (HT.sIx xs.length xs.length hi-HT.sIx xs.length 0 lo),IsTup.new _ _⟩
theorem Vals.nil_iff{xs:List V}{us:List gf}(r:Vals xs us):us=[]↔xs=[]:=by
 cases r with
 |nil=>simp
 |cons _ _=>simp
end
noncomputable def ixN(n:Nat)(i:Int):Option Nat:=if 0<=i then(if i<n then some i.toNat else none) else if -(n:Int)<=i then some (i+n).toNat else none
def atI{α:Type}(xs:List α)(i:Int):Option α:=(ixN xs.length i).bind λj=>xs[j]?
theorem VT{n:Nat}{i:Int}{j:Nat}(h:ixN n i=some j):seqIndex? i n=some j/\j<n/\-(n:Int)<=i/\i<n:=by
 unfold ixN at h
 by_cases h0:0<=i
 .rw[kQ h0] at h
  by_cases h1:i<n
  .rw[kQ h1] at h;have e:i.toNat=j:=ui2 h;exact⟨by rw[seqIndex_of h0 h1,e],by lia,by lia,h1⟩
  .rw[kS h1] at h;cases h
 .rw[kS h0] at h
  by_cases h1 : -(n:Int)<=i
  .rw[kQ h1] at h;have e:(i+n).toNat=j:=ui2 h;exact⟨by rw[seqIndex_neg (by lia) h1,e],by lia,h1,by lia⟩
  .rw[kS h1] at h;cases h
theorem K8{α:Type}{xs:List α}{i:Int}{v:α}(h:atI xs i=some v):∃j,seqIndex? i xs.length=some j/\xs[j]?=some v/\j<xs.length/\-(xs.length:Int)<=i/\i<xs.length:=by
 unfold atI at h
 cases e:ixN xs.length i with
 |none=>rw[e] at h;cases h
 |some j=>
   rw[e] at h;clear 5(VT e)h1 h2 h3 h4;exact⟨j,h1,h,h2,h3,h4⟩
theorem IY{α:Type}{xs:List α}{j:Nat}{v:α}(h:xs[j]?=some v):atI xs (j:Int)=some v:=by
 have hj:j<xs.length:=(ua9.mp h).1;have e:ixN xs.length (j:Int)=some j:=by
  unfold ixN;rw[kQ (by lia),kQ (by lia)];simp
 unfold atI;rw[e];exact h
def Op(b:Expr):Prop:=∀o i,subscripted b false o i=operate [o,i] (getItem o i)
def IxR(X:Cx)(r:R2):Prop:=
 ∀(value slice:Expr) (ge:List (gg×Obj)) (s:gh) (σ:St) (H:Hp) (x y:V) (v u:gf) (Q:VK),Inv X ge σ H s->RelV x v->RelV y u->r x y H Q->
  subscripted slice false v u=operate [v,u] (getItem v u)->wpAny (model X.prog X.w) X.A (subscriptTail value slice v u) (EP X ge σ Q) X.xe s
def MtR(X:Cx)(id:String)(r:V->List V->Hp->VK->Prop):Prop:=
 ∀(ge:List (gg×Obj)) (s:gh) (σ:St) (H:Hp) (x:V) (xs:List V) (v:gf) (us:List gf) (Q:VK),Inv X ge σ H s->RelV x v->Vals xs us->r x xs H Q->
  wpAny (model X.prog X.w) X.A (call (.builtin id) (v::us)) (EP X ge σ Q) X.xe s
section
variable{X:Cx}{a b:Expr}{ta tb:TE}{pos:Pos}
theorem IxR.or{r r':R2}(h:IxR X r)(h':IxR X r'):IxR X (λx y H Q=>r x y H Q\/r' x y H Q):=by
 intro value slice ge s σ H x y v u Q I rx ry q hs;rcases q with q|q
 .exact h value slice ge s σ H x y v u Q I rx ry q hs
 .exact h' value slice ge s σ H x y v u Q I rx ry q hs
theorem aX{r:R2}(hr:IxR X r)(ha:PE X a ta)(hb:PE X b tb)(hs:Op b):PE X (.Subscript a b pos) (tOp r ta tb):=by
 intro ge s σ H Q I h;exact Subscript_ (SR ha hb I h λv u s2 x y H2 I2 rx ry q=>hr a b ge s2 σ H2 x y v u Q I2 rx ry q (hs _ _))
def ZC(K:gd):R2:=λx y H Q=>∃p xs i v,x=.ref p/\y=.int i/\SqL K H p xs/\atI xs i=some v/\Q v H
def ZE(K:gd):R2:=λx y H Q=>∃p xs i v,x=.ref p/\y=.int i/\SqT K H p xs/\atI xs i=some v/\Q v H
def ZD:R2:=λx y H Q=>∃z i c,x=.str z/\y=.int i/\z.length<=sizeLine/\atI z.cps.toList i=some c/\Q (.str ⟨#[c]⟩) H
theorem ix_list:IxR X (ZC X.K):=by
 intro value slice ge s σ H x y v u Q I rx ry h hs;clear 5 h p xs i z rfl rfl hq he q
 cases rx
 clear 5 ry t rfl;clear 5(I.list hq)its r pl hz;clear 5(K8 he)j h1 h2 h3 h4 h5;clear 5(r.get h2)w ew rw';have hl:=r.length;have hn:=KA;have fin:EP X ge σ Q w s:=⟨z,H,I,rw',q⟩
 by_cases h0:0<=i
 .have hj:i.toNat=j:=by
   rw[seqIndex_of h0 h5] at h1;exact ui2 h1
  exact item_listR pl.isList h0 (by lia) (by rw[hj];simpa using ew) fin hs
 .have hj:(i+(its.toArray.size:Int)).toNat=j:=by
   rw[seqIndex_neg (by lia) h4] at h1;rw[uf5,<-hl];exact ui2 h1
  exact subscriptTail_builtinR (x:=w) pl.isList.typeIs slot_list_getitem.lookup
   (wpAny_getItem_list_neg (Q:=λr s'=>r=w/\EP X ge σ Q r s') pl.isList (by lia) (by rw[uf5]<;>lia) (by lia) (by rw[hj];simpa using ew) ⟨rfl,fin⟩) hs
theorem ix_tup:IxR X (ZE X.K):=by
 intro value slice ge s σ H x y v u Q I rx ry h hs;clear 5 h p xs i z rfl rfl hq he q
 cases rx
 clear 5 ry t rfl;clear 5(I.tuple hq)its r pl hz;clear 5(K8 he)j h1 h2 h3 h4 h5;clear 5(r.get h2)w ew rw';have hl:=r.length;have hn:=KA;have fin:EP X ge σ Q w s:=⟨z,H,I,rw',q⟩;exact subscriptTail_builtinR (x:=w) pl.typeIs slot_tuple_getitem.lookup
  (getItem_tuple (j:=j) (Q:=λr s'=>r=w/\EP X ge σ Q r s') pl (by lia) (by lia) (by rw[uf5,<-hl];exact h1) (by simpa using ew) ⟨rfl,fin⟩) hs
theorem YG:IxR X ZD:=by
 intro value slice ge s σ H x y v u Q I rx ry h hs;clear 5 h z i c rfl rfl hz he q;clear 5 rx t rfl;clear 5 ry t' rfl;clear 5(K8 he)j h1 h2 h3 h4 h5;have hl:z.cps.toList.length=z.length:=by simp[Str.length]
 rw[hl] at h1 h4 h5;have hn:=KA;exact tail_any (typeIs_str s z t) slot_str_getitem.lookup (getItem_str (c:=c) (by
  have e1:decide (i < -(2 ^ 63:Int))=false:=uj8 (by lia);have e2:decide (i ≥ 2 ^ 63)=false:=uj8 (by lia);rw[e1,e2,uk7]) (by rw[h1];simpa using h2) ⟨.str ⟨#[c]⟩,H,I.tok _,⟨_,rfl⟩,q⟩) hs
def rIx(K:gd):R2:=λx y H Q=>ZC K x y H Q\/ZE K x y H Q\/ZD x y H Q
theorem YF:IxR X (rIx X.K):=ix_list.or (ix_tup.or YG)
theorem NX(lo hi:Option Int)(n:Nat):(sliceBounds lo hi none n).1=((HT.sIx n 0 lo:Nat):Int)/\(sliceBounds lo hi none n).2.1=((HT.sIx n n hi:Nat):Int)/\(sliceBounds lo hi none n).2.2=1:=by
 refine⟨?_,?_,rfl⟩
 .cases lo with
  |none=>simp[sliceBounds,HT.sIx]
  |some i=>
    simp only[sliceBounds,HT.sIx,Option.getD_none,show(1:Int) > 0 by decide,kz]
    by_cases h:i<0
    .simp only[h,kz]<;>lia
    .simp only[h,ku]<;>lia
 .cases hi with
  |none=>simp[sliceBounds,HT.sIx]
  |some i=>
    simp only[sliceBounds,HT.sIx,Option.getD_none,show(1:Int) > 0 by decide,kz]
    by_cases h:i<0
    .simp only[h,kz]<;>lia
    .simp only[h,ku]<;>lia
theorem Mi(its:List gf)(lo hi:Option Int):slicePick its.toArray lo hi none=((its.drop (HT.sIx its.length 0 lo)).take (HT.sIx its.length its.length hi-HT.sIx its.length 0 lo)).toArray:=by
 clear 5(NX lo hi its.toArray.size)h1 h2 h3;unfold slicePick;rw[h1,h2,h3];simp only[sliceRange_one,pick_run,uf5]<;>rfl
def ZF(K:gd):V->Option Int->Option Int->Hp->VK->Prop:=λx lo hi H Q=>∃a xs,x=.ref a/\SqL K H a xs/\∀p,H p=none->Q (.ref p) (upd H p (.lst (Ht xs lo hi)))
theorem sl_list:SlR X (ZF X.K):=by
 intro ge s σ H x v vl vu lo hi sl Q I rx hs pl pu h;clear 5 h a xs rfl hx q
 cases rx
 clear 5(I.list hx)its r ht hz;have hlen:=r.length;refine⟨"list",_,slot_list_getitem.lookup,ht.isList.typeIs,?_⟩;refine wpAny_getItem_list_slice ht.isList hs pl pu .none (by simp) ?_ (by rw[uf5]<;>lia);rw[Mi,<-hlen];refine⟨.ref s.heap.objs.size,_,I.laid (t':=s.toks) (o:=.lst (Ht xs lo hi)) (λb ob q=>ub9 _ q) (um8 _) ?_,rfl,q _ (I.hok.fresh (um8 _))⟩;exact⟨ul9 (Jx xs lo hi) hz,_,0,(r.drop (HT.sIx xs.length 0 lo)).take (HT.sIx xs.length xs.length hi-HT.sIx xs.length 0 lo),ud9 _ rfl⟩
noncomputable def FW:V->Bool
 |.non=>true
 |.bl _=>true
 |.int _=>true
 |.str _=>true
 |_=>false
noncomputable def eqV:V->V->Bool
 |.non,.non=>true
 |.bl a,.bl b=>a==b
 |.bl a,.int b=>(if a then 1 else 0)==b
 |.int a,.bl b=>a==(if b then 1 else 0)
 |.int a,.int b=>a==b
 |.str a,.str b=>a==b
 |_,_=>false
theorem XY{A:Around}{s:gh}{y x:V}{u v:gf}(ry:RelV y u)(rx:RelV x v)(fy:FW y=true)(fx:FW x=true):SeqAt.EqAt A s u v (eqV y x):=by
 cases y with
 |non=>
   cases ry
   cases x with
   |non=>cases rx;exact SeqAt.EqAt.same _
   |bl b=>cases rx;exact SeqAt.EqAt.none_bool b
   |int b=>clear 5 rx t rfl;exact SeqAt.EqAt.none_int b t
   |str b=>clear 5 rx t rfl;exact SeqAt.EqAt.none_str b t
   |_=>exact absurd (show false=true from fx) ue6
 |bl a=>
   cases ry
   cases x with
   |non=>cases rx;exact SeqAt.EqAt.bool_none a
   |bl b=>cases rx;exact SeqAt.EqAt.bool_bool a b
   |int b=>clear 5 rx t rfl;exact SeqAt.EqAt.bool_int a b t
   |str b=>clear 5 rx t rfl;exact SeqAt.EqAt.bool_str a b t
   |_=>exact absurd (show false=true from fx) ue6
 |int a=>
   clear 5 ry t' rfl
   cases x with
   |non=>cases rx;exact SeqAt.EqAt.int_none a t'
   |bl b=>cases rx;exact SeqAt.EqAt.int_bool a t' b
   |int b=>clear 5 rx t rfl;exact SeqAt.EqAt.int_int a t' b t
   |str b=>clear 5 rx t rfl;exact SeqAt.EqAt.int_str a t' b t
   |_=>exact absurd (show false=true from fx) ue6
 |str a=>
   clear 5 ry t' rfl
   cases x with
   |non=>cases rx;exact SeqAt.EqAt.str_none a t'
   |bl b=>cases rx;exact SeqAt.EqAt.str_bool a t' b
   |int b=>clear 5 rx t rfl;exact SeqAt.EqAt.str_int a t' b t
   |str b=>clear 5 rx t rfl;exact SeqAt.EqAt.str_str a t' b t
   |_=>exact absurd (show false=true from fx) ue6
 |_=>exact absurd (show false=true from fy) ue6
def eqU(x:V)(u:gf):Bool:=match u with
 |.none=>eqV .non x
 |.bool b=>eqV (.bl b) x
 |.int i _=>eqV (.int i) x
 |.str z _=>eqV (.str z) x
 |_=>false
theorem QL{x y:V}{u:gf}(r:RelV y u)(f:FW y=true):eqU x u=eqV y x:=by
 cases y with
 |non=>cases r;rfl
 |bl b=>cases r;rfl
 |int i=>clear 5 r t rfl;rfl
 |str z=>clear 5 r t rfl;rfl
 |_=>exact absurd (show false=true from f) ue6
theorem K7{x:V}:∀{xs:List V}{us:List gf},Vals xs us->xs.all FW=true->us.any (eqU x)=xs.any λy=>eqV y x
 |_,_,.nil,_=>rfl
 |y::xs,u::us,.cons r t,f=>by
   rw[uk8,uh0] at f;rw[uk9,uk9,QL r f.1,K7 t f.2]
theorem JQ{A:Around}{s:gh}{x:V}{v:gf}(rx:RelV x v)(fx:FW x=true):∀{xs:List V}{us:List gf},Vals xs us->xs.all FW=true->∀u∈us,SeqAt.EqAt A s u v (eqU x u)
 |_,_,.nil,_=>λu hu=>by cases hu
 |y::xs,u::us,.cons r t,f=>λu' hu=>by
   rw[uk8,uh0] at f;rcases uk5.mp hu with rfl|hu
   .rw[QL r f.1];exact XY r rx f.1 fx
   .exact JQ rx fx t f.2 u' hu
def inV(x:V)(xs:List V):Bool:=xs.any λy=>eqV y x
def rIn(K:gd)(neg:Bool):R2:=λx y H Q=>∃p xs,y=.ref p/\(SqL K H p xs\/SqT K H p xs)/\FW x=true/\xs.all FW=true/\Q (.bl (if neg then !inV x xs else inV x xs)) H
theorem RV:OpR X (compareOp .In) (rIn X.K false):=by
 intro ge s σ H x y v u Q I rx ry h;clear 5 h p xs rfl hq fx fs q
 cases ry
 rcases hq with hq|hq
 .clear 5(I.list hq)its r pl hz;refine SeqAt.in_listAt (eqU x) pl.isList (λw hw=>JQ rx fx r fs w (by simpa using hw)) ⟨.bl _,H,I,rfl,?_⟩;rw[show its.toArray.any (eqU x)=its.any (eqU x) by simp,K7 r fs];exact q
 .clear 5(I.tuple hq)its r pl hz;refine SeqAt.in_tupleAt (eqU x) pl (λw hw=>JQ rx fx r fs w (by simpa using hw)) ⟨.bl _,H,I,rfl,?_⟩;rw[show its.toArray.any (eqU x)=its.any (eqU x) by simp,K7 r fs];exact q
theorem M0:C9 X (.type "list") (λxs H Q=>∃p ys,xs=[.ref p]/\(SqL X.K H p ys\/SqT X.K H p ys)/\∀l,H l=none->Q (.ref l) (upd H l (.lst ys))):=by
 intro ge s σ H xs us Q I r h;clear 5 h p ys rfl hq q;clear 5(Jt r)u rfl rx
 cases rx
 have fin:∀(its:List gf),Vals ys its->ys.length<=sizeLine->∀(h':Heap) (c':Nat),(∀b o',s.heap.get? b=some o'->h'.get? b=some o')->
  h'.get? s.heap.objs.size=some {cls:=.type "list",dict:=none,data:=.seq its.toArray c',slots:=#[]}->EP X ge σ Q (.ref s.heap.objs.size) {s with heap:=h'}:=λits r' hz h' c' kp e=>
  ⟨.ref s.heap.objs.size,_,I.laid (t':=s.toks) kp (um8 _) (show ObjOk X.prog X.w _ h' _ (.lst ys) from⟨hz,its,c',r',e⟩),rfl,q _ (I.hok.fresh (um8 _))⟩
 rcases hq with hq|hq
 .clear 5(I.list hq)its r' pl hz;have hlen:=r'.length;clear 5 pl.isList o ho hc n hd;exact call_list_seq p (.inl rfl) ho hc hd (λh' c' kp e=>fin its r' hz h' c' kp e) (by simp only[uf5]<;>lia)
 .clear 5(I.tuple hq)its r' pl hz;have hlen:=r'.length;clear 5 pl o ho hc n hd;exact call_list_seq p (.inr rfl) ho hc hd (λh' c' kp e=>fin its r' hz h' c' kp e) (by simp only[uf5]<;>lia)
def tyV(K:gd)(T:String)(x:V)(H:Hp):Prop:=match x with
 |.str _=>T = "str"
 |.int _=>T = "int"
 | .ref p=>(T = "list"/\∃xs,SqL K H p xs)\/(T = "tuple"/\∃o,K.lookup p=some o/\o.cls = .type "tuple"/\o.dict=none)\/
    (T = "dict"/\((∃kvs,H p=some (.dK kvs))\/∃kvs,H p=some (.dT kvs)))\/(T = "set"/\∃S n,H p=some (.set S n))
 |_=>False
theorem Z6{ge:List (gg×Obj)}{σ:St}{H:Hp}{s:gh}{T:String}{x:V}{v:gf}(I:Inv X ge σ H s)(r:RelV x v)(ty:tyV X.K T x H) :
 s.TypeIs v T/\∀a,v=.ref a->∃ob,s.heap.get? a=some ob/\ob.dict=none:=by
 cases x with
 |str z=>
   clear 5 r t rfl
   cases (show T = "str" from ty)
   exact⟨typeIs_str s z t,λ_ e=>nomatch e⟩
 |int i=>
   clear 5 r t rfl
   cases (show T = "int" from ty)
   exact⟨kn s i t,λ_ e=>nomatch e⟩
 |ref p=>
   cases r
   rcases ty with⟨rfl,xs,hq⟩|⟨rfl,o,hk,hc,hd⟩|⟨rfl,hk⟩|⟨rfl,S,n,hk⟩
   .obtain⟨its,_,pl,_⟩:=I.list hq;refine⟨pl.isList.typeIs,λa e=>?_⟩
    cases e
    obtain⟨o,n,e,c,hd,_⟩:=pl;exact⟨o,e,hd⟩
   .refine⟨⟨o,I.kIn p o hk,hc⟩,λa e=>?_⟩
    cases e
    exact⟨o,I.kIn _ o hk,hd⟩
   .have z:∃o,s.heap.get? p=some o/\o.ExactDict:=by
     rcases hk with⟨kvs,hk⟩|⟨kvs,hk⟩
     .obtain⟨_,_,_,_,o,_,_,e,ex,_⟩:=I.hok p _ hk;exact⟨o,e,ex⟩
     .obtain⟨_,_,_,_,o,_,_,e,ex,_⟩:=I.hok p _ hk;exact⟨o,e,ex⟩
    clear 5 z o e ex;refine⟨⟨o,e,ex.1⟩,λa e2=>?_⟩
    cases e2
    exact⟨o,e,ex.2.1⟩
   .obtain⟨o,_,_,_,e,ex,_⟩:=I.hok p _ hk;refine⟨⟨o,e,ex.1⟩,λa e2=>?_⟩
    cases e2
    exact⟨o,e,ex.2.1⟩
 |_=>exact False.elim ty
def tBM(K:gd)(T:String)(r:V->List V->Hp->VK->Prop)(to:TE)(t:TA):TE:=λσ H Q=>to σ H λx H1=>tyV K T x H1/\t σ H1 λxs H2=>r x xs H2 Q
variable{o e:Expr}{es:List Expr}{to:TE}{t:TA}{name:Str}{apos cpos:Pos}{T id:String}{r:V->List V->Hp->VK->Prop}
theorem Ms(pa:PlainAttrs T)(slot:Slot T name id)(hty:typeOf (.builtin id)=pure (.type "method_descriptor"))(hm:MtR X id r)(ho:PE X o to)(ha:PA X (e::es) t)
 (hbase:attributeBase o name X.env (eval o X.env)=eval o X.env:=by rfl)
 (hfew:((backTo cpos (starEach (e :: es) X.env)).all (λx=>!x.1) && (backToKw cpos (keywordEach [] X.env)).all (λx=>x.1.isSome)
   && decide ((e::es).length+([]:List Keyword).length+(if ([]:List Keyword).isEmpty then 0 else 1)<30))=true:=by rfl)
 (hline:(apos.endLine==cpos.line)=true:=by rfl) (hs:starEach (e::es) X.env=(false,eval e X.env)::starEach es X.env:=by rfl) (hplain:(backTo cpos (starEach es X.env)).any (·.1)=false:=by rfl) :
 PE X (.Call (.Attribute o name apos) (e::es) [] cpos) (tBM X.K T r to t):=by
 intro ge s σ H Q I h;refine wpAny_Call_method_late hbase hfew hline rfl (thn (ho ge s σ H _ I h) λv s1 z9=>?_);clear 5 z9 x H1 I1 r1 ty q1;clear 5(Z6 I1 r1 ty)h1 h2;refine⟨T,id,pa,slot,hty,h1,h2,?_⟩;have hA:=ha cpos ge s1 σ H1 _ I1 q1;rw[hs] at hA⊢;refine Calls.callWith_builtin (by show(false||(backTo cpos (starEach es X.env)).any (·.1))=false;rw[hplain]<;>rfl) (Calls.evalArgs_plain ?_);exact thn hA λus s2 ⟨vs,H2,I2,r2,q2⟩=>hm ge s2 σ H2 x vs v us Q I2 r1 r2 q2
/- xs.append(e),list.index on a module's tuple .. are MtR facts of 06m -/
end
def MtM(X:Cx)(id:String)(r:V->List V->Hp->VK->Prop):Prop:=
 ∀(ge:List (gg×Obj)) (s:gh) (σ:St) (H:Hp) (x:V) (xs:List V) (v:gf) (us:List gf) (Q:VK),Inv X ge σ H s->RelV x v->Vals xs us->r x xs H Q->
  wpAny (model X.prog X.w) X.A (call (.builtin id) (v::us)) (EP X ge σ Q) X.xe s
theorem Vals.one{x:V}{us:List gf}(h:Vals [x] us):∃u,us=[u]/\RelV x u:=by
 cases h with
 |cons r t=>
   cases t
   exact⟨_,rfl,r⟩
theorem Vals.rep{xs:List V}{us:List gf}(h:Vals xs us):∀k:Nat,Vals (List.replicate k xs).flatten (List.replicate k us).flatten
 |0=>.nil
 |k+1=>by
   rw[ue1,ue1,uf8,uf8];exact Vals.append h (Vals.rep h k)
theorem LZ(its:List gf):∀(k:Nat) (acc:List gf),
 List.foldl (λx1 x2=>x1++x2) acc.toArray (List.replicate k its.toArray)=(acc++(List.replicate k its).flatten).toArray
 |0,acc=>by simp
 |k+1,acc=>by
   have e:acc.toArray++its.toArray=(acc++its).toArray:=by simp
   have e2:(acc++its)++(List.replicate k its).flatten=acc++(List.replicate (k+1) its).flatten:=by
    rw[ue1,uf8,uf9]
   rw[<-e2,<-LZ its k (acc++its),<-e,ue1,ui8]
section
variable{X:Cx}{ge:List (gg×Obj)}{σ:St}{H:Hp}{s:gh}{l b:gg}{xs ys zs:List V}
theorem Inv.lset{its its':List gf}{n:Nat}{f:Array gf->Array gf}{t':Nat}(I:Inv X ge σ H s)(hH:H l=some (.lst xs))
 (e:s.heap.get? l=some {cls:=.type "list",data:=.seq its.toArray n}) (hf:f its.toArray=its'.toArray) (hv:Vals ys its') (hz:ys.length<=sizeLine) :
 Inv X ge σ (upd H l (.lst ys)) {s with heap:=s.heap.update l (Obj.mapSeq f),toks:=t'}:=by
 have q:=PySem.IsL.update e f;rw[hf] at q;refine I.write (x:=l) (e:=l) (by rw[hH];exact trivial) (.inl rfl) (λb' u hb hu=>(uc0 s.heap (Obj.mapSeq f) (Ne.symm hb)).trans hu) ⟨_,q⟩ ?_;exact⟨hz,its',_,hv,q⟩
theorem Inv.lnew{its:List gf}{t':Nat}(I:Inv X ge σ H s)(hv:Vals ys its)(hz:ys.length<=sizeLine) :
 Inv X ge σ (upd H s.heap.objs.size (.lst ys)) {s with heap:=s.heap.push {cls:=.type "list",data:=.seq its.toArray},toks:=t'}:=
 I.laid (λ_ _ q=>ub9 _ q) (um8 _) ⟨hz,its,0,hv,ud9 _ rfl⟩
theorem Inv.fresh(I:Inv X ge σ H s):H s.heap.objs.size=none:=I.hok.fresh (um8 _)
theorem Inv.lstM(I:Inv X ge σ H s)(hH:H l=some (.lst xs)):xs.length<=sizeLine/\∃(its:List gf) (n:Nat),Vals xs its/\xs.length=its.length/\s.heap.get? l=some {cls:=.type "list",data:=.seq its.toArray n}:=by
 clear 5(I.hok l _ hH)z its n r e;exact⟨z,its,n,r,r.length,e⟩
theorem Nz{n:Nat}(h:n<=sizeLine):Builtin.List.listTooLong n=false:=by
 unfold Builtin.List.listTooLong;exact uj8 (by lia)
end
section
variable{X:Cx}
def OX:V->List V->Hp->VK->Prop:=λx vs H Q=>∃l xs y,x=.ref l/\vs=[y]/\H l=some (.lst xs)/\xs.length<sizeLine/\Q .non (upd H l (.lst (xs++[y])))
theorem L4:MtM X "list.append" OX:=by
 intro ge s σ H x vs v us Q I rx rv h;clear 5 h l xs y rfl rfl hH hz q
 cases rx
 clear 5 rv.one u rfl ru;clear 5(I.lstM hH)z its n r hl e;refine kq F.slot_list_append ⟨_,e,rfl⟩ F.entry_list_append (F.args_list_append_2 _ _) (PySem.list_append l its.toArray n u (by rw[uf5];lia)) ⟨e,?_⟩;refine⟨.non,_,I.lset (its':=its++[u]) hH e (by simp) (r.append (.cons ru .nil)) ?_,rfl,q⟩;rw[ue8,uc9];lia
def OY:V->List V->Hp->VK->Prop:=λx vs H Q=>∃l b xs zs,x=.ref l/\vs=[.ref b]/\H l=some (.lst xs)/\H b=some (.lst zs)/\xs.length+zs.length<=sizeLine/\Q .non (upd H l (.lst (xs++zs)))
theorem RC:MtM X "list.extend" OY:=by
 intro ge s σ H x vs v us Q I rx rv h;clear 5 h l b xs zs rfl rfl hH hB hz q
 cases rx
 clear 5 rv.one u rfl ru
 cases ru
 clear 5(I.lstM hH)z its n r hl e;clear 5(I.lstM hB)z2 its2 n2 r2 hl2 e2;have hsz:its.toArray.size+its2.toArray.size<=sizeLine:=by rw[uf5,uf5];lia
 have hlong:¬(!its.toArray.isEmpty&&Builtin.List.listTooLong (its.toArray.size+its2.toArray.size))=true:=by
  rw[Nz hsz,uk1];exact ue6
 refine kq F.slot_list_extend ⟨_,e,rfl⟩ F.entry_list_extend (F.args_list_extend_2 _ _)
  (AutoSeq1.list_extend_list_list_0 l its.toArray n b its2.toArray n2 hlong (by rw[uf5];lia) (by lia)) ⟨e,e2,?_⟩
 refine⟨.non,_,I.lset (its':=its++its2) hH e (by simp) (r.append r2) ?_,rfl,q⟩;rw[ue8];lia
def Uf:R2:=λx y H Q=>∃l b xs zs,x=.ref l/\y=.ref b/\H l=some (.lst xs)/\H b=some (.lst zs)/\xs.length+zs.length<=sizeLine/\∀p,H p=none->Q (.ref p) (upd H p (.lst (xs++zs)))
theorem RQ:OpR X (binaryOp .Add) Uf:=by
 intro ge s σ H x y v u Q I rx ry h;clear 5 h l b xs zs rfl rfl hH hB hz q
 cases rx
 cases ry
 clear 5(I.lstM hH)z its n r hl e;clear 5(I.lstM hB)z2 its2 n2 r2 hl2 e2;refine PySem.P.add_list e e2 ?_ (by rw[uf5,uf5];lia);have ea:its.toArray++its2.toArray=(its++its2).toArray:=by simp
 rw[ea];exact⟨.ref _,_,I.lnew (t':=s.toks) (r.append r2) (by rw[ue8];lia),rfl,q _ I.fresh⟩
def dg:R2:=λx y H Q=>∃l k xs,x=.ref l/\y=.int k/\H l=some (.lst xs)/\-(2 ^ 63)<=k/\k<2 ^ 63/\xs.length*k.toNat<=sizeLine/\
 ∀p,H p=none->Q (.ref p) (upd H p (.lst (List.replicate k.toNat xs).flatten))
theorem VX{α:Type}(xs:List α)(k:Nat):(List.replicate k xs).flatten.length=k*xs.length:=by
 induction k with
 |zero=>simp
 |succ k ih=>rw[ue1,uf8,ue8,ih,Nat.succ_mul,Nat.add_comm]
theorem fe:OpR X (binaryOp .Mult) dg:=by
 intro ge s σ H x y v u Q I rx ry h;clear 5 h l k xs rfl rfl hH h1 h2 hz q
 cases rx
 clear 5 ry t rfl;clear 5(I.lstM hH)z its n r hl e;have hlen:its.toArray.size*k.toNat<=sizeLine:=by rw[uf5,<-hl];exact hz
 have hcap:¬its.toArray.size*k.toNat > (2 ^ 63-1)/8:=by
  have:(sizeLine:Nat)<=(2 ^ 63-1)/8:=by decide
  lia
 have hfit:¬(!Builtin.List.listFitsIndex k)=true:=by
  rw[fitsIndex_both h1 h2];exact ue6
 have hlong:¬Builtin.List.listTooLong (its.toArray.size*k.toNat)=true:=by
  rw[Nz hlen];exact ue6
 have hnew:List.foldl (λx1 x2=>x1++x2) #[] (List.replicate (if its.toArray.isEmpty=true then 0 else k.toNat) its.toArray)=(List.replicate k.toNat its).flatten.toArray:=by
  have f0:∀m:Nat,List.foldl (λx1 x2=>x1++x2) #[] (List.replicate m its.toArray)=(List.replicate m its).flatten.toArray:=λm=>by
   have:=LZ its m [];rw[ui9] at this;exact this
  rw[f0]
  cases its with
  |nil=>simp
  |cons a r'=>rw[kS (by simp)]
 refine wpAny_binaryOp_repeat_ref (T:="list") (U:="int") (by decide) ⟨_,e,rfl⟩ (λs'=>kn s' k t) noFill_list_mul F.fills_int_mul F.slot_int_rmul repeat_list F.slot_int_index.lookup
  (kq F.slot_int_rmul (kn s k t) F.entry_int_rmul (F.args_int_rmul_2 _ _) (int___rmul___int_list k t l its.toArray n)
    ⟨e,rfl,⟨_,e,rfl⟩,kq F.slot_list_mul ⟨_,e,rfl⟩ F.entry_list_mul (F.args_list_mul_2 _ _) (AutoListH.list___mul___list_int_3 l its.toArray n k t hfit hcap hlong) ⟨e,?_⟩⟩)
 rw[hnew];exact⟨.ref _,_,I.lnew (t':=s.toks) (r.rep k.toNat) (by rw[VX,kf];exact hz),rfl,q _ I.fresh⟩
end
section
variable{prog:gi}{w:gj}{A:Around}{E:gf->gh->Prop}{s:gh}
end
section
variable{X:Cx}
end
end L2
namespace Att
open PySem PySem.W PySem.Calls PyProof.Rows
theorem Ky{P:Params}{h:Heap}:∀(ns:List Int) (vs:List gf),WellAll P h vs (ns.map WData.int)->IntsAre vs ns:=by
 intro ns
 induction ns with
 |nil=>
   intro vs w;rw[um1] at w
   cases w
   exact .nil
 |cons n ns ih=>
   intro vs w;rw[uk6] at w
   cases w with
   |cons a b=>
     cases a
     exact .cons _ _ (ih _ b)
theorem Sf{l:OpenLaw}{n:Nat}(hn:l.most=some n){P:Params}{h:Heap}{args:List WData}{vals:List gf}
 (hpre:l.row.toRowW.claim.pre args=true) (hwl:WellAll P h vals args) :
 ∃a vs ns,vals=[Value.ref a]/\args=[WData.list (ns.map WData.int)]/\h.get? a=some {cls:=.type "list",data:=.seq vs.toArray}/\IntsAre vs ns/\ns.length<=n:=by
 have hsh:WShape.hasAll [] args [.list .int]=true:=(pre_splitW hpre).1;have hc:l.pre.holds [] {args:=args}=true:=(pre_splitW hpre).2;clear 5(hasAllW_cons hsh)d r rfl h1 h2;obtain rfl:=hasAllW_nil h2;clear 5(hasW_list h1)xs rfl h3;clear 5(items_int h3)ns rfl;have hlen:ns.length<=n:=by
  unfold OpenLaw.pre at hc;have h4:(WTm.not (.lt (.lit (.int (n:Int))) (.len (.arg 0)))).holds [] {args:=[.list (ns.map .int)]}=true:=by
   have h4:=(holds_andW hc).1;rw[hn] at h4;exact h4
  have h5:=condW_of h4 (w_not (w_lt w_lit (w_len_list (w_arg rfl))));rw[ui3] at h5;refine Nat.le_of_not_lt λq=>?_;have q':(n:Int)<((ns.length:Nat):Int):=by lia
  first
   |(rw[uk3 q'] at h5;exact absurd h5 (by decide))
   |(simp at h5;lia)
 cases hwl with
 |cons w1 w2=>
   cases w2
   cases w1 with
   |list ho hall=>exact⟨_,_,ns,rfl,rfl,ho,Ky ns _ hall,hlen⟩
theorem R5(l:OpenLaw)(args:List WData):l.row.toRowW.claim.post args (.bool true) args=true:=
 postW_of (r:=l.row.toRowW) (X:=(true==true))
  (show WShape.has [] (.bool true) .bool=true by first|rfl|decide|simp[WShape.has,WShape.arms,WShape.armsAll])
  (show(WTm.eq .res (.lit (.bool true))).value [] {args:=args,res:=some (.bool true),after:=args}=some (.bool (true==true)) from w_eq_bool (w_res rfl) w_lit) rfl
theorem attach_call{l:OpenLaw}{n:Nat}{q:gi}{loose:List Str}{XP:(Str->Option gf)->Heap->Prop}{YP:gj->Heap->Prop}{d:DefRec}
 (hn:l.most=some n) (hdf:d.params.defaults=[])
 (call:∀(w:gj) (s₀ s₁:gh) (mg mb:Str->Option gf) (fa:gg) (o:Obj) (pm cd doc:gf) (a:gg) (vs:List gf) (ns:List Int),
   Ground q loose [] XP w s₀ mg mb s₁.heap->YP w s₁.heap->
   s₁.heap.get? fa=some o->o.data=.func (docDef d.name d.params d.body d.scope pm cd doc)->s₁.heap.CodeRec cd d.name->mg d.name=some (.ref fa)->
   s₁.heap.get? a=some {cls:=.type "list",data:=.seq vs.toArray}->IntsAre vs ns->ns.length<=n->s₁.gens=#[]->
   codeAny (model l.prog w) callerA (.call (.ref fa) ⟨[.ref a],[]⟩) (λr s'=>r=.ok (.ret (.bool true))/\OldK s₁.heap s'.heap/\s'.os=s₁.os/\AllBare s'.gens) s₁) :
 WalkO q loose XP YP l.row.toRowW d [] (λf vs=>PySem.call f vs):=by
 intro w s₀ s₁ mg mb G Y fa o pm cd doc dV kV ho hd hcd hD hmg hg args vals as hpre hlay hrd hwl hlo;obtain rfl:dV=.none:=Dflts.none hD hdf;obtain rfl:kV=.none:=Dflts.noKw hD;clear 5(Sf hn hpre hwl)a vs ns rfl rfl hobj hints hlen;refine enter_call (ke (call w s₀ s₁ mg mb fa o pm cd doc a vs ns G Y ho (fd_plain hd) hcd hmg hobj hints hlen hg) λr s' hq=>?_);clear 5 hq rfl h2 h3 h4;exact⟨.inl ⟨.bool true,.bool true,[],rfl,λ_=>rfl,.bool true,R5 l _,λ_=>⟨List.Pairwise.nil,λ_ hm=>(nomatch hm)⟩⟩,h2,h3,h4⟩
section
variable{prog:gi}{w:gj}{A:Around}{E:gf->gh->Prop}{s:gh}{K:Frag}
noncomputable def fc(h:Heap)(L d:gg):List (gg×Obj):=(List.range h.objs.size).filterMap λa=>if a=L\/a=d then none else(h.get? a).map λo=>(a,o)
end
end Att
namespace L2
open PySem PySem.Spec PyProof.Rows
theorem Mb:∀{vs:List gf}{ns:List Int},IntsAre vs ns->Vals (ns.map V.int) vs
 |_,_,.nil=>.nil
 |_,_,.cons n t h=>.cons ⟨t,rfl⟩ (Mb h)
def Ph(H:Hp):Prop:=∀b,H b=none\/∃o xs,H b=some (.frz o (.lst xs))
section
variable{P:gi}{w:gj}{fd:gk}
theorem TH{K:gd}{mg mb:Str->Option gf}{CX:CXT}{k:Nat}{fa a:gg}{x:Str}{sp:Sp}{s₁:gh}{vs:List gf}{ns:List Int}
 (KX:K.In s₁.heap) (hns:s₁.heap.Ns mainGlobals mg) (hb:s₁.heap.Ns builtinsNs mb) (hbb:∀x:Str,x≠"__name__"->mb x=bootBuiltins x) (hlim:s₁.heap.NoLimit) (hg:s₁.gens=#[])
 (ha:s₁.heap.get? a=some {cls:=.type "list",data:=.seq vs.toArray}) (hi:IntsAre vs ns) (hl:ns.length<=sizeLine) (hr:Room k callerA)
 (F:∀base:Heap,K.In base->base.Ns mainGlobals mg->FnOk P w K mg base CX k fa fd [x] sp) (hbind:∀(s:gh) (u:gf),BindsTo s fd ⟨[u],[]⟩ [(x,u)])
 (hsp:∀H:Hp,Ph H->SqL K H a (ns.map V.int)->sp [.ref a] H (λv _=>v=.bl true) λ_ _ _=>False)
 (hCX:∀H e s',CX [] H s₁ (λ_ _ _=>False) e s'->False) :
 codeAny (model P w) callerA (.call (.ref fa) ⟨[.ref a],[]⟩) (λr s'=>r=.ok (.ret (.bool true))/\OldK s₁.heap s'.heap/\s'.os=s₁.os/\AllBare s'.gens) s₁:=by
 have rv:=Mb hi;have lenV:=hi.length
 -- from an abstract heap in which nothing but the script may be tracked
 have core:∀H:Hp,Ph H->SqL K H a (ns.map V.int)->HOk P w H s₁.heap->(∀b,H b≠none->b=a)->(H a≠none->K.lookup a=none)->
  codeAny (model P w) callerA (.call (.ref fa) ⟨[.ref a],[]⟩) (λr s'=>r=.ok (.ret (.bool true))/\OldK s₁.heap s'.heap/\s'.os=s₁.os/\AllBare s'.gens) s₁:=by
  intro H hO hS hok hA hK;have base_of:∀{b:gg}{o:Obj},s₁.heap.get? b=some o->H b=none->(Hw s₁.heap H).get? b=some o:=λe n=>TB e n;have noA:∀{b:gg}{o:Obj}{es:Array DictEntry}{ep:Nat},s₁.heap.get? b=some o->o.data=.dict es ep->H b=none:=λ{b o es ep} e d=>by
   cases q:H b with
   |none=>rfl
   |some u=>
     have e':b=a:=hA b (by rw[q];simp);subst e';rw[ha] at e;cases e
     have d':Data.seq vs.toArray _=Data.dict es ep:=d
     cases d'
  have nsK:∀{b:gg}{m:Str->Option gf},s₁.heap.Ns b m->(Hw s₁.heap H).Ns b m:=λ{b m} ⟨o,es,ep,e,d,r⟩=>⟨o,es,ep,base_of e (noA e d),d,r⟩;have hKb:K.In (Hw s₁.heap H):=λb o e=>base_of (KX b o e) (by
   cases q:H b with
   |none=>rfl
   |some u=>
     have e':b=a:=hA b (by rw[q];simp);subst e';rw[hK (by rw[q];simp)] at e;cases e)
  have hM:Mod K mg (Hw s₁.heap H):=⟨hKb,nsK hns,⟨mb,nsK hb,hbb⟩,let ⟨mc,h1,h2⟩:=hlim;⟨mc,nsK h1,h2⟩⟩;have e0:Env0 P w K mg (Hw s₁.heap H) callerA [] s₁ H:=⟨rfl,hM,λb o e=>V8 e,kc (Ra _ _),trivial,λb hb=>absurd (show b∈([]:List gg) from hb) (by simp),hok,.of_eq hg⟩;refine ke ((F _ hKb (nsK hns)).run callerA [] s₁ H ⟨[.ref a],[]⟩ [.ref a] [.ref a] _ _ hr e0 (hbind s₁ (.ref a)) (.cons rfl .nil) (hsp H hO hS)) λr s' h=>?_
  cases r with
  |error e=>exact(hCX H e s' h).elim
  |ok fl=>
    cases fl with
    |next=>exact False.elim h
    |brk=>exact False.elim h
    |cont=>exact False.elim h
    |ret u=>
      clear 5 h v H' os bare un hok' r' q;have q':v=.bl true:=q;subst q';obtain rfl:u=Value.bool true:=r';refine⟨rfl,OldK.of_keep λb o e=>?_,os,bare⟩
      cases q:H b with
      |none=>exact un.keep b o e q (by intro z;exact absurd (show b∈([]:List gg) from z) (by simp)) (by simp)
      |some u=>
        rcases hO b with z|⟨ob,xs,z⟩
        .rw[q] at z;cases z
        .have z2:=un.frzs b ob _ z;obtain⟨e1,_⟩:=hok b _ z;obtain⟨e2,_⟩:=hok' b _ z2;rw[e] at e1;cases e1
         exact e2
 cases hk:K.lookup a with
 |some o=>
   -- the script is one of the module's own objects
   have e:=KX a o hk;rw[ha] at e
   cases e
   refine core (λ_=>none) (λ_=>.inl rfl) (.inr ⟨_,vs.toArray,_,hk,rfl,rfl,rfl,by rw[uf5,lenV];exact hl,by simpa using rv⟩) (λb u z=>by have z':(none:Option HO)=some u:=z;cases z') (λb z=>absurd rfl z) λz=>absurd rfl z
 |none=>
   refine core (λb=>if b=a then some (.frz {cls:=.type "list",data:=.seq vs.toArray} (.lst (ns.map V.int))) else none) (λb=>?_) (.inl (.inr ⟨{cls:=.type "list",data:=.seq vs.toArray},kQ rfl⟩)) (λb u z=>?_) (λb z=>?_) λ_=>hk
   .by_cases hb:b=a
    .exact .inr ⟨_,_,kQ hb⟩
    .exact .inl (kS hb)
   .by_cases hb:b=a
    .have z':=(kQ hb).symm.trans z
     cases z'
     subst hb;exact⟨ha,by rw[ui3];exact hl,vs,_,rv,ha⟩
    .have z':=(kS hb).symm.trans z
     cases z'
   .by_cases hb:b=a
    .exact hb
    .exact absurd (kS hb) z
theorem Xp{l:PySem.W.OpenLaw}{n k:Nat}{q:gi}{loose:List Str}{XP:(Str->Option gf)->Heap->Prop}{YP:gj->Heap->Prop}{d:DefRec}{K:Params->gd}{CX:gj->CXT}{sp:gj->Sp}{x:Str}
 (hn:l.most=some n) (hn2:n<=sizeLine) (hdf:d.params.defaults=[]) (hr:Room k callerA)
 (hY:∀(w:gj) (h:Heap),YP w h->(K w.params).In h)
 (F:∀(w:gj) (mg:Str->Option gf) (fa:gg) (h:Heap),(K w.params).In h->h.Ns mainGlobals mg->mg d.name=some (.ref fa)->
   ∃fd:gk,(∀(s:gh) (u:gf),BindsTo s fd ⟨[u],[]⟩ [(x,u)])/\
    ∀base:Heap,(K w.params).In base->base.Ns mainGlobals mg->FnOk l.prog w (K w.params) mg base (CX w) k fa fd [x] (sp w))
 (hsp:∀(w:gj) (H:Hp) (a:gg) (ns:List Int),ns.length<=n->Ph H->SqL (K w.params) H a (ns.map V.int)->sp w [.ref a] H (λv _=>v=.bl true) λ_ _ _=>False)
 (hCX:∀(w:gj) (H:Hp) (s:gh) (e:gf) (s':gh),CX w [] H s (λ_ _ _=>False) e s'->False) :
 PySem.W.WalkO q loose XP YP l.row.toRowW d [] (λf vs=>PySem.call f vs):=by
 refine Att.attach_call hn hdf λw s₀ s₁ mg mb fa o pm cd doc a vs ns G Y ho hd hcd hmg hobj hints hlen hg=>?_;have KX:=hY w _ Y;clear 5(F w mg fa _ KX G.T.g hmg)fd hb hF;exact TH KX G.T.g G.T.b G.T.builtins G.T.nolimit hg hobj hints (ul9 hlen hn2) hr hF hb (λH hO hS=>hsp w H a ns hlen hO hS) λH e s'=>hCX w H s₁ e s'
noncomputable def G6(s:Stmt):Arguments:=match s with
 |.FunctionDef _ a _ _ _ _ _ _ _ _=>a
 |_=>{posonlyargs:=[],args:=[],vararg:=none,kwonlyargs:=[],kw_defaults:=[],kwarg:=none,defaults:=[]}
noncomputable def Dd(s:Stmt):List Stmt:=match s with
 |.FunctionDef _ _ b _ _ _ _ _ _ _=>b
 |_=>[]
noncomputable def AR(s:Stmt):Scope:=match s with
 |.FunctionDef _ _ _ _ _ _ sc _ _ _=>sc
 |_=>{kind:=.function,names:=[],isGenerator:=false,isCoroutine:=false}
abbrev CX0:CXT:=λ_ _ _ _ _ _=>False
abbrev E0:XK:=λ_ _ _=>False
variable{X:Cx}
theorem Jm:F4 CX0 X E0:=λ_ _ _ _ _ _ _ h=>h.elim
structure Fun(K:gd)(x qual:Str)(st:Stmt)(f:gg)(fd:gk):Prop where
 ex:∃(oc:gf) (od:Option gg) (kV doc pm:gf) (an:Option gg) (cdv ct:gf) (osl:Array (Option gf)),
  fd=PySem.W.fnOf x qual (G6 st) (Dd st) (AR st) .none kV doc pm an cdv ct/\K.lookup f=some ⟨oc,od,.func fd,osl⟩/\codeIn K cdv qual=true
 kp:PySem.W.keepIn K (.ref f)=true
variable{qual:Str}{f:gg}
section
variable{P:gi}{w:gj}{K:gd}{mg:Str->Option gf}{base:Heap}
theorem Fun.ok{x:Str}{st:Stmt}{N ps:List Str}{k:Nat}{sp:Sp}(F:Fun K x qual st f fd)(S:FnScope N ps (AR st))(len:∀vs H Q E,sp vs H Q E->vs.length=ps.length)
 (hbody:∀(cdv:gf) (A:Around) (outer:List Env) (s:gh) (H:Hp) (vs:List V) (Q:VK) (E:XK),Room k (A.deeper (envOfC qual (AR st) s.heap.objs.size f cdv))->sp vs H Q E->
   ∃t,PSs (Fc CX0 P w K mg base N qual (AR st) f cdv A outer s H E).nox (Dd st) t/\t {nx:=λ_ H'=>Q .non H',rt:=Q} (start N vs) H):FnOk P w K mg base CX0 (k+1) f fd ps sp:=by
 clear 5 F.ex oc od kV doc pm an cdv ct osl rfl lk hcd;refine UV lk hcd S len λA outer s H vs Q E hr hsp=>?_;clear 5(hbody cdv A outer s H vs Q E hr hsp)t h q;exact⟨t,h.nox,q⟩
theorem Fun.binds{x:Str}{st:Stmt}{ps:List Str}(F:Fun K x qual st f fd)
 (h:∀(kV doc pm:gf) (an:Option gg) (cdv ct:gf) (us:List gf),us.length=ps.length->bindArgs (PySem.W.fnOf x qual (G6 st) (Dd st) (AR st) .none kV doc pm an cdv ct) ⟨us,[]⟩=pure (ps.zip us)):Binds K fd ps []:=by
 clear 5 F.ex oc od kV doc pm an cdv ct osl rfl lk hcd;exact .all (h kV doc pm an cdv ct)
theorem Ku{x:Str}{st:Stmt}{oc:gf}{od an:Option gg}{osl:Array (Option gf)}{kV doc pm cdv ct:gf}(l:K.lookup f=some ⟨oc,od,.func (PySem.W.fnOf x qual (G6 st) (Dd st) (AR st) .none kV doc pm an cdv ct),osl⟩)
 (c:codeIn K cdv qual=true) (k:PySem.W.keepIn K (.ref f)=true):Fun K x qual st f (PySem.W.fnOf x qual (G6 st) (Dd st) (AR st) .none kV doc pm an cdv ct):=⟨⟨oc,od,kV,doc,pm,an,cdv,ct,osl,rfl,l,c⟩,k⟩
end
section
variable{X:Cx}
end
def fA(H H':Hp):Prop:=∀b o,H b=some o->H' b=some o
section
variable{κ:Type}[DecidableEq κ]
noncomputable def Em(kvs:List (κ×V))(k:κ):Option V:=(kvs.find? λkv=>decide (kv.1=k)).map (·.2)
noncomputable def Ej(kvs:List (κ×V))(k:κ)(v:V):List (κ×V):=
 if (kvs.any λkv=>decide (kv.1=k))=true then kvs.map (λkv=>if kv.1=k then(kv.1,v) else kv) else kvs++[(k,v)]
theorem HM{p:κ×V}{r:List (κ×V)}{k:κ}(e:p.1=k):Em (p::r) k=some p.2:=by simp[Em,uj0,e]
theorem HL{p:κ×V}{r:List (κ×V)}{k:κ}(e:¬p.1=k):Em (p::r) k=Em r k:=by simp[Em,uj0,e]
theorem JA(kvs:List (κ×V))(k:κ)(v:V):(Ej kvs k v).length<=kvs.length+1:=by
 unfold Ej
 split
 .rw[ui3];lia
 .rw[ue8,ug6,uj1];lia
theorem RelO.isSome_eq{o:Option V}{u:Option gf}(r:RelO o u):o.isSome=u.isSome:=by
 cases o with
 |none=>cases u with
   |none=>rfl
   |some _=>exact(show False from r).elim
 |some _=>cases u with
   |none=>exact(show False from r).elim
   |some _=>rfl
theorem KV.val{kvs:List (κ×V)}{vs:List (κ×gf)}(r:KV kvs vs)(k:κ):RelO (Em kvs k) (valueAt vs k):=by
 unfold KV at r
 induction r with
 |nil=>exact True.intro
 |@cons p q ps qs h t ih=>
   clear 5 h h1 h2
   by_cases e:p.1=k
   .have e':q.1=k:=h1.symm.trans e;have b:valueAt (q::qs) k=some q.2:=by simp[valueAt,uj0,e']
    rw[HM e,b];exact h2
   .have e':¬q.1=k:=λz=>e (h1.trans z);have b:valueAt (q::qs) k=valueAt qs k:=by simp[valueAt,uj0,e']
    rw[HL e,b];exact ih
theorem KV.any{kvs:List (κ×V)}{vs:List (κ×gf)}(r:KV kvs vs)(k:κ):(kvs.any λkv=>decide (kv.1=k))=vs.any λkv=>decide (kv.1=k):=by
 unfold KV at r
 induction r with
 |nil=>rfl
 |cons h t ih=>rw[uk9,uk9,ih,h.1]
theorem KV.repl{kvs:List (κ×V)}{vs:List (κ×gf)}(r:KV kvs vs)(k:κ){y:V}{u:gf}(ry:RelV y u) :
 KV (kvs.map λkv=>if kv.1=k then(kv.1,y) else kv) (vs.map λkv=>if kv.1=k then(kv.1,u) else kv):=by
 unfold KV at r⊢
 induction r with
 |nil=>exact .nil
 |@cons p q ps qs h t ih=>
   rw[uk6,uk6];refine .cons ?_ ih;clear 5 h h1 h2
   by_cases e:p.1=k
   .rw[kQ e,kQ (h1.symm.trans e)];exact⟨h1,ry⟩
   .rw[kS e,kS (λz=>e (h1.trans z))];exact⟨h1,h2⟩
theorem KV.put{kvs:List (κ×V)}{vs:List (κ×gf)}(r:KV kvs vs)(k:κ){y:V}{u:gf}(ry:RelV y u):KV (Ej kvs k y) (stored vs k u):=by
 unfold Ej stored;rw[r.any k]
 by_cases e:(vs.any λkv=>decide (kv.1=k))=true
 .rw[kQ e,kQ e];exact r.repl k ry
 .rw[kS e,kS e];exact Paired.snoc r ⟨rfl,ry⟩
theorem KV.length{kvs:List (κ×V)}{vs:List (κ×gf)}(r:KV kvs vs):kvs.length=vs.length:=Paired.length r
end
theorem Kz{k:Key}{u:gf}(r:RelV (kV k) u):(Ca P w).is k u=true:=by
 cases k with
 |inl i=>clear 5((show ∃t,u=Value.int i t from r))t e;subst e;exact Od P w i t
 |inr x=>clear 5((show ∃t,u=Value.str x t from r))t e;subst e;exact Oe P w x t
theorem L1{P:gi}{w:gj}:∀{ks:List Key}{us:List gf},Vals (ks.map kV) us->ItemsAre (Ca P w) ks us
 |[],_,r=>by rw[um1] at r;cases r;exact .nil
 |k::ks,_,r=>by
   rw[uk6] at r
   cases r with
   |cons h t=>exact .cons (Kz h) (L1 t)
abbrev KT(H:Hp):List (List Key×V)->List (List Key×gg×gf)->Prop:=Paired λp q=>p.1=q.1/\H q.2.1=some (.tup (p.1.map kV))/\RelV p.2 q.2.2
variable{H:Hp}
theorem KT.val{kvs:List (List Key×V)}{xs:List (List Key×gg×gf)}(r:KT H kvs xs)(k:List Key):RelO (Em kvs k) ((atKey xs k).map (·.2)):=by
 induction r with
 |nil=>exact True.intro
 |@cons p q ps qs h t ih=>
   obtain⟨h1,_,h2⟩:=h
   by_cases e:p.1=k
   .have e':q.1=k:=h1.symm.trans e;have b:atKey (q::qs) k=some q.2:=by simp[atKey,uj0,e']
    rw[HM e,b];exact h2
   .have e':¬q.1=k:=λz=>e (h1.trans z);have b:atKey (q::qs) k=atKey qs k:=by simp[atKey,uj0,e']
    rw[HL e,b];exact ih
variable{kvs:List (Key×V)}
section
variable{P:gi}{w:gj}{H:Hp}{h:Heap}{a:gg}
theorem U5{u:HO}(ok:HOk P w H h)(e:Rd H a u):ObjOk P w H h a u:=e.ok ok
theorem US(ok:HOk P w H h)(e:Rd H a (.dK kvs)):kvs.length<=sizeLine/\(a==sysModules)=false/\∃vs,KV kvs vs/\h.DictOf (Ca P w) a vs:=
 show ObjOk P w H h a (.dK kvs) from U5 ok e
theorem Mp(ok:HOk P w H h)(e:H a=some (.dK kvs)):kvs.length<=sizeLine/\(a==sysModules)=false/\∃vs,KV kvs vs/\h.DictOf (Ca P w) a vs:=US ok (.inl e)
theorem Rp{ks:List Key}(ok:HOk P w H h)(e:H a=some (.tup (ks.map kV))):(tupleKind (Ca P w)).is h ks a:=by
 obtain⟨_,its,r,o,h1,h2,n,h3⟩:=(show ObjOk P w H h a (.tup (ks.map kV)) from ok a _ e);exact⟨o,its.toArray,n,h1,h2,h3,by simpa using L1 r⟩
theorem aB{kvs:List (List Key×V)}(ok:HOk P w H h)(e:Rd H a (.dT kvs)):kvs.length<=sizeLine/\(a==sysModules)=false/\
 ∃xs,KT H kvs xs/\h.DictOfH (tupleKind (Ca P w)) a xs:=by
 clear 5((show ObjOk P w H h a (.dT kvs) from U5 ok e))z y xs r o es ep h1 h2 h3 h4 h5;refine⟨z,y,xs,r,o,es,ep,h1,h2,h3,h4,λx hx=>?_,h5⟩;have all:∀{l:List (List Key×V)}{m:List (List Key×gg×gf)},KT H l m->∀x∈m,(tupleKind (Ca P w)).is h x.1 x.2.1:=by
  intro l m q
  induction q with
  |nil=>intro x hx;exact nomatch hx
  |@cons p q ps qs hq t ih=>
    intro x hx;rcases uk5.mp hx with e|hx
    .subst e;exact Rp ok (by rw[<-hq.1];exact hq.2.1)
    .exact ih x hx
 exact all r x hx
end
def DGet(H:Hp)(a:gg)(y:V)(r:Option V):Prop:=
 (∃kvs k,Rd H a (.dK kvs)/\y=kV k/\r=Em kvs k)\/∃kvs k b,Rd H a (.dT kvs)/\y=.ref b/\H b=some (.tup (k.map kV))/\r=Em kvs k
def fv(H:Hp)(a:gg)(y v:V)(H':Hp):Prop:=
 (∃kvs k,H a=some (.dK kvs)/\y=kV k/\kvs.length<sizeLine/\H'=upd H a (.dK (Ej kvs k v)))\/
 ∃kvs k b,H a=some (.dT kvs)/\y=.ref b/\H b=some (.tup (k.map kV))/\kvs.length<sizeLine/\H'=upd H a (.dT (Ej kvs k v))
theorem DGet.k{a:gg}{k:Key}(e:H a=some (.dK kvs)):DGet H a (kV k) (Em kvs k):=.inl ⟨kvs,k,.inl e,rfl,rfl⟩
section
variable{X:Cx}{ge:List (gg×Obj)}{σ:St}{H:Hp}{s:gh}{a:gg}{y v:V}{u r:gf}{o:Option V}{A:Around}{E:gf->gh->Prop}
theorem Inv.big(I:Inv X ge σ H s):sysModules<s.heap.objs.size:=by
 have h:mainGlobals<s.heap.objs.size:=(I.mod.glob.keeps I.bk).lt;exact Nat.lt_trans (by decide) h
theorem cM{Q:gf->gh->Prop}(hu:A.units+1<cLine)(I:Inv X ge σ H s)(g:DGet H a y o)(ry:RelV y u)(h:∀s',Inv X ge σ H s'->Q (.bool o.isSome) s') :
 wpAny (model X.prog X.w) A (compareOp .In u (.ref a)) Q E s:=by
 rcases g with⟨kvs,k,e,ey,l⟩|⟨kvs,k,b,e,ey,eb,l⟩
 .subst ey;clear 5(US I.hok e)z hd vs rel dd;refine wpAny_in_of (Kz ry) hd dd.mapOf ?_;rw[<-(rel.val k).isSome_eq,<-l];exact h _ (I.tok _)
 .subst ey
  cases (show u=Value.ref b from ry)
  clear 5(aB I.hok e)z hd xs rel dd;refine wpAny_in_heap (tupleKind_room_in1 hu) (Rp I.hok eb) hd dd ?_;have q:=(rel.val k).isSome_eq;rw[Option.isSome_map] at q;rw[<-q,<-l];exact h _ (I.tok _)
theorem Ou{h':Heap}{t':Nat}{ob:HO}(I:Inv X ge σ H s)(mu:Mut (H a))(hs:Heap.SameBut a s.heap h')(he:∃q,h'.get? a=some q)(new:ObjOk X.prog X.w (upd H a ob) h' a ob) :
 Inv X ge σ (upd H a ob) {s with heap:=h',toks:=t'}:=
 I.write (x:=a) (e:=a) mu (.inl rfl) (λb q hb z=>(hs.2 b hb).trans z) he new
theorem M5{H':Hp}{h':Heap}{vs:List (Key×gf)}(z:kvs.length<=sizeLine)(hd:(a==sysModules)=false)(rel:KV kvs vs)(dd:h'.DictOf (Ca P w) a vs) :
 ObjOk P w H' h' a (.dK kvs):=⟨z,hd,vs,rel,dd⟩
end
section
variable{X:Cx}{ge:List (gg×Obj)}{σ:St}{H:Hp}{s:gh}{a:gg}{kvs:List (Key×V)}{k:Key}{u:gf}{A:Around}{E:gf->gh->Prop}
end
section
variable{X:Cx}{o i e value:Expr}{pos pos' tpos:Pos}{td ty tv:TE}
end
theorem M4(h:Heap)(hb:sysModules<h.objs.size):ObjOk P w H (h.push {cls:=.type "dict",data:=.dict #[]}) h.objs.size (.dK []):=
 ⟨um9 _,ir.mpr (Ne.symm (ul8 hb)),[],.nil,Heap.DictOf.new h⟩
def Z2:TE:=λ_ H Q=>∀p,H p=none->Q (.ref p) (upd H p (.dK []))
section
variable{X:Cx}{pos:Pos}
theorem T3:PE X (.Dict [] [] pos) Z2:=λge s σ H Q I h=>
 wpAny_Dict_empty ⟨.ref s.heap.objs.size,_,I.laid (a:=s.heap.objs.size) (o:=.dK []) (t':=s.toks) (λ_ _ q=>ub9 _ q) (um8 _) (M4 s.heap I.big),rfl,h _ (I.hok.fresh (um8 _))⟩
end
def KP:List (TE×TE)->St->Hp->(List (V×V)->Hp->Prop)->Prop
 |[],_,H,Q=>Q [] H
 |(tk,tv)::r,σ,H,Q=>tk σ H λx H1=>tv σ H1 λy H2=>KP r σ H2 λps H3=>Q ((x,y)::ps) H3
abbrev VV:List (V×V)->List (gf×gf)->Prop:=Paired λp q=>RelV p.1 q.1/\RelV p.2 q.2
def PPs(X:Cx)(pos:Pos)(keys:List (Option Expr))(values:List Expr)(trs:List (TE×TE)):Prop:=
 ∀(ge:List (gg×Obj)) (s:gh) (σ:St) (H:Hp) (Q:List (V×V)->Hp->Prop),Inv X ge σ H s->KP trs σ H Q->
  wpAny (model X.prog X.w) X.A (evalPairs (pairTrees keys values X.env pos)) (λvs s'=>∃ps H',Inv X ge σ H' s'/\VV ps vs/\Q ps H') X.xe s
theorem Wv{pos:Pos}:PPs X pos [] [] []:=λge s σ H Q I h=>pairTrees_nil_walk ⟨[],H,I,.nil,h⟩
theorem T9{pos:Pos}{k v:Expr}{ks:List (Option Expr)}{vs:List Expr}{tk tv:TE}{trs:List (TE×TE)}(hk:PE X k tk)(hv:PE X v tv)(hr:PPs X pos ks vs trs) :
 PPs X pos (some k::ks) (v::vs) ((tk,tv)::trs):=λge s σ H Q I h=>
 pairTrees_cons_walk (thn (hk ge s σ H _ I h) λu s1 ⟨x,H1,I1,rx,q1⟩=>thn (hv ge s1 σ H1 _ I1 q1) λw2 s2 ⟨y,H2,I2,ry,q2⟩=>
  thn (hr ge s2 σ H2 _ I2 q2) λws s3 ⟨ps,H3,I3,rel,q3⟩=>⟨(x,y)::ps,H3,I3,.cons ⟨rx,ry⟩ rel,q3⟩)
def Gq(kvs more:List (Key×V)):List (Key×V):=more.foldl (λacc kv=>Ej acc kv.1 kv.2) kvs
theorem KV.merge:∀{more:List (Key×V)}{rs:List (Key×gf)}{kvs:List (Key×V)}{vs:List (Key×gf)},KV more rs->KV kvs vs->KV (Gq kvs more) (merged vs rs):=by
 intro more rs kvs vs r;unfold KV at r
 induction r generalizing kvs vs with
 |nil=>intro q;exact q
 |@cons p q ps qs h t ih=>
   intro r0;have e:KV (Ej kvs p.1 p.2) (stored vs q.1 q.2):=by
    have:=r0.put p.1 h.2;rw[<-h.1];exact this
   exact ih e
theorem HW:∀(more kvs:List (Key×V)),(Gq kvs more).length<=kvs.length+more.length
 |[],kvs=>by show kvs.length<=kvs.length+0;lia
 |p::r,kvs=>by
   have h1:=HW r (Ej kvs p.1 p.2);have h2:=JA kvs p.1 p.2;show(Gq (Ej kvs p.1 p.2) r).length<=_;rw[ug6];lia
theorem Kl{P:gi}{w:gj}:∀{kvs:List (Key×V)}{ws:List (gf×gf)},VV (kvs.map λkv=>(kV kv.1,kv.2)) ws->∃rs,Carries (Ca P w) ws rs/\KV kvs rs
 |[],_,r=>by rw[um1] at r;cases r;exact⟨[],True.intro,.nil⟩
 |p::kvs,_,r=>by
   rw[uk6] at r
   cases r with
   |@cons a b as bs h t=>
     clear 5(Kl (P:=P) (w:=w) t)rs c q;clear 5 b b1 b2;exact⟨(p.1,b2)::rs,⟨Kz h.1,rfl,c⟩,.cons ⟨rfl,h.2⟩ q⟩
def bp(trs:List (TE×TE)):TE:=λσ H Q=>∀p,H p=none->KP trs σ (upd H p (.dK [])) λps H2=>H2 p=some (.dK [])/\∃kvs:List (Key×V),ps=kvs.map (λkv=>(kV kv.1,kv.2))/\kvs.length<=15/\Q (.ref p) (upd H2 p (.dK (Gq [] kvs)))
theorem Wk{pos:Pos}{keys:List (Option Expr)}{values:List Expr}{trs:List (TE×TE)}(h:PPs X pos keys values trs)(hall:keys.all (·.isSome)=true)(hl:keys.length=values.length)(h0:keys≠[])
 (h15:keys.length<=15):PE X (.Dict keys values pos) (bp trs):=by
 intro ge s σ H Q I q;have hn:=I.hok.fresh (um8 s.heap.objs.size);have I1:=I.laid (a:=s.heap.objs.size) (o:=.dK []) (h':=s.heap.push {cls:=.type "dict",data:=.dict #[]}) (t':=s.toks) (λ_ _ q=>ub9 _ q) (um8 _) (M4 s.heap I.big);refine wpAny_Dict_walk (knd:=Ca X.prog X.w) hall hl h0 h15 (thn (h ge _ σ _ _ I1 (q _ hn)) λws s2 z9=>?_);clear 5 z9 ps H2 I2 rel e kvs ep lk q2;subst ep;clear 5(Kl (P:=X.prog) (w:=X.w) rel)rs c rk;clear 5(Mp I2.hok e)z hd vs0 r0 dd
 cases r0
 refine⟨rs,c,dd,λh' dd' hs=>⟨.ref s.heap.objs.size,_,?_,rfl,q2⟩⟩;have hz:(Gq [] kvs).length<=sizeLine:=by
  have h1:=HW kvs [];rw[uj1] at h1;rw[kj];lia
 have he:∃q,h'.get? s.heap.objs.size=some q:=let ⟨q,_,_,hq,_⟩:=dd';⟨q,hq⟩;exact Ou I2 (by rw[e];exact True.intro) hs he (M5 hz hd (rk.merge .nil) dd')
theorem F9{env:Env}:∀(l:List (Str×NameKind)) (cs:List (Str×gg)),(∀x c,cs.lookup x=some c->env.cells.lookup x=some c)->(∀y∈l,y.2=.free->∃c,env.cells.lookup y.1=some c)->
 ∃cl,(forIn l cs λ(x:Str×NameKind) r=>(match x with|(name,kind)=>if (kind==NameKind.free)=true then do let c <-cellOf env name;pure (ForInStep.yield ((name,c)::r)) else pure (ForInStep.yield r):Sem (ForInStep (List (Str×gg)))))=pure cl/\
  (∀x c,cl.lookup x=some c->env.cells.lookup x=some c)/\(∀x c,cs.lookup x=some c->∃c',cl.lookup x=some c')/\∀y∈l,y.2=.free->∃c,cl.lookup y.1=some c
 |[],cs,h,_=>⟨cs,rfl,h,λ_ c e=>⟨c,e⟩,λ_ z=>nomatch z⟩
 |(n,k)::l,cs,h,hf=>by
   by_cases hk:k=.free
   .subst hk;clear 5(hf (n,.free) ue5 rfl)c hc;have hc':env.cells.lookup n=some c:=hc;have e:cellOf env n=pure c:=by unfold cellOf;rw[hc']
    obtain⟨cl,e1,e2,e3,e4⟩:=F9 l ((n,c)::cs) (λx c' q=>by
     rw[uh1] at q
     by_cases hx:(x==n)=true
     .rw[hx] at q;cases q;rw[eq_of_beq hx];exact hc'
     .rw[ug0.mpr hx] at q;exact h x c' q) (λy hy=>hf y (ud4 _ hy))
    have self:((n,c)::cs).lookup n=some c:=by rw[uh1,ui0]
    refine⟨cl,?_,e2,λx c' q=>?_,λy hy hyf=>?_⟩
    .rw[List.forIn_cons];simp only[ui0,kz,e];exact e1
    .by_cases hx:(x==n)=true
     .rw[eq_of_beq hx];exact e3 n c self
     .exact e3 x c' (by rw[uh1,ug0.mpr hx];exact q)
    .rcases uk5.mp hy with z|z
     .subst z;exact e3 n c self
     .exact e4 y z hyf
   .have hb:(k==NameKind.free)=false:=by simpa using hk
    clear 5(F9 l cs h (λy hy=>hf y (ud4 _ hy)))cl e1 e2 e3 e4;refine⟨cl,?_,e2,e3,λy hy hyf=>?_⟩
    .rw[List.forIn_cons];simp only[hb,ue9,ku];exact e1
    .rcases uk5.mp hy with z|z
     .subst z;exact absurd hyf hk
     .exact e4 y z hyf
theorem Km{scope:Scope}{env:Env}(h:∀y∈scope.names,y.2=.free->∃c,env.cells.lookup y.1=some c) :
 ∃cl,closureFor scope env=pure cl/\(∀x c,cl.lookup x=some c->env.cells.lookup x=some c)/\∀y∈scope.names,y.2=.free->∃c,cl.lookup y.1=some c:=by
 obtain⟨cl,e1,e2,_,e4⟩:=F9 (env:=env) scope.names [] (λ_ _ q=>nomatch q) h;refine⟨cl,?_,e2,e4⟩;simp only[closureFor]
 first|(rw[e1];rfl)|(simp only[e1];rfl)|(trace_state;exact e1)
theorem M3{prog:gi}{A:Around}{R:Result->gh->Prop}{s:gh}{elt target iter:Expr}{ifs:List Expr}{scope:Scope}{pos:Pos}{it acc:gf}{env:Env}(I:Nat->gh->Prop)
 (turn:∀n s,I n s->wpAny (model prog w) A (pyNext it) (λr s₁=>match r with
   |none=>R (.ok .next) s₁
   | some v=>wpAny (model prog w) A (letOwnedTupleGo target it v) (λ_ s₁'=>wpAny (model prog w) A (assign target env v) (λ_ s₂=>
      wpAny (model prog w) A (forIn ifs true λc r=>if r=true then do let ok <-isTrue c env (eval c env);pure (ForInStep.yield ok) else pure (ForInStep.yield r)) (λok s₃=>
       if ok=true then wpAny (model prog w) A (eval elt env) (λx s₄=>
        wpAny (model prog w) A (call (.builtin "list.append") [acc,x]) (λ_ s₅=>∃m,m<n/\I m s₅) (λ_ _=>False) s₄) (λ_ _=>False) s₃
       else ∃m,m<n/\I m s₃) (λ_ _=>False) s₂) (λ_ _=>False) s₁') (λ_ _=>False) s₁) (λ_ _=>False) s)
 (n:Nat) (h:I n s) :
 codeAny (model prog w) A (.compLoop (.ListComp elt [⟨target,iter,ifs,0⟩] scope pos) 0 it acc env) R s:=by
 refine codeAny_loop rfl I (λn s hI=>?_) n h;show wpAny _ A ((compTurn (.ListComp elt [⟨target,iter,ifs,0⟩] scope pos) 0 it acc env).onRaise (λx=>do noteFrame x env;theTreesLotGoes x)) _ _ s;refine wpAny_noted ?_;rw[compTurn_list];refine un2 (jn (un2 (un4 (turn n s hI) (λr s₁ h₁=>?_) λ_ _ h'=>h'.elim)))
 cases r with
 |none=>exact un3 h₁
 |some v=>
   refine un2 (un4 h₁ (λ_ s₁' h₁'=>?_) λ_ _ h'=>h'.elim);refine un2 (un4 h₁' (λ_ s₂ h₂=>un2 (un4 h₂ (λok s₃ h₃=>?_) λ_ _ h'=>h'.elim)) λ_ _ h'=>h'.elim)
   cases ok with
   |false=>exact un3 ⟨rfl,h₃⟩
   |true=>
     exact un2 (un2 (un4 h₃ (λx s₄ h₄=>un2 (un4 h₄ (λ_ s₅ h₅=>un3 (un3 ⟨rfl,h₅⟩)) λ_ _ h'=>h'.elim)) λ_ _ h'=>h'.elim))
end
noncomputable def CB(X:Cx)(N':List Str)(scope:Scope)(cl:List (Str×gg))(C:gg)(s2:gh)(H2:Hp)(fp:List gg):Cx where
 prog:=X.prog
 w:=X.w
 K:=X.K
 mg:=X.mg
 base:=X.base
 A:=X.A
 N:=N'
 s₀:=s2
 H₀:=H2
 env:=compEnvC scope cl C X.env
 outer:=X.stack
 stack:=X.stack
 ex:=fp
 fn:=λ_=>false
 calm:=X.calm
 pn:=[]
 xe:=λ_ _=>False
theorem JB(h:Str->NameKind->NameKind)(x:Str):∀l:List (Str×NameKind),(l.map λp=>(p.1,h p.1 p.2)).lookup x=(l.lookup x).map (h x)
 |[]=>rfl
 |(n,k)::l=>by
   show List.lookup x ((n,h n k)::_)=_;rw[uh1,uh1]
   by_cases hx:(x==n)=true
   .rw[hx,eq_of_beq hx];rfl
   .rw[ug0.mpr hx];exact JB h x l
theorem Hc(scope:Scope)(env:Env)(x:Str):(relabel scope env).names.lookup x=(scope.names.lookup x).map λk=>if (k==.free&&env.scope.kind==.function&&env.kindOf x==some .cell)=true then .cell else k:=by
 rw[<-JB (λn k=>if (k==NameKind.free&&env.scope.kind==.function&&env.kindOf n==some .cell)=true then .cell else k) x scope.names];unfold relabel;dsimp only
 congr 1
 apply ue2;intro p _;clear 5 p n k;dsimp only
 split<;>rfl
theorem Di{x:Str}{k:NameKind}:∀{l:List (Str×NameKind)},l.lookup x=some k->(x,k)∈l
 |(n,k')::l,h=>by
   rw[uh1] at h
   by_cases hx:(x==n)=true
   .rw[hx] at h;cases h;rw[eq_of_beq hx];exact ue5
   .rw[ug0.mpr hx] at h;exact ud4 _ (Di h)
theorem NN{scope:Scope}{env:Env}{x:Str}(hcell:∀y∈scope.names,y.2≠.cell)(h:(relabel scope env).names.lookup x=some .cell\/(relabel scope env).names.lookup x=some .free):scope.names.lookup x=some .free:=by
 rw[Hc] at h
 cases e:scope.names.lookup x with
 |none=>rw[e] at h;rcases h with h|h<;>cases h
 |some k=>
   by_cases hk:k=.free
   .rw[hk]
   .have hb:(k==NameKind.free)=false:=by simpa using hk
    rw[e] at h;simp only[uj2,hb,uk0,ue9,ku] at h;rcases h with h|h
    .cases h;exact absurd rfl (hcell _ (Di e))
    .cases h;exact absurd rfl hk
def PIf(X:Cx)(ifs:List Expr)(t:TT):Prop:=
 ∀(ge:List (gg×Obj)) (s:gh) (σ:St) (H:Hp) (Q:Bool->Hp->Prop),Inv X ge σ H s->t σ H Q->
  wpAny (model X.prog X.w) X.A (forIn ifs true λc r=>if r=true then do let ok <-isTrue c X.env (eval c X.env);pure (ForInStep.yield ok) else pure (ForInStep.yield r)) (TP X ge σ Q) X.xe s
def bx:TT:=λ_ H Q=>Q true H
theorem Wp{X:Cx}:PIf X [] bx:=λ_ _ _ H _ I h=>wpAny_tests_nil ⟨H,I,h⟩
theorem Wq{X:Cx}{c:Expr}{t:TT}(h:PT X c t):PIf X [c] t:=λge s σ H Q I q=>wpAny_tests_one (h ge s σ H Q I q)
def Su(J:It)(g:TG)(tt:TT)(te:TE)(σ₀:St)(H1:Hp)(Fin:List V->Hp->Prop):Prop:=
 ∃W:Nat->Nat->List V->St->Hp->Prop,(∃m,W 0 m [] σ₀ H1)/\∀i m acc σ' H',W i m acc σ' H'->acc.length<=sizeLine/\
  ((J.stop i H'/\Fin acc H')\/
    (J.go i H'/\∀x H2,J.yld i H' x H2->g x σ' H2 λσ3 H3=>tt σ3 H3 λb H4=>if b=true then te σ3 H4 λv H5=>∃m',m'<m/\W (i+1) m' (acc++[v]) σ3 H5 else ∃m',m'<m/\W (i+1) m' acc σ3 H4))
def Qe(wi:TI)(g:TG)(tt:TT)(te:TE)(σf:St->St):TE:=λσ H Q=>wi σ H λJ H1=>Su J g tt te (σf σ) H1 λacc H'=>∀p,H' p=none->acc.length<=sizeLine->Q (.ref p) (upd H' p (.lst acc))
structure CmpOk(X:Cx)(scope:Scope)(N':List Str)(σf:St->St):Prop where
 kind:scope.kind=.function
 cell:∀y∈scope.names,y.2≠.cell
 loc:∀y∈scope.names,y.2=.local->scope.names.lookup y.1=some .local
 free:∀y∈scope.names,y.2=.free->X.env.kindOf y.1=some .cell\/X.env.kindOf y.1=some .free
 len:∀σ:St,σ.length=X.N.length->(σf σ).length=N'.length
 vals:∀(σ:St) (j:Nat) (x:Str) (v:V),N'[j]?=some x->(σf σ)[j]?=some (some v)->∃i:Nat,X.N[i]?=some x/\σ[i]?=some (some v)/\scope.names.lookup x=some .free
section
variable{ge:List (gg×Obj)}{σ:St}{H2:Hp}{s2:gh}{fp:List gg}
section
variable{X:Cx}{tg elt iter:Expr}{ifs:List Expr}{scope:Scope}{pos:Pos}{N':List Str}{wi:TI}{g:TG}{tt:TT}{te:TE}{σf:St->St}
theorem XO{cl:List (Str×gg)}{C:gg}(O:CmpOk X scope N' σf)(I2:Inv X ge σ H2 s2)(f2:∀b∈fp,FpOk X ge H2 b)(hC:s2.heap.objs.size<=C)
 (hlt:∀b∈fp,b<s2.heap.objs.size) (e2:∀x c,cl.lookup x=some c->X.env.cells.lookup x=some c) (e4:∀y∈scope.names,y.2=.free->∃c,cl.lookup y.1=some c):(CB X N' scope cl C s2 H2 fp).Ok where
 mod:=I2.ok.mod
 kind:=O.kind
 glob:=I2.ok.glob
 blt:=I2.ok.blt
 above:=hC
 inj:=λx y c h1 h2=>I2.ok.inj x y c (e2 x c h1) (e2 y c h2)
 has:=λx h=>by
  have q:=NN (env:=X.env) (x:=x) O.cell h;exact e4 _ (Di q) rfl
 cab:=λx c h _=>nomatch h
 hd:=I2.ok.hd
 frames:=I2.ok.frames
 stk:=.inl rfl
 exf:=λb hb=>⟨ul8 (ue4 (hlt b hb) hC),λx c e=>(f2 b hb).2.2.2.2.1 x c (e2 x c e)⟩
 bs:=I2.bs
 bsz:=ul9 I2.ok.bsz I2.sz
 noex:=λb o e hb=>by
  rcases (f2 b hb).2.2.2.1 with z|z
  .exact I2.ok.noex b o e z
  .exact absurd (ue4 (ul7 (I2.ok.bs b o e).1) z) (uk4 _)
 exfs:=λb hb z=>by
  rcases uk5.mp (I2.stkSub b z) with q|q
  .exact(f2 b hb).2.1 q
  .exact(f2 b hb).2.2.1 q
 funs:=I2.stack
 frf:=I2.stkFree
theorem ZY(I2:Inv X ge σ H2 s2){a:gg}(h:s2.heap.objs.size<=a):a∉frs X.stack:=λhb=>by
 rcases uk5.mp (I2.stkSub a hb) with q|q
 .exact absurd (ue4 I2.lt h) (by rw[q];exact uk4 _)
 .exact I2.nofs h q
theorem MK{cl:List (Str×gg)}{it:gg}{tn:Nat->Heap->Prop}{J:It}{Fin:List V->Hp->Prop}{RR:gf->gg->Result->gh->Prop}{E:gf->gh->Prop}(O:CmpOk X scope N' σf)(hc:X.calm=true)
 (I2:Inv X ge σ H2 s2) (T:Turn X.prog X.w X.K tg J fp it tn) (st2:tn 0 s2.heap) (f2:∀b∈fp,FpOk X ge H2 b)
 (e2:∀x c,cl.lookup x=some c->X.env.cells.lookup x=some c) (e4:∀y∈scope.names,y.2=.free->∃c,cl.lookup y.1=some c)
 (hg:∀C,PG (CB X N' scope cl C s2 H2 fp) tg g) (ht:∀C,PIf (CB X N' scope cl C s2 H2 fp) ifs tt) (he:∀C,PE (CB X N' scope cl C s2 H2 fp) elt te)
 (B:Su J g tt te (σf σ) H2 Fin)
 (fin:∀C s' σ' H' acc m,s2.heap.objs.size<=C->C≠s2.heap.objs.size->Inv (CB X N' scope cl C s2 H2 fp) [] σ' H' s'->H' s2.heap.objs.size=none->acc.length<=sizeLine->(∃its n,Vals acc its/\s'.heap.get? s2.heap.objs.size=some { cls:=.type "list",data:=.seq its.toArray n })->Fin acc H'->s'.heap.Ns C m->
   RR (.ref s2.heap.objs.size) C (.ok .next) s') :
 wpAny (model X.prog X.w) X.A (newList []) (λacc s₃=>wpAny (model X.prog X.w) X.A (newFunctionEnv scope X.env.globals cl [] X.env.qual none .none (some X.env)) (λcenv s₄=>
  codeAny (model X.prog X.w) X.A (.compStart (.ListComp elt [⟨tg,iter,ifs,0⟩] scope pos) 0 (.ref it) acc {cenv with scope:=relabel scope X.env}) (RR acc cenv.locals) s₄) E s₃) E s2:=by
 refine je (wpAny_newFunctionEnv O.cell (by intro y hy;simp at hy) (λh₁ hns₁ hsb₁=>?_) O.kind);dsimp only at hns₁ hsb₁⊢;generalize hH2:s2.heap.push {cls:=.type "list",dict:=none,data:=.seq ([]:List gf).toArray}=HP at hns₁ hsb₁⊢;have hC:HP.objs.size=s2.heap.objs.size+1:=by rw[<-hH2,jl]
 generalize hDD:s2.heap.objs.size=DD at *;generalize hCC:HP.objs.size=CC at *;have hDC:DD≠CC:=by rw[hC];exact ul8 (ug7 _)
 have hCle:s2.heap.objs.size<=CC:=by rw[hC,hDD];exact un0 _
 have hlt:∀b∈fp,b<s2.heap.objs.size:=λb hb=>by obtain⟨o,e,_⟩:=T.obj _ _ st2 b hb;exact ul7 e
 have hlt':∀b∈fp,b<DD:=λb hb=>by rw[<-hDD];exact hlt b hb
 have below:∀b,b<DD->b≠CC/\b≠DD:=λb hb=>⟨by rw[hC];exact ul8 (Nat.lt_succ_of_lt hb),ul8 hb⟩;have old:∀b o,s2.heap.get? b=some o->h₁.get? b=some o:=λb o e=>hsb₁.extBut b o (below b (by rw[<-hDD];exact ul7 e)).1 (ub9 _ (hH2 ▸ ub9 _ e));have hacc:h₁.get? DD=some {cls:=.type "list",data:=.seq ([]:List gf).toArray}:=by
  refine hsb₁.extBut _ _ hDC (ub9 _ ?_);rw[<-hH2,<-hDD];exact ud9 _ rfl
 have ok:=XO (cl:=cl) (C:=CC) O I2 f2 hCle hlt e2 e4;have hfs:DD∉frs X.stack:=ZY I2 (by rw[hDD];exact um8 _);obtain⟨W,⟨m0,w0⟩,turn⟩:=B
 let X':Cx:=CB X N' scope cl CC s2 H2 fp
 have I0:Inv X' [] (σf σ) H2 {s2 with heap:=h₁,toks:=s2.toks+([]:List (Str×gf)).length}:=by
  refine⟨ok,rfl,I2.bare,Un.kept old,⟨_,hns₁,λj x v q1 q2 q3=>?_⟩,λx c e=>?_,I2.hok.fresh hCle,λx c e=>I2.freeC x c (e2 x c e),(λp hp=>nomatch hp),I2.hok.kept old,O.len σ I2.len⟩
  .clear 5(O.vals σ j x v q1 q2)i n1 n2 n3;obtain⟨m,_,hl⟩:=I2.loc;have hfr:=O.free _ (Di n3) rfl;clear 5(hl i x v n1 n2 (.inr hfr))u r l;refine⟨u,r,?_⟩;rcases l with⟨k,_⟩|⟨_,c,ec,hcell⟩
   .rcases hfr with z|z<;>(have z':=k.symm.trans z;cases z')
   .clear 5(e4 _ (Di n3) rfl)c' ec';have z:=e2 _ _ ec';have ez:X.env.cells.lookup x=some c':=z;rw[ec] at ez
    cases ez
    refine .inr ⟨?_,c,ec',?_⟩
    .show(relabel scope X.env).names.lookup x=some .cell\/(relabel scope X.env).names.lookup x=some .free;rw[Hc,n3];simp only[uj2]
     split
     .exact .inl rfl
     .exact .inr rfl
    .clear 5 hcell o ho hd;exact⟨o,old _ _ ho,hd⟩
  .clear 5(I2.cell x c (e2 x c e))v o ho hd;exact⟨v,o,old _ _ ho,hd⟩
 have loop:∀s₃:gh,s₃ = {s2 with heap:=h₁,toks:=s2.toks+([]:List (Str×gf)).length}->
  codeAny (model X.prog X.w) X.A (.compLoop (.ListComp elt [⟨tg,iter,ifs,0⟩] scope pos) 0 (.ref it) (.ref DD) (compEnvC scope cl CC X.env)) (RR (.ref DD) CC) s₃:=by
  rintro s₃ rfl;refine M3 (λn s'=>∃i acc its nn σ' H',Inv X' [] σ' H' s'/\tn i s'.heap/\(∀b∈fp,H' b=none)/\Vals acc its/\s'.heap.get? DD=some {cls:=.type "list",data:=.seq its.toArray nn}/\H' DD=none/\W i n acc σ' H') ?_ m0
   ⟨0,[],[],0,σf σ,H2,I0,T.keep _ _ _ st2 (λb _ o e=>old b o e),λb hb=>(f2 b hb).1,.nil,hacc,I2.hok.fresh (by rw[hDD];exact um8 _),w0⟩
  rintro n s' ⟨i,acc,its,nn,σ3,H3,I3,st3,fr3,hv,hD,hDn,w3⟩;have I3p:Inv X' [(DD,({cls:=.type "list",data:=.seq its.toArray nn}:Obj))] σ3 H3 s':=I3.pins_of λp hp=>by
   have e:p=(DD,({cls:=.type "list",data:=.seq its.toArray nn}:Obj)):=by simpa using hp
   subst e;exact⟨hD,hDn,hDC,hfs,λv z=>nomatch z⟩
  have stat:∀{pins':List (gg×Obj)}{H':Hp},(∀p∈pins',p.1=DD)->(∀b∈fp,H' b=none)->∀b∈fp,FpOk X' pins' H' b:=λ{pins' H'} hp hn b hb=>
   ⟨hn b hb,(ok.exf b hb).1,ok.exfs b hb,.inl hb,(ok.exf b hb).2,λp hp' z=>by
    have e:p.1=DD:=hp p (by simpa[X',CB] using hp');exact absurd (hlt' b hb) (by rw[<-z,e];exact uk4 _)⟩
  have one:∀p∈[(DD,({cls:=.type "list",data:=.seq its.toArray nn}:Obj))],p.1=DD:=λp hp=>by
   have e:p=(DD,({cls:=.type "list",data:=.seq its.toArray nn}:Obj)):=by simpa using hp
   rw[e]
  clear 5(turn i n acc σ3 H3 w3)hz tr;rcases tr with⟨stop,qf⟩|⟨go,step⟩
  .refine thn (T.done X' rfl rfl rfl hc i _ s' σ3 H3 (λ_ _=>False) I3p (stat one fr3) st3 stop) λr s4 z9=>?_;clear 5 z9 hr I4;subst hr;obtain⟨m4,hm4,_⟩:=I4.loc;have pD:=(I4.pin (DD,({cls:=.type "list",data:=.seq its.toArray nn}:Obj)) (by simp[X',CB])).1;have I4':Inv X' [] σ3 H3 s4:=I4.pins_of λp hp=>nomatch hp;exact fin CC s4 σ3 H3 acc m4 (by rw[hDD] at hCle;exact hCle) (Ne.symm hDC) I4' hDn hz ⟨its,nn,hv,pD⟩ qf hm4
  .refine thn (T.item X' rfl rfl rfl hc i _ s' σ3 H3 (λ_ _=>False) I3p (stat one fr3) st3 go) λr s4 z9=>?_;clear 5 z9 u hr h4;subst hr;refine thn h4 λ_ s5 z9=>?_;clear 5 z9 x H5 I5 r5 y5 st5 fr5;have I5':=I5.pinned (stat one fr5) (T.obj _ _ st5);refine thn (hg CC _ s5 σ3 H5 x u _ I5' r5 (step x H5 y5)) λ_ s6 z9=>?_;clear 5 z9 σ6 H6 I6 q6;refine thn (ht CC _ s6 σ6 H6 _ I6 q6) λb s7 z9=>?_;clear 5 z9 H7 I7 q7;have back:∀{H8:Hp}{s8:gh},Inv X' ([(DD,({cls:=.type "list",data:=.seq its.toArray nn}:Obj))]++IN fp s5.heap) σ6 H8 s8->
    s8.heap.get? DD=some {cls:=.type "list",data:=.seq its.toArray nn}/\H8 DD=none/\tn (i+1) s8.heap/\(∀b∈fp,H8 b=none)/\Inv X' [] σ6 H8 s8:=λ{H8 s8} I8=>by
    have p1:=I8.pin (DD,({cls:=.type "list",data:=.seq its.toArray nn}:Obj)) (by simp[X',CB]);refine⟨p1.1,p1.2.1,T.keep _ _ _ st5 λb hb o e=>(I8.pin (b,o) (uc6 _ (uc6 _ (FX hb e)))).1,λb hb=>?_,I8.pins_of λp hp=>nomatch hp⟩;obtain⟨o,e,_⟩:=T.obj _ _ st5 b hb;exact(I8.pin (b,o) (uc6 _ (uc6 _ (FX hb e)))).2.1
   cases b with
   |false=>
     rw[kS ue6] at q7⊢;clear 5 q7 m' hm w7;clear 5(back I7)a1 a2 a3 a4 a5;exact⟨m',hm,i+1,acc,its,nn,σ6,H7,a5,a3,a4,hv,a1,a2,w7⟩
   |true=>
     rw[kQ rfl] at q7⊢;refine thn (he CC _ s7 σ6 H7 _ I7 q7) λy s8 z9=>?_;clear 5 z9 v8 H8 I8 r8 m' hm w8;clear 5(back I8)a1 a2 a3 a4 a5;have hsz:its.toArray.size<=sizeLine:=by
      have e:=hv.length;simpa[e] using hz
     refine wpAny_list_append_plain (hsz:=hsz) ⟨nn,a1⟩ λh9 hl9 hs9=>?_;clear 5 hl9 n9 e9;have e9':h9.get? DD=some {cls:=.type "list",data:=.seq (its++[y]).toArray n9}:=by simpa using e9
     refine⟨m',hm,i+1,acc++[v8],its++[y],n9,σ6,H8,a5.turned (t':=s8.toks) (h':=h9) (it:=DD) (λb o hb e=>hs9.extBut b o hb e) a2 hDC (.inr (show s2.heap.objs.size<=DD by rw[hDD];exact um8 _)) (λx' c e z=>?_) (λp hp=>nomatch hp),T.keep _ _ _ a3 λb hb o e=>hs9.extBut b o (ul8 (hlt' b hb)) e,a4,hv.append (.cons r8 .nil),e9',a2,w8⟩;clear 5(I2.cell x' c (e2 x' c e))v o ho hd;have:=ul7 ho;rw[hDD,z] at this;exact uk4 _ this
 exact codeAny_compStart_list (loop _ rfl) (T.self _ 0 _ _ _ (T.keep _ _ _ st2 λb _ o e=>old b o e) (loop _ rfl))
end
section
variable{X:Cx}{tg elt iter:Expr}{ifs:List Expr}{scope:Scope}{pos:Pos}{N':List Str}{wi:TI}{g:TG}{tt:TT}{te:TE}{σf:St->St}
theorem LU{σ':St}{H':Hp}{s':gh}{cl:List (Str×gg)}{C:gg}{acc:List V}{its:List gf}{n:Nat}{h':Heap}(I2:Inv X ge σ H2 s2)(f2:∀b∈fp,FpOk X ge H2 b)
 (hC:s2.heap.objs.size<=C) (hCD:C≠s2.heap.objs.size) (I':Inv (CB X N' scope cl C s2 H2 fp) [] σ' H' s') (hDn:H' s2.heap.objs.size=none) (hz:acc.length<=sizeLine) (hv:Vals acc its)
 (hD:s'.heap.get? s2.heap.objs.size=some {cls:=.type "list",data:=.seq its.toArray n}) (hs:Heap.SameBut C s'.heap h') :
 Inv X ge σ (upd H' s2.heap.objs.size (.lst acc)) {s' with heap:=h'}:=by
 have U:=I'.base;have lt:∀b o,s2.heap.get? b=some o->b≠C/\b≠s2.heap.objs.size:=λb o e=>⟨ul8 (ue4 (ul7 e) hC),ul8 (ul7 e)⟩;have neD:∀b u,H' b=some u->b≠s2.heap.objs.size:=λb u e=>AY e hDn;have neC:∀b u,H' b=some u->b≠C:=λb u e=>AY e I'.free;refine I2.call' (s':={s' with heap:=h'}) (ch:=fp) I'.os ⟨λb o e n hb hx=>?_,λb o e n hb hx=>?_,λb o e n hx=>?_,λb o e hx=>?_,λb xs e=>?_,λb o u e=>?_,λb ps e=>?_⟩ ?_ I'.bare λb hb=>⟨(f2 b hb).2.2.2.1,(f2 b hb).2.1,(f2 b hb).2.2.2.2.1,(f2 b hb).2.2.2.2.2⟩
 .exact hs.extBut b o (lt b o e).1 (U.keep b o e n hb hx)
 .clear 5(U.slot b o e n hb hx)sl q;exact⟨sl,hs.extBut b _ (lt b o e).1 q⟩
 .rw[Az (lt b o e).2];exact U.free b o e n hx
 .clear 5(U.there b o e hx)o' q;exact⟨o',hs.extBut b _ (lt b o e).1 q⟩
 .have q:=U.tups b xs e;rw[Az (neD b _ q)];exact q
 .have q:=U.frzs b o u e;rw[Az (neD b _ q)];exact q
 .clear 5(U.tbls b ps e)m q;exact⟨m,by rw[Az (neD b _ q)];exact q⟩
 .intro b u e
  by_cases hb:b=s2.heap.objs.size
  .subst hb;rw[Bf] at e
   cases e
   exact⟨hz,its,n,hv,hs.extBut _ _ (Ne.symm hCD) hD⟩
  .rw[Az hb] at e;refine(I'.hok b u e).stay (λc v hc q=>hs.extBut c v ?_ q) (λc q=>by rw[Az (neD c _ q)];exact q) λc xs q=>by rw[Az (neD c _ q)];exact q
   rcases hc with z|z
   .rw[z];exact neC b u e
   .exact neC c _ z
theorem Wj(O:CmpOk X scope N' σf)(hc:X.calm=true)(hi:PI X tg iter wi)
 (hg:∀cl C s2 H2 fp,PG (CB X N' scope cl C s2 H2 fp) tg g) (ht:∀cl C s2 H2 fp,PIf (CB X N' scope cl C s2 H2 fp) ifs tt) (he:∀cl C s2 H2 fp,PE (CB X N' scope cl C s2 H2 fp) elt te)
 (hs:∀x,foldedSetIterable iter X.env x=pure x:=by intro _;rfl):PE X (.ListComp elt [⟨tg,iter,ifs,0⟩] scope pos) (Qe wi g tt te σf):=by
 intro ge s σ H Q I h;obtain⟨cl,e1,e2,e4⟩:=Km (scope:=scope) (env:=X.env) λy hy hf=>I.ok.has y.1 (O.free y hy hf);rw[eval_ListComp];refine wpAny_comprehension_free (use:=none) rfl hs e1 O.kind O.loc (thn (hi ge s σ H _ I h) λv s1 h1=>thn h1 λitv s2 h2=>?_);clear 5 h2 it fp tn J H2 rfl I2 T st2 f2 B;refine MK (RR:=λacc C=>compPost (model X.prog X.w) X.A X.xe none (EP X ge σ Q) acc C) O hc I2 T st2 f2 e2 e4 (λC=>hg cl C s2 H2 fp) (λC=>ht cl C s2 H2 fp) (λC=>he cl C s2 H2 fp) B ?_;intro C s' σ' H' acc m hC hCD I' hDn hz hL fin hn;clear 5 hL its n hv hD;refine⟨m,hn,λh' hs'=>?_⟩;exact⟨.ref s2.heap.objs.size,upd H' _ (.lst acc),LU I2 f2 hC hCD I' hDn hz hv hD hs',rfl,fin _ hDn hz⟩
theorem Wx{i:Nat}{y:Str}{py spos:Pos}(O:CmpOk X scope N' σf)(hc:X.calm=true)(hN:X.N.Nodup)(hiN:X.N[i]?=some y)(hx:X.env.scope.names.lookup y=some .local)(hi:PI X tg iter wi)
 (hg:∀cl C s2 H2 fp,PG (CB X N' scope cl C s2 H2 fp) tg g) (ht:∀cl C s2 H2 fp,PIf (CB X N' scope cl C s2 H2 fp) ifs tt) (he:∀cl C s2 H2 fp,PE (CB X N' scope cl C s2 H2 fp) elt te)
 (hsw:swapsWith (.ListComp elt [⟨tg,iter,ifs,0⟩] scope pos) (some (.Name y py)) spos.line X.env=pure true:=by rfl)
 (hs:∀x,foldedSetIterable iter X.env x=pure x:=by intro _;rfl):PS X (.Assign [.Name y py] (.ListComp elt [⟨tg,iter,ifs,0⟩] scope pos) spos) (NZ (Qe wi g tt te σf) (Kv i)):=by
 intro ge s σ H D I h;obtain⟨cl,e1,e2,e4⟩:=Km (scope:=scope) (env:=X.env) λy hy hf=>I.ok.has y.1 (O.free y hy hf);rw[exec_Assign_Name_used _ _ _ _ hsw];refine un2 (jn (un2 ?_));show wpAny _ X.A (do let _ <-comprehension (.ListComp elt [⟨tg,iter,ifs,0⟩] scope pos) scope X.env _ (newList []) false (eval iter X.env) (some (assign (.Name y py) X.env))) _ _ s;refine un2 (thn (wpAny_comprehension_free (use:=some (assign (.Name y py) X.env)) (Q:=λ_ s'=>SP X ge D .next s') rfl hs e1 O.kind O.loc (thn (hi ge s σ H _ I h) λv s1 h1=>thn h1 λitv s2 h2=>?_)) (λ_ s' hq=>un3 (un3 hq)));clear 5 h2 it fp tn J H2 rfl I2 T st2 f2 B;refine MK (RR:=λacc C=>compPost (model X.prog X.w) X.A X.xe (some (assign (.Name y py) X.env)) (λ_ s'=>SP X ge D .next s') acc C) O hc I2 T st2 f2 e2 e4 (λC=>hg cl C s2 H2 fp) (λC=>ht cl C s2 H2 fp) (λC=>he cl C s2 H2 fp) B ?_;intro C s' σ' H' acc m hC hCD I' hDn hz hL fin hn;clear 5 hL its n hv hD;show wpAny _ X.A (assign (.Name y py) X.env (.ref s2.heap.objs.size)) _ _ _;have I3:=LU I2 f2 hC hCD I' hDn hz hv hD (Heap.SameBut.refl ..);refine wpAny_assign_Name (L9 I3 hN hiN (.inl hx) (v:=.ref s2.heap.objs.size) rfl (λs4 I4 z9=>?_) (.inr hx));clear 5 z9 a hsb ha;have hCL:C≠X.env.locals:=um0 (ue4 I2.lt hC);have hCc:∀x c,X.env.cells.lookup x=some c->c≠C:=λx c e z=>by
  clear 5(I2.cell x c e)v q;exact absurd (ue4 q.lt (by rw[z];exact hC)) (uk4 _)
 have hCa:C≠a:=by
  rcases ha with z|z
  .rw[z];exact hCL
  .exact λq=>hCc _ _ z q.symm
 refine⟨m,hn.sameBut hsb hCa,λh' hs'=>?_⟩;have hnC:(upd H' s2.heap.objs.size (.lst acc)) C=none:=by rw[Az hCD];exact I'.free
 refine⟨_,_,I4.turned (t':=s4.toks) (h':=h') (it:=C) (λb o hb e=>hs'.extBut b o hb e) hnC hCL (.inr (ul9 I2.sz hC)) hCc (λp hp z=>?_),fin _ hDn hz⟩;exact absurd (ue4 (ul7 (I2.pin p hp).1) (by rw[z];exact hC)) (uk4 _)
end
end
set_option autoImplicit false
inductive D where
 |non|bl (b:Bool)|int (i:Int)|str (x:Str)|tup (xs:List D)|lst (xs:List D)|scr (ns:List Int)|dic|obj (k:Nat)|ty (n:String)|exc (n:Str) (xs:List D)|gts (xs:List Str)
structure Cf where
 ι:List gg
 O:gg->Prop
def Cf.A(c:Cf)(a:gg):Prop:=a∈c.ι\/c.O a
def Scr(K:gd)(c:Cf)(H:Hp)(a:gg)(vs:List V):Prop:=
 ((∃o,H a=some (.frz o (.lst vs)))/\¬c.A a)\/
   ∃(o:Obj) (its:Array gf) (n:Nat),K.lookup a=some o/\o.cls=.type "list"/\o.dict=none/\o.data=.seq its n/\its.size<=sizeLine/\Vals vs its.toList
def Pe(K:gd)(a:gg)(xs:List Str):Prop:=
 ∃(o:Obj) (its:Array gf) (n:Nat),K.lookup a=some o/\o.cls=.type "tuple"/\o.data=.seq its n/\its.size<=sizeLine/\Vals (xs.map V.str) its.toList
def XIs(qx:Bool)(x C:gg)(dx:Option gg)(h:Heap):Prop:=∃(o:Obj) (vs:Array gf),h.get? x=some o/\o.cls=.ref C/\o.dict=dx/\o.data=.fields vs/\(qx=true->vs[2]?=some .none/\4<vs.size)
noncomputable def To(n:Str):List Str:=if n = "NoTalk" then ["at"] else if n = "Broken" then ["at", "side"] else []
def XFld(c:Cf)(H:Hp)(dx:Option gg)(ns:List Str)(vs:List V):Prop:=match dx with
 |none=>vs=[]
 |some d=>H d=some (.xd (ns.zip vs))/\¬c.A d
mutual
inductive Rep(K:gd)(c:Cf)(H:Hp):V->D->Prop where
 |non:Rep K c H .non .non
 |bl (b:Bool):Rep K c H (.bl b) (.bl b)
 |int (i:Int):Rep K c H (.int i) (.int i)
 |str (x:Str):Rep K c H (.str x) (.str x)
 |ty (n:String):Rep K c H (.ty n) (.ty n)
 |tup {a:gg}{vs:List V}{ds:List D}:H a=some (.tup vs)->¬c.A a->Reps K c H vs ds->Rep K c H (.ref a) (.tup ds)
 |lst {a:gg}{vs:List V}{ds:List D}:H a=some (.lst vs)->¬c.A a->Reps K c H vs ds->Rep K c H (.ref a) (.lst ds)
 |scr {a:gg}{ns:List Int}:Scr K c H a (ns.map V.int)->Rep K c H (.ref a) (.scr ns)
 |dic {a:gg}:H a=some (.dK [])->¬c.A a->Rep K c H (.ref a) .dic
 |obj {a:gg}{k:Nat}:c.ι[k]?=some a->Rep K c H (.ref a) (.obj k)
 |exc {qx:Bool}{x C:gg}{dx:Option gg}{n:Str}{vs:List V}{ds:List D}:PySem.W.nsIn K mainGlobals n=some (some (.ref C))->H x=some (.ext (XIs qx x C dx))->¬c.A x->XFld c H dx (To n) vs->Reps K c H vs ds->Rep K c H (.ref x) (.exc n ds)
 |gts {a:gg}{xs:List Str}:Pe K a xs->Rep K c H (.ref a) (.gts xs)
inductive Reps(K:gd)(c:Cf)(H:Hp):List V->List D->Prop where
 |nil:Reps K c H [] []
 |cons {v:V}{d:D}{vs:List V}{ds:List D}:Rep K c H v d->Reps K c H vs ds->Reps K c H (v::vs) (d::ds)
end
structure Ext(c:Cf)(H:Hp)(c':Cf)(H':Hp):Prop where
 keep:∀b o,H b=some o->¬c.A b->H' b=some o
 av:∀b o,H b=some o->c'.A b->c.A b
 io:∀(k:Nat) (a:gg),c.ι[k]?=some a->c'.ι[k]?=some a
section
variable{c:Cf}{H:Hp}
theorem Ext.refl:Ext c H c H:=⟨λ_ _ h _=>h,λ_ _ _ h=>h,λ_ _ h=>h⟩
theorem Ext.trans{c1 c2:Cf}{H1 H2:Hp}(a:Ext c H c1 H1)(b:Ext c1 H1 c2 H2):Ext c H c2 H2:=by
 refine⟨λx o h n=>?_,λx o h n=>?_,λk x h=>b.io k x (a.io k x h)⟩
 .exact b.keep x o (a.keep x o h n) λz=>n (a.av x o h z)
 .by_cases q:c.A x
  .exact q
  .exact a.av x o h (b.av x o (a.keep x o h q) n)
variable{K:gd}{a:gg}{vs:List V}
theorem Scr.mono{c':Cf}{H':Hp}(e:Ext c H c' H')(h:Scr K c H a vs):Scr K c' H' a vs:=by
 rcases h with⟨⟨o,h⟩,n⟩|h
 .exact .inl ⟨⟨o,e.keep _ _ h n⟩,λz=>n (e.av _ _ h z)⟩
 .exact .inr h
theorem Scr.sq(h:Scr K c H a vs):SqL K H a vs:=by
 rcases h with⟨h,_⟩|h
 .exact .inl (.inr h)
 .exact .inr h
theorem XFld.mono{c':Cf}{H':Hp}{dx:Option gg}{ns:List Str}(e:Ext c H c' H')(h:XFld c H dx ns vs):XFld c' H' dx ns vs:=by
 cases dx with
 |none=>exact h
 |some d=>exact⟨e.keep _ _ h.1 h.2,λz=>h.2 (e.av _ _ h.1 z)⟩
mutual
theorem Rep.mono{K:gd}{c c':Cf}{H H':Hp}(e:Ext c H c' H'){v:V}{d:D}(r:Rep K c H v d):Rep K c' H' v d:=by
 cases r with
 |non=>exact .non
 |bl b=>exact .bl b
 |int i=>exact .int i
 |str x=>exact .str x
 |ty n=>exact .ty n
 |tup h n r=>exact .tup (e.keep _ _ h n) (λz=>n (e.av _ _ h z)) (Reps.mono e r)
 |lst h n r=>exact .lst (e.keep _ _ h n) (λz=>n (e.av _ _ h z)) (Reps.mono e r)
 |scr h=>exact .scr (h.mono e)
 |dic h n=>exact .dic (e.keep _ _ h n) (λz=>n (e.av _ _ h z))
 |obj h=>exact .obj (e.io _ _ h)
 |exc g h n f r=>exact .exc g (e.keep _ _ h n) (λz=>n (e.av _ _ h z)) (f.mono e) (Reps.mono e r)
 |gts h=>exact .gts h
theorem Reps.mono{K:gd}{c c':Cf}{H H':Hp}(e:Ext c H c' H'){vs:List V}{ds:List D}(r:Reps K c H vs ds):Reps K c' H' vs ds:=by
 cases r with
 |nil=>exact .nil
 |cons h t=>exact .cons (Rep.mono e h) (Reps.mono e t)
end
section
variable{K:gd}{c:Cf}{H:Hp}
theorem Reps.length:∀{vs:List V}{ds:List D},Reps K c H vs ds->vs.length=ds.length
 |_,_,.nil=>rfl
 |_,_,.cons _ t=>by simp[Reps.length t]
theorem Reps.get:∀{vs:List V}{ds:List D}{i:Nat}{v:V}{d:D},Reps K c H vs ds->vs[i]?=some v->ds[i]?=some d->Rep K c H v d
 |_,_,_,_,_,.nil,e,_=>by simp at e
 |_,_,0,_,_,.cons r _,e,e'=>by simp at e e';subst e e';exact r
 |_,_,i+1,_,_,.cons _ t,e,e'=>Reps.get (i:=i) t (by simpa using e) (by simpa using e')
theorem Reps.at:∀{vs:List V}{ds:List D}{i:Nat}{d:D},Reps K c H vs ds->ds[i]?=some d->∃v,vs[i]?=some v/\Rep K c H v d
 |_,_,_,_,.nil,e=>by simp at e
 |_,_,0,_,.cons r _,e=>by simp at e;subst e;exact⟨_,rfl,r⟩
 |_,_,i+1,_,.cons _ t,e=>by
   clear 5(Reps.at (i:=i) t (by simpa using e))v h1 h2;exact⟨v,by simpa using h1,h2⟩
theorem Reps.append{vs ws:List V}{ds es:List D}(r:Reps K c H vs ds)(s:Reps K c H ws es):Reps K c H (vs++ws) (ds++es):=by
 cases r with
 |nil=>exact s
 |cons r t=>exact .cons r (Reps.append t s)
theorem Reps.take:∀{vs:List V}{ds:List D} (n:Nat),Reps K c H vs ds->Reps K c H (vs.take n) (ds.take n)
 |_,_,0,_=>.nil
 |_,_,_+1,.nil=>.nil
 |_,_,n+1,.cons r t=>.cons r (Reps.take n t)
theorem Reps.drop:∀{vs:List V}{ds:List D} (n:Nat),Reps K c H vs ds->Reps K c H (vs.drop n) (ds.drop n)
 |_,_,0,r=>r
 |_,_,_+1,.nil=>.nil
 |_,_,n+1,.cons _ t=>Reps.drop n t
theorem Reps.ints:∀ns:List Int,Reps K c H (ns.map V.int) (ns.map D.int)
 |[]=>.nil
 |n::r=>.cons (.int n) (Reps.ints r)
theorem Reps.strs:∀ns:List Str,Reps K c H (ns.map V.str) (ns.map D.str)
 |[]=>.nil
 |n::r=>.cons (.str n) (Reps.strs r)
theorem Reps.rep{vs:List V}{ds:List D}(h:Reps K c H vs ds):∀k:Nat,Reps K c H (List.replicate k vs).flatten (List.replicate k ds).flatten
 |0=>.nil
 |k+1=>by
   rw[ue1,ue1,uf8,uf8];exact h.append (Reps.rep h k)
end
inductive Ob where
 |lst (xs:List D)
 |dct (kvs:List (Key×D))
 |ins (n:Str) (fs:List (Str×D))
inductive Sl where
 |val (d:D)
 |own (xs:List D)
structure T where
 env:List (Option Sl)
 S:List Ob
def KVR(K:gd)(c:Cf)(H:Hp):List (Key×V)->List (Key×D)->Prop:=Paired λp q=>p.1=q.1/\Rep K c H p.2 q.2
noncomputable def Li:List Str:=["Reader", "Side", "Lasting", "Parley", "Listener", "Relay", "Desk"]
noncomputable def atN:List Str:=["grammar", "standing", "wires", "places", "side", "said", "taken", "handed", "left", "right", "under_way", "grammars", "standings", "heard", "left_grammar", "right_grammar", "rows", "pair", "broken", "parley"]
def FldR(K:gd)(c:Cf)(H:Hp):List (Str×V)->List (Str×D)->Prop:=Paired λp q=>p.1=q.1/\Rep K c H p.2 q.2
def ObR(K:gd)(c:Cf)(H:Hp)(a:gg):Ob->Prop
 |.lst ds=>∃vs,H a=some (.lst vs)/\Reps K c H vs ds
 |.dct kvs=>∃us,H a=some (.dK us)/\KVR K c H us kvs
 |.ins n fs=>(n∈Li/\∀p∈fs,p.1∈atN)/\∃C dx us,PySem.W.nsIn K mainGlobals n=some (some (.ref C))/\H a=some (.ins C dx us)/\FldR K c H us fs
theorem ObR.mono{K:gd}{c c':Cf}{H H':Hp}{a:gg}{o:Ob}(e:Ext c H c' H')(h:ObR K c H a o)(ha:H' a=H a):ObR K c' H' a o:=by
 cases o with
 |lst ds=>clear 5 h vs h1 h2;exact⟨vs,ha.trans h1,h2.mono e⟩
 |dct kvs=>clear 5 h us h1 h2;exact⟨us,ha.trans h1,Paired.mapP h2 λ_ _ z=>⟨z.1,z.2.mono e⟩⟩
 |ins n fs=>clear 5 h h0 C dx us g h1 h2;exact⟨h0,C,dx,us,g,ha.trans h1,Paired.mapP h2 λ_ _ z=>⟨z.1,z.2.mono e⟩⟩
theorem ObR.some{o:Ob}(h:ObR K c H a o):∃u,H a=some u:=by
 cases o with
 |lst ds=>obtain⟨vs,h1,_⟩:=h;exact⟨_,h1⟩
 |dct kvs=>obtain⟨us,h1,_⟩:=h;exact⟨_,h1⟩
 |ins n fs=>obtain⟨_,_,_,_,_,h1,_⟩:=h;exact⟨_,h1⟩
structure SInv(K:gd)(c:Cf)(S:List Ob)(H:Hp):Prop where
 len:c.ι.length=S.length
 nd:c.ι.Nodup
 obs:∀(k:Nat) (a:gg) (o:Ob),c.ι[k]?=some a->S[k]?=some o->ObR K c H a o
 trk:∀b,c.O b->∃o,H b=some o
 dis:∀b,c.O b->b∉c.ι
variable{S:List Ob}
theorem SInv.trkA(s:SInv K c S H){b:gg}(h:c.A b):∃o,H b=some o:=by
 rcases h with h|h
 .clear 5(List.mem_iff_getElem.mp h)k hk e;have e1:c.ι[k]?=some b:=by rw[ub3 hk,e]
  have hk':k<S.length:=by rw[<-s.len];exact hk
  exact(s.obs k b _ e1 (ub3 hk')).some
 .exact s.trk b h
theorem SInv.free(s:SInv K c S H){b:gg}(h:H b=none):¬c.A b:=λz=>by
 clear 5(s.trkA z)o e;rw[h] at e;cases e
structure FInv(K:gd)(Oo:gg->Prop)(c:Cf)(t:T)(σ:St)(H:Hp):Prop where
 s:SInv K c t.S H
 len:t.env.length=σ.length
 sub:∀b,Oo b->c.O b
 val:∀(i:Nat) (d:D),t.env[i]?=some (some (.val d))->∃v,σ[i]?=some (some v)/\Rep K c H v d
 own:∀(i:Nat) (ds:List D),t.env[i]?=some (some (.own ds))->∃a vs,σ[i]?=some (some (.ref a))/\c.O a/\¬Oo a/\H a=some (.lst vs)/\Reps K c H vs ds
 inj:∀(i j:Nat) (ds es:List D) (a:gg),t.env[i]?=some (some (.own ds))->t.env[j]?=some (some (.own es))->σ[i]?=some (some (.ref a))->σ[j]?=some (some (.ref a))->i=j
structure Stp(Oo:gg->Prop)(c:Cf)(H:Hp)(c':Cf)(H':Hp):Prop where
 ext:Ext c H c' H'
 oo:∀b,Oo b->H' b=H b
theorem Stp.refl{Oo:gg->Prop}{c:Cf}{H:Hp}:Stp Oo c H c H:=⟨.refl,λ_ _=>rfl⟩
theorem Stp.trans{Oo:gg->Prop}{c c1 c2:Cf}{H H1 H2:Hp}(a:Stp Oo c H c1 H1)(b:Stp Oo c1 H1 c2 H2):Stp Oo c H c2 H2:=
 ⟨a.ext.trans b.ext,λx h=>(b.oo x h).trans (a.oo x h)⟩
section
variable{K:gd}{Oo:gg->Prop}{c:Cf}{t:T}{σ:St}{H:Hp}
theorem Ext.laid(s:SInv K c S H){p:gg}{o:HO}(h:H p=none):Ext c H c (upd H p o):=
 ⟨λb u e _=>by rw[Az (AY e h)];exact e,λ_ _ _ z=>z,λ_ _ e=>e⟩
theorem SInv.laid{S:List Ob}(s:SInv K c S H){p:gg}{o:HO}(h:H p=none):SInv K c S (upd H p o):=
 ⟨s.len,s.nd,λk a u e1 e2=>by
  have q:=s.obs k a u e1 e2;clear 5 q.some w hw;exact q.mono (Ext.laid s h) (Az (AY hw h)),
  λb z=>by clear 5(s.trk b z)u e;exact⟨u,by rw[Az (AY e h)];exact e⟩,s.dis⟩
theorem FInv.laid(f:FInv K Oo c t σ H){p:gg}{o:HO}(h:H p=none):FInv K Oo c t σ (upd H p o):=by
 have e:=Ext.laid (o:=o) f.s h;refine⟨f.s.laid h,f.len,f.sub,λi d q=>?_,λi ds q=>?_,f.inj⟩
 .clear 5(f.val i d q)v h1 h2;exact⟨v,h1,h2.mono e⟩
 .clear 5(f.own i ds q)a vs h1 h2 h3 h4 h5;exact⟨a,vs,h1,h2,h3,by rw[Az (AY h4 h)];exact h4,h5.mono e⟩
theorem FInv.stp_laid(f:FInv K Oo c t σ H){p:gg}{o:HO}(h:H p=none):Stp Oo c H c (upd H p o):=
 ⟨Ext.laid f.s h,λb z=>by clear 5(f.s.trk b (f.sub b z))u e;exact Az (AY e h)⟩
theorem FInv.set(f:FInv K Oo c t σ H){i:Nat}{v:V}{d:D}(r:Rep K c H v d):FInv K Oo c {t with env:=t.env.set i (some (.val d))} (σ.set i (some v)) H:=by
 have neq:∀{j:Nat}{x:Sl},(t.env.set i (some (.val d)))[j]?=some (some x)->(j=i/\x=.val d/\j<t.env.length)\/(j≠i/\t.env[j]?=some (some x)):=λ{j x} q=>by
  by_cases h:j=i
  .subst h;rw[ug1] at q
   split at q
   .split at q
    .next h1=>injection q with q;injection q with q;exact .inl ⟨rfl,q.symm,h1⟩
    .cases q
   .next h1=>exact absurd rfl h1
  .rw[ud5 (Ne.symm h)] at q;exact .inr ⟨h,q⟩
 refine⟨f.s,by simp[f.len],f.sub,λj e q=>?_,λj ds q=>?_,λj k ds es a q1 q2 q3 q4=>?_⟩
 .rcases neq q with⟨rfl,z,hl⟩|⟨h,q⟩
  .cases z
   exact⟨v,by rw[ub8 (by rw[<-f.len];exact hl)],r⟩
  .clear 5(f.val j e q)u h1 h2;exact⟨u,by rw[ud5 (Ne.symm h)];exact h1,h2⟩
 .rcases neq q with⟨rfl,z,_⟩|⟨h,q⟩
  .cases z
  .clear 5(f.own j ds q)a vs h1 h2;exact⟨a,vs,by rw[ud5 (Ne.symm h)];exact h1,h2⟩
 .rcases neq q1 with⟨_,z,_⟩|⟨h,q1⟩
  .cases z
  rcases neq q2 with⟨_,z,_⟩|⟨h',q2⟩
  .cases z
  rw[ud5 (Ne.symm h)] at q3;rw[ud5 (Ne.symm h')] at q4;exact f.inj j k ds es a q1 q2 q3 q4
theorem FInv.setOwn(f:FInv K Oo c t σ H){i:Nat}{p:gg}{vs:List V}{ds:List D}(h:H p=none)(r:Reps K c H vs ds) :
 ∃c',FInv K Oo c' {t with env:=t.env.set i (some (.own ds))} (σ.set i (some (.ref p))) (upd H p (.lst vs))/\Stp Oo c H c' (upd H p (.lst vs)):=by
 let c':Cf:=⟨c.ι,λb=>c.O b\/b=p⟩
 have nA:¬c.A p:=f.s.free h;have ext:Ext c H c' (upd H p (.lst vs)):=by
  refine⟨λb u e _=>by rw[Az (AY e h)];exact e,λb u e z=>?_,λ_ _ e=>e⟩;rcases z with z|z|z
  .exact .inl z
  .exact .inr z
  .subst z;rw[h] at e;cases e
 have stp:Stp Oo c H c' (upd H p (.lst vs)):=⟨ext,λb z=>by clear 5(f.s.trk b (f.sub b z))u e;exact Az (AY e h)⟩;have sinv:SInv K c' t.S (upd H p (.lst vs)):=by
  refine⟨f.s.len,f.s.nd,λk a u e1 e2=>?_,λb z=>?_,λb z hb=>?_⟩
  .have q:=f.s.obs k a u e1 e2;clear 5 q.some w hw;exact q.mono ext (Az (AY hw h))
  .rcases z with z|z
   .clear 5(f.s.trk b z)u e;exact⟨u,by rw[Az (AY e h)];exact e⟩
   .subst z;exact⟨_,Bf⟩
  .rcases z with z|z
   .exact f.s.dis b z hb
   .subst z;exact nA (.inl hb)
 have neq:∀{j:Nat}{x:Sl},(t.env.set i (some (.own ds)))[j]?=some (some x)->(j=i/\x=.own ds/\j<t.env.length)\/(j≠i/\t.env[j]?=some (some x)):=λ{j x} q=>by
  by_cases h:j=i
  .subst h;rw[ug1] at q
   split at q
   .split at q
    .next h1=>injection q with q;injection q with q;exact .inl ⟨rfl,q.symm,h1⟩
    .cases q
   .next h1=>exact absurd rfl h1
  .rw[ud5 (Ne.symm h)] at q;exact .inr ⟨h,q⟩
 have fresh:∀(j:Nat) (es:List D),t.env[j]?=some (some (.own es))->σ[j]?≠some (some (.ref p)):=λj es q z=>by
  obtain⟨a,vs',h1,_,_,h4,_⟩:=f.own j es q;rw[h1] at z;injection z with z;injection z with z;injection z with z;subst z;rw[h] at h4;cases h4
 refine⟨c',⟨sinv,by simp[f.len],λb z=>.inl (f.sub b z),λj e q=>?_,λj es q=>?_,λj k ds' es a q1 q2 q3 q4=>?_⟩,stp⟩
 .rcases neq q with⟨_,z,_⟩|⟨hn,q⟩
  .cases z
  .clear 5(f.val j e q)u h1 h2;exact⟨u,by rw[ud5 (Ne.symm hn)];exact h1,h2.mono ext⟩
 .rcases neq q with⟨rfl,z,hl⟩|⟨hn,q⟩
  .cases z
   refine⟨p,vs,by rw[ub8 (by rw[<-f.len];exact hl)],.inr rfl,λz=>?_,Bf,r.mono ext⟩;clear 5(f.s.trk p (f.sub p z))u e;rw[h] at e;cases e
  .clear 5(f.own j es q)a ws h1 h2 h3 h4 h5;exact⟨a,ws,by rw[ud5 (Ne.symm hn)];exact h1,.inl h2,h3,by rw[Az (AY h4 h)];exact h4,h5.mono ext⟩
 .rcases neq q1 with⟨z1,z2,l1⟩|⟨n1,r1⟩
  .rcases neq q2 with⟨y1,_,_⟩|⟨n2,r2⟩
   .rw[z1,y1]
   .subst z1;rw[ub8 (by rw[<-f.len];exact l1)] at q3;injection q3 with q3;injection q3 with q3;injection q3 with q3;subst q3
    rw[ud5 (Ne.symm n2)] at q4;exact absurd q4 (fresh k es r2)
  .rcases neq q2 with⟨y1,y2,l2⟩|⟨n2,r2⟩
   .subst y1;rw[ub8 (by rw[<-f.len];exact l2)] at q4;injection q4 with q4;injection q4 with q4;injection q4 with q4;subst q4
    rw[ud5 (Ne.symm n1)] at q3;exact absurd q3 (fresh j ds' r1)
   .rw[ud5 (Ne.symm n1)] at q3;rw[ud5 (Ne.symm n2)] at q4;exact f.inj j k ds' es a r1 r2 q3 q4
theorem FInv.frz(f:FInv K Oo c t σ H){i:Nat}{ds:List D}(q:t.env[i]?=some (some (.own ds))) :
 ∃c' v,FInv K Oo c' {t with env:=t.env.set i (some (.val (.lst ds)))} σ H/\Stp Oo c H c' H/\σ[i]?=some (some v)/\Rep K c' H v (.lst ds):=by
 clear 5(f.own i ds q)a vs h1 h2 h3 h4 h5
 let c':Cf:=⟨c.ι,λb=>c.O b/\b≠a⟩
 have ext:Ext c H c' H:=⟨λ_ _ e _=>e,λb u e z=>z.elim .inl λw=>.inr w.1,λ_ _ e=>e⟩;have sinv:SInv K c' t.S H:=⟨f.s.len,f.s.nd,λk b u e1 e2=>(f.s.obs k b u e1 e2).mono ext rfl,λb z=>f.s.trk b z.1,λb z=>f.s.dis b z.1⟩;have nA:¬c'.A a:=λz=>z.elim (λw=>f.s.dis a h2 w) λw=>w.2 rfl;have hσ:σ.set i (some (.ref a))=σ:=by
  apply List.ext_getElem?;intro j
  by_cases hj:j=i
  .subst hj;rw[ub8 (by have:=(ua9.mp h1).1;exact this),h1]
  .rw[ud5 (Ne.symm hj)]
 have r:Rep K c' H (.ref a) (.lst ds):=.lst h4 nA (h5.mono ext);have f0:FInv K Oo c' {t with env:=t.env.set i (some (.val (.lst ds)))} σ H:=by
  have neq:∀{j:Nat}{x:Sl},(t.env.set i (some (.val (.lst ds))))[j]?=some (some x)->(j=i/\x=.val (.lst ds))\/(j≠i/\t.env[j]?=some (some x)):=λ{j x} q=>by
   by_cases h:j=i
   .subst h;rw[ug1] at q
    split at q
    .split at q
     .injection q with q;injection q with q;exact .inl ⟨rfl,q.symm⟩
     .cases q
    .next h1=>exact absurd rfl h1
   .rw[ud5 (Ne.symm h)] at q;exact .inr ⟨h,q⟩
  refine⟨sinv,by simp[f.len],λb z=>⟨f.sub b z,λw=>h3 (w ▸ z)⟩,λj e q'=>?_,λj es q'=>?_,λj k ds' es b q1 q2 q3 q4=>?_⟩
  .rcases neq q' with⟨rfl,z⟩|⟨hn,q'⟩
   .cases z;exact⟨_,h1,r⟩
   .clear 5(f.val j e q')u w1 w2;exact⟨u,w1,w2.mono ext⟩
  .rcases neq q' with⟨_,z⟩|⟨hn,q'⟩
   .cases z
   .clear 5(f.own j es q')b ws w1 w2 w3 w4 w5;refine⟨b,ws,w1,⟨w2,λz=>?_⟩,w3,w4,w5.mono ext⟩;subst z;exact hn (f.inj j i es ds b q' q w1 h1)
  .rcases neq q1 with⟨_,z⟩|⟨_,q1⟩
   .cases z
   rcases neq q2 with⟨_,z⟩|⟨_,q2⟩
   .cases z
   exact f.inj j k ds' es b q1 q2 q3 q4
 exact⟨c',_,f0,⟨ext,λ_ _=>rfl⟩,h1,r⟩
theorem FInv.wrOwn(f:FInv K Oo c t σ H){i:Nat}{ds ds':List D}{vs':List V}{a:gg}(q:t.env[i]?=some (some (.own ds)))(h1:σ[i]?=some (some (.ref a)))(r:Reps K c H vs' ds') :
 FInv K Oo c {t with env:=t.env.set i (some (.own ds'))} σ (upd H a (.lst vs'))/\Stp Oo c H c (upd H a (.lst vs')):=by
 clear 5(f.own i ds q)a' vs g1 h2 h3 h4 h5;rw[h1] at g1;injection g1 with g1;injection g1 with g1;injection g1 with g1;subst g1
 have ext:Ext c H c (upd H a (.lst vs')):=⟨λb u e n=>by rw[Az (λ(z:b=a)=>n (.inr (by rw[z];exact h2)))];exact e,λ_ _ _ z=>z,λ_ _ e=>e⟩;have stp:Stp Oo c H c (upd H a (.lst vs')):=⟨ext,λb z=>Az λw=>h3 (w ▸ z)⟩;have sinv:SInv K c t.S (upd H a (.lst vs')):=by
  refine⟨f.s.len,f.s.nd,λk b u e1 e2=>(f.s.obs k b u e1 e2).mono ext (Az λz=>f.s.dis a h2 (z ▸ ud6 e1)),λb z=>?_,f.s.dis⟩
  by_cases hb:b=a
  .subst hb;exact⟨_,Bf⟩
  .clear 5(f.s.trk b z)u e;exact⟨u,by rw[Az hb];exact e⟩
 have neq:∀{j:Nat}{x:Sl},(t.env.set i (some (.own ds')))[j]?=some (some x)->(j=i/\x=.own ds')\/(j≠i/\t.env[j]?=some (some x)):=λ{j x} q=>by
  by_cases h:j=i
  .subst h;rw[ug1] at q
   split at q
   .split at q
    .injection q with q;injection q with q;exact .inl ⟨rfl,q.symm⟩
    .cases q
   .next h1=>exact absurd rfl h1
  .rw[ud5 (Ne.symm h)] at q;exact .inr ⟨h,q⟩
 refine⟨⟨sinv,by simp[f.len],f.sub,λj e q'=>?_,λj es q'=>?_,λj k es es' b q1 q2 q3 q4=>?_⟩,stp⟩
 .rcases neq q' with⟨_,z⟩|⟨_,q'⟩
  .cases z
  .clear 5(f.val j e q')u w1 w2;exact⟨u,w1,w2.mono ext⟩
 .rcases neq q' with⟨rfl,z⟩|⟨hn,q'⟩
  .cases z;exact⟨a,vs',h1,h2,h3,Bf,r.mono ext⟩
  .clear 5(f.own j es q')b ws w1 w2 w3 w4 w5;have hb:b≠a:=λz=>by subst z;exact hn (f.inj j i es ds b q' q w1 h1)
   exact⟨b,ws,w1,w2,w3,by rw[Az hb];exact w4,w5.mono ext⟩
 .have old:∀{j:Nat}{x:List D},(t.env.set i (some (.own ds')))[j]?=some (some (.own x))->∃y,t.env[j]?=some (some (.own y)):=λ{j x} q'=>by
   rcases neq q' with⟨rfl,_⟩|⟨_,q'⟩
   .exact⟨ds,q⟩
   .exact⟨x,q'⟩
  clear 5(old q1)y1 z1;clear 5(old q2)y2 z2;exact f.inj j k y1 y2 b z1 z2 q3 q4
theorem FInv.wrObj(f:FInv K Oo c t σ H){k:Nat}{a:gg}{o:Ob}{u:HO}(e:c.ι[k]?=some a)(r:∀c' H',Ext c H c' H'->H' a=some u->ObR K c' H' a o) :
 FInv K Oo c {t with S:=t.S.set k o} σ (upd H a u)/\Stp Oo c H c (upd H a u):=by
 have hA:a∈c.ι:=ud6 e;have ext:Ext c H c (upd H a u):=⟨λb w h n=>by rw[Az (λ(z:b=a)=>n (.inl (by rw[z];exact hA)))];exact h,λ_ _ _ z=>z,λ_ _ e=>e⟩;have neO:∀b,c.O b->b≠a:=λb z w=>f.s.dis b z (w ▸ hA);have stp:Stp Oo c H c (upd H a u):=⟨ext,λb z=>Az (neO b (f.sub b z))⟩;have sinv:SInv K c (t.S.set k o) (upd H a u):=by
  refine⟨by simp[f.s.len],f.s.nd,λj b o' e1 e2=>?_,λb z=>?_,f.s.dis⟩
  .by_cases hj:j=k
   .subst hj;rw[e] at e1;cases e1
    have hl:j<t.S.length:=by rw[<-f.s.len];exact(ua9.mp e).1
    rw[ub8 hl] at e2;cases e2
    exact r c _ ext Bf
   .rw[ud5 (Ne.symm hj)] at e2;refine(f.s.obs j b o' e1 e2).mono ext (Az λz=>?_);subst z;clear 5(ua9.mp e1)l1 g1;clear 5(ua9.mp e)l2 g2;exact hj ((ug5 f.s.nd).mp (g1.trans g2.symm))
  .clear 5(f.s.trk b z)w h;exact⟨w,by rw[Az (neO b z)];exact h⟩
 refine⟨⟨sinv,f.len,f.sub,λi d q=>?_,λi ds q=>?_,f.inj⟩,stp⟩
 .clear 5(f.val i d q)v h1 h2;exact⟨v,h1,h2.mono ext⟩
 .clear 5(f.own i ds q)b vs h1 h2 h3 h4 h5;exact⟨b,vs,h1,h2,h3,by rw[Az (neO b h2)];exact h4,h5.mono ext⟩
theorem FInv.newObj(f:FInv K Oo c t σ H){p:gg}{o:Ob}{u:HO}(h:H p=none)(r:∀c' H',Ext c H c' H'->H' p=some u->ObR K c' H' p o) :
 ∃c',FInv K Oo c' {t with S:=t.S++[o]} σ (upd H p u)/\Stp Oo c H c' (upd H p u)/\c'.ι[t.S.length]?=some p:=by
 let c':Cf:=⟨c.ι++[p],c.O⟩
 have nA:¬c.A p:=f.s.free h;have ext:Ext c H c' (upd H p u):=by
  refine⟨λb w e _=>by rw[Az (AY e h)];exact e,λb w e z=>?_,λk a e=>?_⟩
  .rcases z with z|z
   .rcases ui1.mp z with z|z
    .exact .inl z
    .rw[uf0] at z;subst z;rw[h] at e;cases e
   .exact .inr z
  .show(c.ι++[p])[k]?=some a;rw[ub0 (ua9.mp e).1];exact e
 have stp:Stp Oo c H c' (upd H p u):=⟨ext,λb z=>by clear 5(f.s.trk b (f.sub b z))w e;exact Az (AY e h)⟩;have at_:(c.ι++[p])[t.S.length]?=some p:=by rw[<-f.s.len,ua6 (um8 _)];simp
 have sinv:SInv K c' (t.S++[o]) (upd H p u):=by
  refine⟨by simp[c',f.s.len],?_,λj b o' e1 e2=>?_,λb z=>?_,λb z hb=>?_⟩
  .show(c.ι++[p]).Nodup;exact List.nodup_append.mpr ⟨f.s.nd,by simp,λx hx y hy z=>by rw[uf0] at hy;subst z;subst hy;exact nA (.inl hx)⟩
  .have hlt:j<(t.S++[o]).length:=(ua9.mp e2).1
   by_cases hj:j<t.S.length
   .have e1':c.ι[j]?=some b:=by
     have q:(c.ι++[p])[j]?=some b:=e1;rw[ub0 (by rw[f.s.len];exact hj)] at q;exact q
    rw[ub0 hj] at e2;have q:=f.s.obs j b o' e1' e2;clear 5 q.some w hw;exact q.mono ext (Az (AY hw h))
   .have hj':j=t.S.length:=by simp at hlt;lia
    subst hj';rw[at_] at e1;cases e1
    rw[ua6 (um8 _)] at e2;simp at e2;subst e2;exact r c' _ ext Bf
  .clear 5(f.s.trk b z)w e;exact⟨w,by rw[Az (AY e h)];exact e⟩
  .rcases ui1.mp hb with w|w
   .exact f.s.dis b z w
   .rw[uf0] at w;subst w;exact nA (.inr z)
 refine⟨c',⟨sinv,f.len,f.sub,λi d q=>?_,λi ds q=>?_,f.inj⟩,stp,at_⟩
 .clear 5(f.val i d q)v h1 h2;exact⟨v,h1,h2.mono ext⟩
 .clear 5(f.own i ds q)b vs h1 h2 h3 h4 h5;exact⟨b,vs,h1,h2,h3,by rw[Az (AY h4 h)];exact h4,h5.mono ext⟩
theorem FInv.after(f:FInv K Oo c t σ H){c':Cf}{S':List Ob}{H':Hp}(s:SInv K c' S' H')(st:Stp c.O c H c' H')(ho:∀b,c'.O b↔c.O b):FInv K Oo c' {t with S:=S'} σ H'/\Stp Oo c H c' H':=by
 refine⟨⟨s,f.len,λb z=>(ho b).mpr (f.sub b z),λi d q=>?_,λi ds q=>?_,f.inj⟩,st.ext,λb z=>st.oo b (f.sub b z)⟩
 .clear 5(f.val i d q)v h1 h2;exact⟨v,h1,h2.mono st.ext⟩
 .clear 5(f.own i ds q)b vs h1 h2 h3 h4 h5;exact⟨b,vs,h1,(ho b).mpr h2,h3,(st.oo b h2).trans h4,h5.mono st.ext⟩
end
abbrev M(α:Type):=T->Option (α×T)
inductive Out where
 |next|brk|cont|ret (d:D)
noncomputable def ret{α:Type}(a:α):M α:=λt=>some (a,t)
noncomputable def fail{α:Type}:M α:=λ_=>none
noncomputable def bnd{α β:Type}(f:M α)(g:α->M β):M β:=λt=>match f t with
 |some (a,t1)=>g a t1
 |none=>none
variable{t:T}
theorem Ai{α β:Type}{f:M α}{g:α->M β}{z:β×T}(h:bnd f g t=some z):∃a t1,f t=some (a,t1)/\g a t1=some z:=by
 unfold bnd at h
 cases e:f t with
 |none=>rw[e] at h;cases h
 |some p=>clear 5 p a t1;rw[e] at h;exact⟨a,t1,rfl,h⟩
noncomputable def LIM:Nat:=100000
theorem DR:LIM<=sizeLine:=by unfold LIM;decide
theorem Xu:LIM<sizeLine:=by unfold LIM;decide
section
variable(K:gd)
inductive RE(f:M D)(σ:L2.St)(H:Hp)(Q:VK):Prop where
 |mk (Oo:gg->Prop) (c:Cf) (t:T) (fi:FInv K Oo c t σ H) (r:D) (t':T) (e:f t=some (r,t')) (k:∀v H' c',FInv K Oo c' t' σ H'->Stp Oo c H c' H'->Rep K c' H' v r->Q v H'):RE f σ H Q
inductive RT(f:M Bool)(σ:L2.St)(H:Hp)(Q:Bool->Hp->Prop):Prop where
 |mk (Oo:gg->Prop) (c:Cf) (t:T) (fi:FInv K Oo c t σ H) (r:Bool) (t':T) (e:f t=some (r,t')) (k:∀H' c',FInv K Oo c' t' σ H'->Stp Oo c H c' H'->Q r H'):RT f σ H Q
inductive RA(f:M (List D))(σ:L2.St)(H:Hp)(Q:List V->Hp->Prop):Prop where
 |mk (Oo:gg->Prop) (c:Cf) (t:T) (fi:FInv K Oo c t σ H) (r:List D) (t':T) (e:f t=some (r,t')) (k:∀vs H' c',FInv K Oo c' t' σ H'->Stp Oo c H c' H'->Reps K c' H' vs r->Q vs H'):RA f σ H Q
inductive RF(f:M (List D))(σ:L2.St)(H:Hp)(Q:VK):Prop where
 |mk (Oo:gg->Prop) (c:Cf) (t:T) (fi:FInv K Oo c t σ H) (ds:List D) (t':T) (e:f t=some (ds,t')) (k:∀p vs H' c',FInv K Oo c' t' σ H'->Stp Oo c H c' H'->Reps K c' H' vs ds->H' p=none->Q (.ref p) (upd H' p (.lst vs))):RF f σ H Q
inductive RSg(μ:Cf->Hp->D->(V->Hp->Prop)->Prop)(f:M Out)(E:Ends)(σ:L2.St)(H:Hp):Prop where
 |mk (Oo:gg->Prop) (c:Cf) (t:T) (fi:FInv K Oo c t σ H) (o:Out) (t':T) (e:f t=some (o,t')) (k:∀σ' H' c',FInv K Oo c' t' σ' H'->Stp Oo c H c' H'->
 match (generalizing:=false) o with
 |.next=>E.nx σ' H'
 |.brk=>E.bk σ' H'
 |.cont=>E.ct σ' H'
 |.ret r=>μ c' H' r E.rt):RSg μ f E σ H
def μR:Cf->Hp->D->(V->Hp->Prop)->Prop:=λc H r rt=>∀v,Rep K c H v r->rt v H
def μF:Cf->Hp->D->(V->Hp->Prop)->Prop:=λc H r rt=>match r with
 |.lst ds=>∀p us,H p=none->Reps K c H us ds->rt (.ref p) (upd H p (.lst us))
 |_=>False
abbrev RS(f:M Out):TS:=RSg K (μR K) f
inductive RG(f:D->M Unit)(v:V)(σ:L2.St)(H:Hp)(Q:L2.St->Hp->Prop):Prop where
 |mk (Oo:gg->Prop) (c:Cf) (t:T) (d:D) (fi:FInv K Oo c t σ H) (r:Rep K c H v d) (t':T) (e:f d t=some ((),t')) (k:∀σ' H' c',FInv K Oo c' t' σ' H'->Stp Oo c H c' H'->Q σ' H'):RG f v σ H Q
structure ItOk(J:It)(c:Cf)(H:Hp)(ds:List D):Prop where
 go:∀c' H' (i:Nat),Ext c H c' H'->i<ds.length->J.go i H'
 yld:∀c' H' (i:Nat) x H'' d,Ext c H c' H'->ds[i]?=some d->J.yld i H' x H''->H''=H'/\Rep K c' H' x d
 stop:∀c' H',Ext c H c' H'->J.stop ds.length H'
inductive RI(f:M (List D))(σ:L2.St)(H:Hp)(R:It->Hp->Prop):Prop where
 |mk (Oo:gg->Prop) (c:Cf) (t:T) (fi:FInv K Oo c t σ H) (ds:List D) (t':T) (e:f t=some (ds,t')) (k:∀J H' c',FInv K Oo c' t' σ H'->Stp Oo c H c' H'->ItOk K J c' H' ds->R J H'):RI f σ H R
def Xy(R:V->Hp->VK->Prop)(h:D->M D):Prop:=∀{Oo:gg->Prop}{c:Cf}{t:T}{σ:L2.St}{H:Hp}{x:V}{dx r:D}{t':T}{Q:VK},FInv K Oo c t σ H->Rep K c H x dx->h dx t=some (r,t')->
 (∀v H' c',FInv K Oo c' t' σ H'->Stp Oo c H c' H'->Rep K c' H' v r->Q v H')->R x H Q
def BG(R:R2)(h:D->D->M D):Prop:=∀{Oo:gg->Prop}{c:Cf}{t:T}{σ:L2.St}{H:Hp}{x y:V}{dx dy r:D}{t':T}{Q:VK},FInv K Oo c t σ H->Rep K c H x dx->Rep K c H y dy->h dx dy t=some (r,t')->
 (∀v H' c',FInv K Oo c' t' σ H'->Stp Oo c H c' H'->Rep K c' H' v r->Q v H')->R x y H Q
def F5(R:List V->Hp->VK->Prop)(h:List D->M D):Prop:=∀{Oo:gg->Prop}{c:Cf}{t:T}{σ:L2.St}{H:Hp}{xs:List V}{ds:List D}{r:D}{t':T}{Q:VK},FInv K Oo c t σ H->Reps K c H xs ds->h ds t=some (r,t')->
 (∀v H' c',FInv K Oo c' t' σ H'->Stp Oo c H c' H'->Rep K c' H' v r->Q v H')->R xs H Q
def Pi(R:R2)(h:D->D->M (List D)):Prop:=∀{Oo:gg->Prop}{c:Cf}{t:T}{σ:L2.St}{H:Hp}{x y:V}{dx dy:D}{r:List D}{t':T}{Q:VK},FInv K Oo c t σ H->Rep K c H x dx->Rep K c H y dy->h dx dy t=some (r,t')->
 (∀p vs H' c',FInv K Oo c' t' σ H'->Stp Oo c H c' H'->Reps K c' H' vs r->H' p=none->Q (.ref p) (upd H' p (.lst vs)))->R x y H Q
def Mm(R:List V->Hp->VK->Prop)(h:List D->M (List D)):Prop:=∀{Oo:gg->Prop}{c:Cf}{t:T}{σ:L2.St}{H:Hp}{xs:List V}{ds r:List D}{t':T}{Q:VK},FInv K Oo c t σ H->Reps K c H xs ds->h ds t=some (r,t')->
 (∀p vs H' c',FInv K Oo c' t' σ H'->Stp Oo c H c' H'->Reps K c' H' vs r->H' p=none->Q (.ref p) (upd H' p (.lst vs)))->R xs H Q
end
variable{tg:Expr}{j i:Nat}{f g:M D}{h:D->D->M D}{R:R2}{op:CmpOp}{σ:L2.St}
section
variable{X:Cx}{e a b:Expr}{pos:Pos}
theorem A4{t t':TE}(h:PE X e t)(i:∀σ H Q,t' σ H Q->t σ H Q):PE X e t':=λge s σ H Q I q=>h ge s σ H Q I (i σ H Q q)
theorem MC{t t':TT}(h:PT X e t)(i:∀σ H Q,t' σ H Q->t σ H Q):PT X e t':=λge s σ H Q I q=>h ge s σ H Q I (i σ H Q q)
theorem Qx{t t':TT}(h:PW X e t)(i:∀σ H Q,t' σ H Q->t σ H Q):PW X e t':=λw ge s σ H Q I q=>h w ge s σ H Q I (i σ H Q q)
theorem Qv{es:List Expr}{t t':TA}(h:PA X es t)(i:∀σ H Q,t' σ H Q->t σ H Q):PA X es t':=λpos ge s σ H Q I q=>h pos ge s σ H Q I (i σ H Q q)
theorem Bt{st:Stmt}{t t':TS}(h:PS X st t)(i:∀E σ H,t' E σ H->t E σ H):PS X st t':=λge s σ H E I q=>h ge s σ H E I (i E σ H q)
theorem On{st:List Stmt}{t t':TS}(h:PSs X st t)(i:∀E σ H,t' E σ H->t E σ H):PSs X st t':=λge s σ H E I q=>h ge s σ H E I (i E σ H q)
theorem MA{t t':TG}(h:PG X e t)(i:∀v σ H Q,t' v σ H Q->t v σ H Q):PG X e t':=λge s σ H v u Q I r q=>h ge s σ H v u Q I r (i v σ H Q q)
theorem MB{t t':TI}(h:PI X tg e t)(i:∀σ H R,t' σ H R->t σ H R):PI X tg e t':=λge s σ H R I q=>h ge s σ H R I (i σ H R q)
def fC(d:D):M D:=ret d
theorem Iv{v:V}{d:D}(h:PE X e (tC v))(r:∀c H,Rep X.K c H v d):PE X e (RE X.K (fC d)):=
 A4 h λσ H Q z9=>by
  clear 5 z9 Oo c t f r' t' eq k
  cases eq
  exact k v H c f .refl (r c H)
theorem Yb{i:Int}:PE X (.Constant (.int i) j pos) (RE X.K (fC (.int i))):=Iv Zg λ_ _=>.int i
theorem aE{i:Bool}:PE X (.Constant (.bool i) j pos) (RE X.K (fC (.bl i))):=Iv aW λ_ _=>.bl i
theorem Yg{i:Str}:PE X (.Constant (.str i) j pos) (RE X.K (fC (.str i))):=Iv R0 λ_ _=>.str i
theorem Yc:PE X (.Constant .none j pos) (RE X.K (fC .non)):=Iv Zi λ_ _=>.non
theorem Lk{x:Str}{i:Int}{tk:Tok}(hg:Gl X x)(hm:X.mg x=some (.int i tk))(hd:(x==("__debug__":Str))=false:=by decide):PE X (.Name x pos) (RE X.K (fC (.int i))):=
 Iv (Ls hg hm (v:=.int i) ⟨tk,rfl⟩ hd) λ_ _=>.int i
theorem Th{x:Str}{y:Str}{tk:Tok}(hg:Gl X x)(hm:X.mg x=some (.str y tk))(hd:(x==("__debug__":Str))=false:=by decide):PE X (.Name x pos) (RE X.K (fC (.str y))):=
 Iv (Ls hg hm (v:=.str y) ⟨tk,rfl⟩ hd) λ_ _=>.str y
def Tx(K:gd)(a:gg)(xs:List Str):Bool:=match K.lookup a with
 |some o=>(match o.cls with | .type n=>n == "tuple" |_=>false)&&(match o.data with | .seq its _=>decide (its.size<=15)&&decide (its.toList.length=xs.length)&&((its.toList.zip xs).all λp=>match p.1 with | .str y _=>y==p.2|_=>false)|_=>false)
 |none=>false
theorem Ng:∀{us:List gf}{xs:List Str},us.length=xs.length->((us.zip xs).all λp=>match p.1 with | .str y _=>y==p.2|_=>false)=true->Vals (xs.map V.str) us
 |[],[],_,_=>.nil
 |u::us,x::xs,h,e=>by
   rw[List.zip_cons_cons,uk8,uh0] at e;refine .cons ?_ (Ng (Nat.succ.inj h) e.2)
   cases u with
   |str y t=>have:=eq_of_beq e.1;dsimp only at this;subst this;exact⟨t,rfl⟩
   |_=>cases e.1
theorem Yy{a:gg}{xs:List Str}(h:Tx K a xs=true):Pe K a xs:=by
 unfold Tx at h
 split at h
 .next o e=>
  rw[uh0] at h;clear 5 h h1 h2
  split at h1
  .next n en=>
   split at h2
   .next its m ed=>
    rw[uh0,uh0] at h2;refine⟨o,its,m,e,by rw[en,eq_of_beq h1],ed,ul9 (ug4 h2.1.1) (by decide),Ng (ug4 h2.1.2) h2.2⟩
   .cases h2
  .cases h1
 .cases h
theorem Ya{x:Str}{a:gg}{xs:List Str}(hg:Gl X x)(hm:X.mg x=some (.ref a))(hk:Pe X.K a xs)(hd:(x==("__debug__":Str))=false:=by decide):PE X (.Name x pos) (RE X.K (fC (.gts xs))):=
 Iv (Ls hg hm (v:=.ref a) rfl hd) λ_ _=>.gts hk
theorem Kr{x:Str}{n:String}(hg:Gl X x)(hm:X.mg x=none)(hv:bootBuiltins x=some (.type n))(hn:x≠"__name__":=by decide)(hd:(x==("__debug__":Str))=false:=by decide):PE X (.Name x pos) (RE X.K (fC (.ty n))):=
 Iv (Wh hg hm hv (v:=.ty n) rfl hn hd) λ_ _=>.ty n
noncomputable def Aa(i:Nat):M D:=λt=>match t.env[i]? with
 |some (some (.val d))=>some (d,t)
 |some (some (.own ds))=>some (.lst ds,{t with env:=t.env.set i (some (.val (.lst ds)))})
 |_=>none
theorem Pv{t':T}{r:D}(h:Aa i t=some (r,t')):(t.env[i]?=some (some (.val r))/\t'=t)\/∃ds,t.env[i]?=some (some (.own ds))/\r=.lst ds/\t' = {t with env:=t.env.set i (some (.val (.lst ds)))}:=by
 unfold Aa at h
 cases e:t.env[i]? with
 |none=>rw[e] at h;cases h
 |some o=>
   cases o with
   |none=>rw[e] at h;cases h
   |some sl=>
     cases sl with
     |val d=>rw[e] at h;cases h;exact .inl ⟨rfl,rfl⟩
     |own ds=>rw[e] at h;cases h;exact .inr ⟨ds,rfl,rfl,rfl⟩
theorem Yh(i:Nat){x:Str}(hN:X.N[i]?=some x:=by rfl)(hv:Vis X.env.scope x:=by walk_at"h")(hd:(x==("__debug__":Str))=false:=by decide)
 (hcd:(x==("__classdict__":Str))=false:=by decide):PE X (.Name x pos) (RE X.K (Aa i)):=
 A4 (KD hN hv hd hcd) λσ H Q z9=>by
  clear 5 z9 Oo c t f r t' eq k;rcases Pv eq with⟨q,rfl⟩|⟨ds,q,rfl,rfl⟩
  .clear 5(f.val i r q)v h1 h2;exact⟨v,h1,k v H c f .refl h2⟩
  .clear 5(f.frz q)c' v f' st h1 h2;exact⟨v,h1,k v H c' f' st h2⟩
def Ac(f g:M D)(h:D->D->M D):M D:=bnd f λx=>bnd g λy=>h x y
theorem RE.two(s:BG K R h){σ:L2.St}{H:Hp}{Q:VK}(q:RE K (Ac f g h) σ H Q):tOp R (RE K f) (RE K g) σ H Q:=by
 clear 5 q Oo c t fi r t' eq k;clear 5(Ai eq)dx t1 e1 eq;clear 5(Ai eq)dy t2 e2 eq;exact⟨Oo,c,t,fi,dx,t1,e1,λx H1 c1 f1 s1 rx=>⟨Oo,c1,t1,f1,dy,t2,e2,λy H2 c2 f2 s2 ry=>s f2 (rx.mono s2.ext) ry eq λv H' c' f' s' rv=>k v H' c' f' ((s1.trans s2).trans s') rv⟩⟩
theorem Jc{op:Operator}(ho:OpR X (binaryOp op) R)(s:BG X.K R h)(ha:PE X a (RE X.K f))(hb:PE X b (RE X.K g)):PE X (.BinOp a op b pos) (RE X.K (Ac f g h)):=
 A4 (PY ho ha hb) λ_ _ _ q=>RE.two s q
theorem Kq(ho:OpR X (compareOp op) R)(s:BG X.K R h)(ha:PE X a (RE X.K f))(hb:PE X b (RE X.K g))(hm:behindInMarks op b=false):PE X (.Compare a [op] [b] pos) (RE X.K (Ac f g h)):=
 A4 (Wi ho ha hb hm) λ_ _ _ q=>RE.two s q
theorem UU(hr:IxR X R)(s:BG X.K R h)(ha:PE X a (RE X.K f))(hb:PE X b (RE X.K g))(hs:Op b):PE X (.Subscript a b pos) (RE X.K (Ac f g h)):=
 A4 (aX hr ha hb hs) λ_ _ _ q=>RE.two s q
def fUn(f:M D)(h:D->M D):M D:=bnd f h
theorem aF{op:UnaryOp}{R:V->Hp->VK->Prop}{h:D->M D}(ho:UnR X (unaryOp op) R)(s:Xy X.K R h)(ha:PE X a (RE X.K f)):PE X (.UnaryOp op a pos) (RE X.K (fUn f h)):=
 A4 (aY ho ha) λσ H Q z9=>by
  clear 5 z9 Oo c t fi r t' eq k;clear 5(Ai eq)dx t1 e1 eq;exact⟨Oo,c,t,fi,dx,t1,e1,λx H1 c1 f1 s1 rx=>s f1 rx eq λv H' c' f' s' rv=>k v H' c' f' (s1.trans s') rv⟩
def toB:D->M Bool
 |.bl b=>ret b
 |_=>fail
def Ao(f:M D):M Bool:=bnd f toB
theorem JW{d:D}{z:Bool×T}(h:toB d t=some z):∃b,d=.bl b/\z=(b,t):=by
 cases d with
 |bl b=>cases h;exact⟨b,rfl,rfl⟩
 |_=>cases h
theorem RT.val{Q:Bool->Hp->Prop}(q:RT K (Ao f) σ H Q):RE K f σ H λx H1=>∃k,x=.bl k/\Q k H1:=by
 clear 5 q Oo c t fi r t' eq k;clear 5(Ai eq)d t1 e1 eq;clear 5(JW eq)b rfl z
 cases z
 refine⟨Oo,c,t,fi,_,t',e1,λv H1 c1 f1 s1 rv=>?_⟩
 cases rv
 exact⟨r,rfl,k H1 c1 f1 s1⟩
theorem Q6(h:PE X e (RE X.K f))(he:∀whole,isTrue e X.env whole=(do let v <-whole;standAt e.pos;holding [v] (truthy v)):=by intro _;rfl):PT X e (RT X.K (Ao f)):=
 MC (Zw h he) λ_ _ _ q=>RT.val q
theorem FD(ho:OpR X (compareOp op) R)(s:BG X.K R h)(ha:PE X a (RE X.K f))(hb:PE X b (RE X.K g))(hm:behindInMarks op b=false):PT X (.Compare a [op] [b] pos) (RT X.K (Ao (Ac f g h))):=
 MC (WA ho ha hb hm) λσ H Q q=>RE.two s (RT.val q)
def FA(f g w:M D)(h h':D->D->M D):M D:=bnd f λx=>bnd g λy=>bnd (Ao (h x y)) λk=>if k=true then bnd w λz=>h' y z else ret (.bl false)
theorem RE.chain{w:M D}{h':D->D->M D}{R':R2}(s:BG K R h)(s':BG K R' h'){σ:L2.St}{H:Hp}{Q:VK}(q:RE K (FA f g w h h') σ H Q):Sw R R' (RE K f) (RE K g) (RE K w) σ H Q:=by
 clear 5 q Oo c t fi r t' eq k;clear 5(Ai eq)dx t1 e1 eq;clear 5(Ai eq)dy t2 e2 eq;clear 5(Ai eq)kb t3 e3 eq;clear 5(Ai e3)d3 t3' e3' e3;clear 5(JW e3)b3 rfl z
 cases z
 refine⟨Oo,c,t,fi,dx,t1,e1,λx H1 c1 f1 s1 rx=>⟨Oo,c1,t1,f1,dy,t2,e2,λy H2 c2 f2 s2 ry=>s f2 (rx.mono s2.ext) ry e3' λv H3 c3 f3 s3 rv=>?_⟩⟩
 cases rv
 refine⟨kb,rfl,?_⟩
 cases kb with
 |false=>
   rw[kS ue6] at eq⊢
   cases eq
   exact k _ H3 c3 f3 ((s1.trans s2).trans s3) (.bl false)
 |true=>
   rw[kQ rfl] at eq⊢;clear 5(Ai eq)dz t4 e4 eq;exact⟨Oo,c3,t3,f3,dz,t4,e4,λw' H4 c4 f4 s4 rw'=>s' f4 (ry.mono (s3.trans s4).ext) rw' eq λv H' c' f' s' rv=>k v H' c' f' ((((s1.trans s2).trans s3).trans s4).trans s') rv⟩
theorem Tf{d:Expr}{op':CmpOp}{R':R2}{w:M D}{h':D->D->M D}(ho:OpR X (compareOp op) R)(ho':OpR X (compareOp op') R')(s:BG X.K R h)(s':BG X.K R' h')(ha:PE X a (RE X.K f))(hb:PE X b (RE X.K g))(hd:PE X d (RE X.K w))
 (hm:lastMarks [op,op'] [b,d]=false:=by with_unfolding_all rfl):PE X (.Compare a [op,op'] [b,d] pos) (RE X.K (FA f g w h h')):=
 A4 (T2 ho ho' ha hb hd hm) λ_ _ _ q=>RE.chain s s' q
def Hu(f g:M Bool):M Bool:=bnd f λk=>if k=true then g else ret false
def fOr(f g:M Bool):M Bool:=bnd f λk=>if k=true then ret true else g
def CD(f:M Bool):M Bool:=bnd f λk=>ret (!k)
def Dp(f g:M D):M D:=bnd (Ao f) λk=>if k=true then g else ret (.bl false)
def XZ(f g:M D):M D:=bnd (Ao f) λk=>if k=true then ret (.bl true) else g
def Ja(f:M D):M D:=bnd (Ao f) λk=>ret (.bl (!k))
def fIf(f:M Bool)(g h:M D):M D:=bnd f λk=>if k=true then g else h
variable{f g:M Bool}{u v w:M D}{rest:List Expr}
theorem aN(h:PW X e (RT X.K f)):PT X e (RT X.K f):=h.pt
theorem VM(ha:PT X a (RT X.K f)):PW X (.BoolOp .And [a] pos) (RT X.K f):=WC ha
theorem Yw(ha:PT X a (RT X.K f)):PW X (.BoolOp .Or [a] pos) (RT X.K f):=Zy ha
theorem Yv(ha:PT X a (RT X.K f))(hb:PW X (.BoolOp .And (b::rest) pos) (RT X.K g)):PW X (.BoolOp .And (a::b::rest) pos) (RT X.K (Hu f g)):=
 Qx (Zx ha hb) λσ H Q z9=>by
  clear 5 z9 Oo c t fi r t' eq k;clear 5(Ai eq)kb t1 e1 eq;refine⟨Oo,c,t,fi,kb,t1,e1,λH1 c1 f1 s1=>?_⟩
  cases kb with
  |false=>rw[kS ue6] at eq⊢;cases eq;exact k H1 c1 f1 s1
  |true=>rw[kQ rfl] at eq⊢;exact⟨Oo,c1,t1,f1,r,t',eq,λH2 c2 f2 s2=>k H2 c2 f2 (s1.trans s2)⟩
theorem aO(ha:PT X a (RT X.K f))(hb:PW X (.BoolOp .Or (b::rest) pos) (RT X.K g)):PW X (.BoolOp .Or (a::b::rest) pos) (RT X.K (fOr f g)):=
 Qx (bg ha hb) λσ H Q z9=>by
  clear 5 z9 Oo c t fi r t' eq k;clear 5(Ai eq)kb t1 e1 eq;refine⟨Oo,c,t,fi,kb,t1,e1,λH1 c1 f1 s1=>?_⟩
  cases kb with
  |true=>rw[kQ rfl] at eq⊢;cases eq;exact k H1 c1 f1 s1
  |false=>rw[kS ue6] at eq⊢;exact⟨Oo,c1,t1,f1,r,t',eq,λH2 c2 f2 s2=>k H2 c2 f2 (s1.trans s2)⟩
theorem Yu(ha:PT X a (RT X.K f)):PT X (.UnaryOp .Not a pos) (RT X.K (CD f)):=
 MC (Zv ha) λσ H Q z9=>by
  clear 5 z9 Oo c t fi r t' eq k;clear 5(Ai eq)kb t1 e1 eq
  cases eq
  exact⟨Oo,c,t,fi,kb,_,e1,λH1 c1 f1 s1=>k H1 c1 f1 s1⟩
theorem N1{f:M D}{kb:Bool}{t1:T}(h:Ao f t=some (kb,t1)):f t=some (.bl kb,t1):=by
 clear 5(Ai h)d t2 e1 e2;clear 5(JW e2)b rfl z
 cases z
 exact e1
theorem Yf{op:PySem.BoolOp}(h:PE X a (RE X.K u)):PE X (.BoolOp op [a] pos) (RE X.K u):=Zk h
theorem X8(ha:PE X a (RE X.K u))(hb:PE X (.BoolOp .And (b::rest) pos) (RE X.K v)):PE X (.BoolOp .And (a::b::rest) pos) (RE X.K (Dp u v)):=
 A4 (Ze ha hb) λσ H Q z9=>by
  clear 5 z9 Oo c t fi r t' eq k;clear 5(Ai eq)kb t1 e1 eq;refine⟨Oo,c,t,fi,_,t1,N1 e1,λx H1 c1 f1 s1 rx=>?_⟩
  cases rx
  refine⟨kb,rfl,?_⟩
  cases kb with
  |false=>rw[kS ue6] at eq⊢;cases eq;exact k _ H1 c1 f1 s1 (.bl false)
  |true=>rw[kQ rfl] at eq⊢;exact⟨Oo,c1,t1,f1,r,t',eq,λy H2 c2 f2 s2 ry=>k y H2 c2 f2 (s1.trans s2) ry⟩
theorem Yd(ha:PE X a (RE X.K u)):PE X (.UnaryOp .Not a pos) (RE X.K (Ja u)):=
 A4 (Zj ha) λσ H Q z9=>by
  clear 5 z9 Oo c t fi r t' eq k;clear 5(Ai eq)kb t1 e1 eq
  cases eq
  refine⟨Oo,c,t,fi,_,_,N1 e1,λx H1 c1 f1 s1 rx=>?_⟩
  cases rx
  exact⟨kb,rfl,k _ H1 c1 f1 s1 (.bl (!kb))⟩
theorem Ti{d:Expr}(hc:PT X d (RT X.K f))(ha:PE X a (RE X.K u))(hb:PE X b (RE X.K v)):PE X (.IfExp d a b pos) (RE X.K (fIf f u v)):=
 A4 (T4 hc ha hb) λσ H Q z9=>by
  clear 5 z9 Oo c t fi r t' eq k;clear 5(Ai eq)kb t1 e1 eq;refine⟨Oo,c,t,fi,kb,t1,e1,λH1 c1 f1 s1=>?_⟩
  cases kb with
  |false=>rw[kS ue6] at eq⊢;exact⟨Oo,c1,t1,f1,r,t',eq,λy H2 c2 f2 s2 ry=>k y H2 c2 f2 (s1.trans s2) ry⟩
  |true=>rw[kQ rfl] at eq⊢;exact⟨Oo,c1,t1,f1,r,t',eq,λy H2 c2 f2 s2 ry=>k y H2 c2 f2 (s1.trans s2) ry⟩
end
variable{n:Nat}{p:Pos}
section
variable{X:Cx}{e a b:Expr}{es:List Expr}{pos:Pos}
def Ad:M (List D):=ret []
def Ab(f:M D)(g:M (List D)):M (List D):=bnd f λd=>bnd g λds=>ret (d::ds)
theorem X7:PA X [] (RA X.K Ad):=Qv Zd λσ H Q z9=>by
 clear 5 z9 Oo c t fi r t' eq k
 cases eq
 exact k [] H c fi .refl .nil
theorem Vs{g:M (List D)}(ha:PE X e (RE X.K f))(hr:PA X es (RA X.K g))(hs:starEach (e::es) X.env=(false,eval e X.env)::starEach es X.env:=by rfl):PA X (e::es) (RA X.K (Ab f g)):=
 Qv (We ha hr hs) λσ H Q z9=>by
  clear 5 z9 Oo c t fi r t' eq k;clear 5(Ai eq)d t1 e1 eq;clear 5(Ai eq)ds t2 e2 eq
  cases eq
  exact⟨Oo,c,t,fi,d,t1,e1,λx H1 c1 f1 s1 rx=>⟨Oo,c1,t1,f1,ds,_,e2,λxs H2 c2 f2 s2 rxs=>k _ H2 c2 f2 (s1.trans s2) (.cons (rx.mono s2.ext) rxs)⟩⟩
def lim{α:Type}(n:Nat)(a:α):M α:=λt=>if n<=LIM then some (a,t) else none
theorem Ez{α:Type}{a:α}{z:α×T}(h:lim n a t=some z):n<=LIM/\z=(a,t):=by
 unfold lim at h
 split at h
 .next h1=>cases h;exact⟨h1,rfl⟩
 .cases h
def AT(f:M (List D)):M D:=bnd f λds=>lim ds.length (.tup ds)
theorem QS{x1:Nat}{f:M (List D)}(h:PA X es (RA X.K f)):PE X (.Tuple es x1 pos) (RE X.K (AT f)):=
 A4 (Zl h) λσ H Q z9=>by
  clear 5 z9 Oo c t fi r t' eq k;clear 5(Ai eq)ds t1 e1 eq;clear 5(Ez eq)hl z
  cases z
  refine⟨Oo,c,t,fi,ds,_,e1,λxs H1 c1 f1 s1 rxs=>⟨by rw[rxs.length];exact ul9 hl DR,λp hp=>?_⟩⟩;exact k _ _ c1 (f1.laid hp) (s1.trans (f1.stp_laid hp)) (.tup Bf (f1.s.free hp) (rxs.mono (Ext.laid f1.s hp)))
def Bn(f:M (List D)):M (List D):=bnd f λds=>lim ds.length ds
theorem Yj{f:M (List D)}(h:PA X es (RA X.K f)):PE X (.List es pos) (RF X.K (Bn f)):=
 A4 (Zh h) λσ H Q z9=>by
  clear 5 z9 Oo c t fi r t' eq k;clear 5(Ai eq)ds t1 e1 eq;clear 5(Ez eq)hl z
  cases z
  exact⟨Oo,c,t,fi,_,_,e1,λxs H1 c1 f1 s1 rxs=>⟨by rw[rxs.length];exact ul9 hl DR,λp hp=>k p xs H1 c1 f1 s1 rxs hp⟩⟩
def AK(f:M (List D)):M D:=bnd f λds=>ret (.lst ds)
theorem Vx{f:M (List D)}(h:PE X e (RF X.K f)):PE X e (RE X.K (AK f)):=
 A4 h λσ H Q z9=>by
  clear 5 z9 Oo c t fi r t' eq k;clear 5(Ai eq)ds t1 e1 eq
  cases eq
  exact⟨Oo,c,t,fi,ds,_,e1,λp xs H1 c1 f1 s1 rxs hp=>k _ _ c1 (f1.laid hp) (s1.trans (f1.stp_laid hp)) (.lst Bf (f1.s.free hp) (rxs.mono (Ext.laid f1.s hp)))⟩
noncomputable def PR(o:Ob):M D:=λt=>some (.obj t.S.length,{t with S:=t.S++[o]})
def FI(f:M (List D)):M D:=bnd f λds=>PR (.lst ds)
theorem Ye{f:M (List D)}(h:PE X e (RF X.K f)):PE X e (RE X.K (FI f)):=
 A4 h λσ H Q z9=>by
  clear 5 z9 Oo c t fi r t' eq k;clear 5(Ai eq)ds t1 e1 eq
  cases eq
  refine⟨Oo,c,t,fi,ds,_,e1,λp xs H1 c1 f1 s1 rxs hp=>?_⟩;obtain⟨c2,f2,s2,e2⟩:=f1.newObj (o:=.lst ds) (u:=.lst xs) hp λc' H' ex hu=>⟨xs,hu,rxs.mono ex⟩;exact k _ _ c2 f2 (s1.trans s2) (.obj e2)
abbrev Fn:=List D->List Ob->Option (D×List Ob)
inductive spF(K:gd)(f:Fn)(vs:List V)(H:Hp)(Q:VK)(E:XK):Prop where
 |mk (c:Cf) (ds:List D) (S:List Ob) (si:SInv K c S H) (rs:Reps K c H vs ds) (r:D) (S':List Ob) (e:f ds S=some (r,S')) (k:∀v H' c',SInv K c' S' H'->Stp c.O c H c' H'->(∀b,c'.O b↔c.O b)->Rep K c' H' v r->Q v H'):spF K f vs H Q E
def Am(g:Fn)(f:M (List D)):M D:=bnd f λds t=>match g ds t.S with
 |some (r,S')=>some (r,{t with S:=S'})
 |none=>none
theorem GA{g:Fn}{ds:List D}{r:D}{t':T}(h:(match g ds t.S with|some (r,S')=>some (r,{t with S:=S'})|none=>none:Option (D×T))=some (r,t')):∃S',g ds t.S=some (r,S')/\t' = {t with S:=S'}:=by
 cases e:g ds t.S with
 |none=>rw[e] at h;cases h
 |some p=>clear 5 p r' S';rw[e] at h;cases h;exact⟨S',rfl,rfl⟩
theorem Vu{k:Nat}{fa:gg}{fd:gk}{ps:List Str}{g:Fn}{f:M (List D)}{x:Str}(F:FnOk X.prog X.w X.K X.mg X.base CX0 k fa fd ps (spF X.K g))(hr:Room k X.A)(hg:Gl X x)(hm:X.mg x=some (.ref fa))(hk:PySem.W.keepIn X.K (.ref fa)=true)(hb:Binds X.K fd ps [])
 (ha:PA X (e::es) (RA X.K f)) (hdb:(x==("__debug__":Str))=false:=by decide) (he:starEach (e::es) X.env=(false,eval e X.env)::starEach es X.env:=by rfl) (hpl:(backTo pos (starEach es X.env)).any (·.1)=false:=by rfl) :
 PE X (.Call (.Name x p) (e::es) [] pos) (RE X.K (Am g f)):=
 A4 (OU F hr hg hm hk hb .nil Jm ha hdb he hpl) λσ H Q z9=>by
  clear 5 z9 Oo c t fi r t' eq kk;clear 5(Ai eq)ds t1 e1 eq;clear 5(GA eq)S' e2 rfl;refine⟨Oo,c,t,fi,ds,t1,e1,λvs H1 c1 f1 s1 rvs=>?_⟩;show spF X.K g (vs++[]) H1 Q E0;rw[ui5];refine⟨c1,ds,t1.S,f1.s,rvs,r,S',e2,λv H' c' si st ho rv=>?_⟩;clear 5(f1.after si st ho)f2 s2;exact kk v H' c' f2 (s1.trans s2) rv
def fB(f:M (List D))(h:List D->M D):M D:=bnd f h
theorem RE.callB{f:M (List D)}{h:List D->M D}{R:List V->Hp->VK->Prop}(s:F5 K R h){σ:L2.St}{H:Hp}{Q:VK}(q:RE K (fB f h) σ H Q):tCB R (RA K f) σ H Q:=by
 clear 5 q Oo c t fi r t' eq k;clear 5(Ai eq)ds t1 e1 eq;exact⟨Oo,c,t,fi,ds,t1,e1,λxs H1 c1 f1 s1 rxs=>s f1 rxs eq λv H' c' f' s' rv=>k v H' c' f' (s1.trans s') rv⟩
def fBF(f:M (List D))(h:List D->M (List D)):M (List D):=bnd f h
theorem RF.callB{f:M (List D)}{h:List D->M (List D)}{R:List V->Hp->VK->Prop}(s:Mm K R h){σ:L2.St}{H:Hp}{Q:VK}(q:RF K (fBF f h) σ H Q):tCB R (RA K f) σ H Q:=by
 clear 5 q Oo c t fi r t' eq k;clear 5(Ai eq)ds t1 e1 eq;exact⟨Oo,c,t,fi,ds,t1,e1,λxs H1 c1 f1 s1 rxs=>s f1 rxs eq λp vs H' c' f' s' rv hp=>k p vs H' c' f' (s1.trans s') rv hp⟩
theorem RF.two{h:D->D->M (List D)}(s:Pi K R h){σ:L2.St}{H:Hp}{Q:VK}(q:RF K (bnd f λx=>bnd g λy=>h x y) σ H Q):tOp R (RE K f) (RE K g) σ H Q:=by
 clear 5 q Oo c t fi r t' eq k;clear 5(Ai eq)dx t1 e1 eq;clear 5(Ai eq)dy t2 e2 eq;exact⟨Oo,c,t,fi,dx,t1,e1,λx H1 c1 f1 s1 rx=>⟨Oo,c1,t1,f1,dy,t2,e2,λy H2 c2 f2 s2 ry=>s f2 (rx.mono s2.ext) ry eq λp vs H' c' f' s' rv hp=>k p vs H' c' f' ((s1.trans s2).trans s') rv hp⟩⟩
end
variable{μ:Cf->Hp->D->(V->Hp->Prop)->Prop}
section
variable{X:Cx}{e a b:Expr}{pos:Pos}{st:Stmt}{sts:List Stmt}
noncomputable def Ah(f g:M Out):M Out:=λt=>match f t with
 |some (.next,t1)=>g t1
 |z=>z
def Aq:M Out:=ret .next
theorem VL:PSs X [] (RSg X.K μ Aq):=On Wz λE σ H z9=>by
 clear 5 z9 Oo c t fi o t' eq k
 cases eq
 exact k σ H c fi .refl
theorem Ts{μ:Cf->Hp->D->(V->Hp->Prop)->Prop}{f g:M Out}(h1:PS X st (RSg X.K μ f))(h2:PSs X sts (RSg X.K μ g)):PSs X (st::sts) (RSg X.K μ (Ah f g)):=
 On (Ue h1 h2) λE σ H z9=>by
  clear 5 z9 Oo c t fi o t' eq k;unfold Ah at eq
  cases e1:f t with
  |none=>rw[e1] at eq;cases eq
  |some p=>
    clear 5 p o1 t1;rw[e1] at eq;refine⟨Oo,c,t,fi,o1,t1,e1,λσ1 H1 c1 f1 s1=>?_⟩
    cases o1 with
    |next=>exact⟨Oo,c1,t1,f1,o,t',eq,λσ2 H2 c2 f2 s2=>k σ2 H2 c2 f2 (s1.trans s2)⟩
    |brk=>cases eq;exact k σ1 H1 c1 f1 s1
    |cont=>cases eq;exact k σ1 H1 c1 f1 s1
    |ret d=>cases eq;exact k σ1 H1 c1 f1 s1
theorem Je{μ:Cf->Hp->D->(V->Hp->Prop)->Prop}{f:M Out}(h1:PS X st (RSg X.K μ f)):PSs X [st] (RSg X.K μ f):=OV h1
def An(f:M D):M Out:=bnd f λd=>ret (.ret d)
theorem Q4(h:PE X e (RE X.K f)):PS X (.Return (some e) pos) (RS X.K (An f)):=
 Bt (IP h) λE σ H z9=>by
  clear 5 z9 Oo c t fi o t' eq k;clear 5(Ai eq)d t1 e1 eq
  cases eq
  exact⟨Oo,c,t,fi,d,_,e1,λv H1 c1 f1 s1 rv=>k σ H1 c1 f1 s1 v rv⟩
theorem OE:PS X (.Pass pos) (RSg X.K μ Aq):=Bt Ww λE σ H z9=>by
 clear 5 z9 Oo c t fi o t' eq k
 cases eq
 exact k σ H c fi .refl
theorem Jy:PS X (.Continue pos) (RSg X.K μ (ret .cont)):=Bt Og λE σ H z9=>by
 clear 5 z9 Oo c t fi o t' eq k
 cases eq
 exact k σ H c fi .refl
theorem Tq:PS X (.Break pos) (RSg X.K μ (ret .brk)):=Bt Ua λE σ H z9=>by
 clear 5 z9 Oo c t fi o t' eq k
 cases eq
 exact k σ H c fi .refl
def D8(f:M D):M Out:=bnd f λ_=>ret .next
theorem OC(h:PE X e (RE X.K f))(hs:swapsWith e none pos.line X.env=pure false:=by rfl):PS X (.Expr e pos) (RSg X.K μ (D8 f)):=
 Bt (Lv h hs) λE σ H z9=>by
  clear 5 z9 Oo c t fi o t' eq k;clear 5(Ai eq)d t1 e1 eq
  cases eq
  exact⟨Oo,c,t,fi,d,_,e1,λv H1 c1 f1 s1 rv=>k σ H1 c1 f1 s1⟩
def ifS(f:M Bool)(g h:M Out):M Out:=bnd f λk=>if k=true then g else h
theorem aM{f:M Bool}{g h:M Out}{sa sb:List Stmt}(hc:PT X e (RT X.K f))(ha:PSs X sa (RSg X.K μ g))(hb:PSs X sb (RSg X.K μ h)):PS X (.If e sa sb pos) (RSg X.K μ (ifS f g h)):=
 Bt (bf hc ha hb) λE σ H z9=>by
  clear 5 z9 Oo c t fi o t' eq k;clear 5(Ai eq)kb t1 e1 eq;refine⟨Oo,c,t,fi,kb,t1,e1,λH1 c1 f1 s1=>?_⟩
  cases kb with
  |true=>rw[kQ rfl] at eq⊢;exact⟨Oo,c1,t1,f1,o,t',eq,λσ2 H2 c2 f2 s2=>k σ2 H2 c2 f2 (s1.trans s2)⟩
  |false=>rw[kS ue6] at eq⊢;exact⟨Oo,c1,t1,f1,o,t',eq,λσ2 H2 c2 f2 s2=>k σ2 H2 c2 f2 (s1.trans s2)⟩
noncomputable def AS(i:Nat)(d:D):M Unit:=λt=>some ((),{t with env:=t.env.set i (some (.val d))})
def Ax(i:Nat)(f:M D):M Out:=bnd f λd=>bnd (AS i d) λ_=>ret .next
theorem RS.set{μ:Cf->Hp->D->(V->Hp->Prop)->Prop}{K:gd}{i:Nat}{f:M D}{E:Ends}{σ:L2.St}{H:Hp}(q:RSg K μ (Ax i f) E σ H):NZ (RE K f) (Kv i) E σ H:=by
 clear 5 q Oo c t fi o t' eq k;clear 5(Ai eq)d t1 e1 eq
 cases eq
 exact⟨Oo,c,t,fi,d,t1,e1,λv H1 c1 f1 s1 rv=>k _ H1 c1 (f1.set rv) s1⟩
theorem Ys{x:Str}{pos':Pos}(hN:X.N.Nodup)(hi:X.N[i]?=some x)(hx:Loc X.env.scope x)(he:PE X e (RE X.K f))(hs:swapsWith e (some (.Name x pos')) pos.line X.env=pure false:=by rfl)(hf:X.fn x=true\/X.env.scope.names.lookup x=some .local:=by walk_at"h") :
 PS X (.Assign [.Name x pos'] e pos) (RSg X.K μ (Ax i f)):=Bt (NI hN hi hx he hs hf) λ_ _ _ q=>RS.set q
def Fm(i:Nat)(f:M (List D)):M Out:=bnd f λds t=>some (.next,{t with env:=t.env.set i (some (.own ds))})
theorem RS.own{f:M (List D)}{E:Ends}(q:RSg K μ (Fm i f) E σ H):NZ (RF K f) (Kv i) E σ H:=by
 clear 5 q Oo c t fi o t' eq k;clear 5(Ai eq)ds t1 e1 eq
 cases eq
 refine⟨Oo,c,t,fi,ds,t1,e1,λp vs H1 c1 f1 s1 rv hp=>?_⟩;clear 5(f1.setOwn (i:=i) hp rv)c2 f2 s2;exact k _ _ c2 f2 (s1.trans s2)
theorem Yq{x:Str}{f:M (List D)}{pos':Pos}(hN:X.N.Nodup)(hi:X.N[i]?=some x)(hx:Loc X.env.scope x)(he:PE X e (RF X.K f))(hs:swapsWith e (some (.Name x pos')) pos.line X.env=pure false:=by rfl)(hf:X.fn x=true\/X.env.scope.names.lookup x=some .local:=by walk_at"h") :
 PS X (.Assign [.Name x pos'] e pos) (RSg X.K μ (Fm i f)):=Bt (NI hN hi hx he hs hf) λ_ _ _ q=>RS.own q
theorem F1{x:Str}(hN:X.N.Nodup)(hi:X.N[i]?=some x)(hx:Loc X.env.scope x)(hf:X.fn x=true\/X.env.scope.names.lookup x=some .local:=by walk_at"h"):PG X (.Name x pos) (RG X.K (AS i)):=
 MA (Wn hN hi hx hf) λv σ H Q z9=>by
  clear 5 z9 Oo c t d fi rv t' eq k
  cases eq
  exact k _ H c (fi.set rv) .refl
def Dc(f:M D)(g:D->M Unit):M Out:=bnd f λd=>bnd (g d) λ_=>ret .next
theorem Yo{g:D->M Unit}(he:PE X e (RE X.K f))(hg:PG X tg (RG X.K g))(hs:swapsWithSole [tg] e pos.line X.env=pure false:=by rfl)(hw:swappedStores [tg] e X.env=pure none:=by rfl)(hp:(assignEach [tg] X.env).map (·.2)=[assign tg X.env]:=by rfl) :
 PS X (.Assign [tg] e pos) (RSg X.K μ (Dc f g)):=
 Bt (by first|exact R6 he hg hs hw|exact R6 he hg hs hw hp) λE σ H z9=>by
  clear 5 z9 Oo c t fi o t' eq k;clear 5(Ai eq)d t1 e1 eq;clear 5(Ai eq)u t2 e2 eq
  cases eq
  exact⟨Oo,c,t,fi,d,t1,e1,λv H1 c1 f1 s1 rv=>⟨Oo,c1,t1,d,f1,rv,_,e2,λσ2 H2 c2 f2 s2=>k σ2 H2 c2 f2 (s1.trans s2)⟩⟩
inductive RGs(K:gd)(f:List D->M Unit)(vs:List V)(σ:L2.St)(H:Hp)(Q:L2.St->Hp->Prop):Prop where
 |mk (Oo:gg->Prop) (c:Cf) (t:T) (ds:List D) (fi:FInv K Oo c t σ H) (r:Reps K c H vs ds) (t':T) (e:f ds t=some ((),t')) (k:∀σ' H' c',FInv K Oo c' t' σ' H'->Stp Oo c H c' H'->Q σ' H'):RGs K f vs σ H Q
theorem Om{ts:List Expr}{t t':TGs}(h:PGs X ts t)(i:∀v σ H Q,t' v σ H Q->t v σ H Q):PGs X ts t':=λge s σ H vs us Q I r q=>h ge s σ H vs us Q I r (i vs σ H Q q)
def CW:List D->M Unit
 |[]=>ret ()
 |_=>fail
def A8(f:D->M Unit)(g:List D->M Unit):List D->M Unit
 |d::ds=>bnd (f d) λ_=>g ds
 |[]=>fail
theorem Vy:PGs X [] (RGs X.K CW):=Om Wo λvs σ H Q z9=>by
 clear 5 z9 Oo c t ds fi rv t' eq k
 cases rv with
 |nil=>cases eq;exact⟨rfl,k σ H c fi .refl⟩
 |cons _ _=>cases eq
theorem RGs.cons{K:gd}{f:D->M Unit}{g:List D->M Unit}{vs:List V}{σ:L2.St}{H:Hp}{Q:L2.St->Hp->Prop}(q:RGs K (A8 f g) vs σ H Q):UW (RG K f) (RGs K g) vs σ H Q:=by
 clear 5 q Oo c t ds fi rv t' eq k
 cases rv with
 |nil=>cases eq
 |cons r rs=>
   clear 5(Ai eq)u t1 e1 eq;exact⟨_,_,rfl,Oo,c,t,_,fi,r,t1,e1,λσ1 H1 c1 f1 s1=>⟨Oo,c1,t1,_,f1,rs.mono s1.ext,t',eq,λσ2 H2 c2 f2 s2=>k σ2 H2 c2 f2 (s1.trans s2)⟩⟩
def unT(n:Nat)(g:List D->M Unit):D->M Unit
 |.tup ds=>if ds.length=n then g ds else fail
 |_=>fail
def CF(st:D->M Unit)(b:M Out):List D->M Out
 |[]=>ret .next
 |d::r=>λt=>match st d t with
   |none=>none
   |some (_,t1)=>match b t1 with
     |some (.next,t2)=>CF st b r t2
     |some (.cont,t2)=>CF st b r t2
     |some (.brk,t2)=>some (.next,t2)
     |some (.ret x,t2)=>some (.ret x,t2)
     |none=>none
def Cn(f:M (List D))(st:D->M Unit)(b:M Out):M Out:=bnd f λds=>CF st b ds
theorem RS.for{f:M (List D)}{g:D->M Unit}{b:M Out}{E:Ends}(q:RSg K μ (Cn f g b) E σ H):Z3 (RI K f) (RG K g) (RSg K μ b) E σ H:=by
 clear 5 q Oo c t fi o t' eq k;clear 5(Ai eq)ds t1 e1 eq;refine⟨Oo,c,t,fi,ds,t1,e1,λJ H1 c1 f1 s1 it=>?_⟩;refine⟨λi m σ' H'=>m=ds.length-i/\i<=ds.length/\∃c' t2,FInv K Oo c' t2 σ' H'/\Stp Oo c1 H1 c' H'/\CF g b (ds.drop i) t2=some (o,t'),⟨_,rfl,um9 _,c1,t1,f1,.refl,by rw[uk2];exact eq⟩,?_⟩;rintro i m σ' H' ⟨rfl,hi,c',t2,f2,s2,e2⟩
 by_cases hlt:i<ds.length
 .refine .inr ⟨it.go c' H' i s2.ext hlt,λσ3 H3=>∃c3 t3,FInv K Oo c3 t3 σ3 H3/\Stp Oo c1 H1 c3 H3/\CF g b (ds.drop (i+1)) t3=some (o,t'),λσ3 H3 h=>⟨ds.length-(i+1),by lia,rfl,hlt,h⟩,λx H'' hy=>?_⟩;clear 5(it.yld c' H' i x H'' _ s2.ext (ub3 hlt) hy)rfl rx;rw[ub1 hlt] at e2;unfold CF at e2
  cases e3:g ds[i] t2 with
  |none=>rw[e3] at e2;cases e2
  |some p=>
    clear 5 p u t3;rw[e3] at e2
    try dsimp only at e2
    refine⟨Oo,c',t2,_,f2,rx,t3,e3,λσ3 H3 c3 f3 s3=>?_⟩
    cases e4:b t3 with
    |none=>rw[e4] at e2;cases e2
    |some p=>
      clear 5 p o4 t4;rw[e4] at e2
      try dsimp only at e2
      refine⟨Oo,c3,t3,f3,o4,t4,e4,λσ5 H5 c5 f5 s5=>?_⟩;have s':=(s2.trans s3).trans s5
      cases o4 with
      |next=>exact⟨c5,t4,f5,s',e2⟩
      |cont=>exact⟨c5,t4,f5,s',e2⟩
      |brk=>cases e2;exact k σ5 H5 c5 f5 (s1.trans s')
      |ret r=>cases e2;exact k σ5 H5 c5 f5 (s1.trans s')
 .have hi':i=ds.length:=by lia
  subst hi';rw[uh2] at e2
  cases e2
  exact .inl ⟨it.stop c' H' s2.ext,k σ' H' c' f2 (s1.trans s2)⟩
theorem QZ{iter:Expr}{body:List Stmt}{f:M (List D)}{g:D->M Unit}{b:M Out}(hp:PassesOwn (model X.prog X.w) X.A X.env X.xe)(hc:X.calm=true)(hi:PI X tg iter (RI X.K f))(hg:PG X tg (RG X.K g))(hb:PSs X body (RSg X.K μ b))
 (hs:∀x,foldedSetIterable iter X.env x=pure x:=by intro _;rfl):PS X (.For tg iter body [] pos) (RSg X.K μ (Cn f g b)):=
 Bt (Zs hp hc hi hg hb hs) λ_ _ _ q=>RS.for q
theorem ItOk.lst{K:gd}{c:Cf}{H:Hp}{p:gg}{ds:List D}(r:∀c' H',Ext c H c' H'->∃vs,SqL K H' p vs/\Reps K c' H' vs ds):ItOk K (Itl K p) c H ds:=by
 refine⟨λc' H' i ex hi=>?_,λc' H' i x H'' d ex hd hy=>?_,λc' H' ex=>?_⟩
 .clear 5(r c' H' ex)vs h1 h2;obtain⟨v,e,_⟩:=h2.at (ub3 hi);exact⟨vs,v,h1,e⟩
 .clear 5(r c' H' ex)vs h1 h2;clear 5 hy rfl h;exact⟨rfl,h2.get (h vs h1) hd⟩
 .clear 5(r c' H' ex)vs h1 h2;exact⟨vs,h1,by rw[h2.length];exact um8 _⟩
theorem ItOk.tup{K:gd}{c:Cf}{H:Hp}{p:gg}{ds:List D}(r:∀c' H',Ext c H c' H'->∃vs,SqT K H' p vs/\Reps K c' H' vs ds):ItOk K (Itt K p) c H ds:=by
 refine⟨λc' H' i ex hi=>?_,λc' H' i x H'' d ex hd hy=>?_,λc' H' ex=>?_⟩
 .clear 5(r c' H' ex)vs h1 h2;obtain⟨v,e,_⟩:=h2.at (ub3 hi);exact⟨vs,v,h1,e⟩
 .clear 5(r c' H' ex)vs h1 h2;clear 5 hy rfl h;exact⟨rfl,h2.get (h vs h1) hd⟩
 .clear 5(r c' H' ex)vs h1 h2;exact⟨vs,h1,by rw[h2.length];exact um8 _⟩
end
theorem FInv.leave{Oo:gg->Prop}(f:FInv K Oo c t σ H):SInv K ⟨c.ι,Oo⟩ t.S H/\Ext c H ⟨c.ι,Oo⟩ H:=by
 have ext:Ext c H ⟨c.ι,Oo⟩ H:=⟨λ_ _ e _=>e,λb o _ z=>z.elim .inl λw=>.inr (f.sub b w),λ_ _ e=>e⟩;exact⟨⟨f.s.len,f.s.nd,λk a o e1 e2=>(f.s.obs k a o e1 e2).mono ext rfl,λb z=>f.s.trk b (f.sub b z),λb z=>f.s.dis b (f.sub b z)⟩,ext⟩
noncomputable def env0(m:Nat)(ds:List D):List (Option Sl):=ds.map (λd=>some (.val d))++List.replicate (m-ds.length) none
def fnOf(n m:Nat)(g:M Out):Fn:=λds S=>if ds.length=n then(match g ⟨env0 m ds,S⟩ with
 |some (.ret r,t)=>some (r,t.S)
 |some (.next,t)=>some (.non,t.S)
 |_=>none) else none
theorem Hv{ds:List D}{N:List Str}(s:SInv K c S H)(r:Reps K c H vs ds):FInv K c.O c ⟨env0 N.length ds,S⟩ (L2.start N vs) H:=by
 have hlen:vs.length=ds.length:=r.length;have none_:∀{i:Nat}{x:Sl},(env0 N.length ds)[i]?=some (some x)->∃d,ds[i]?=some d/\x=.val d:=λ{i x} q=>by
  unfold env0 at q
  by_cases hi:i<ds.length
  .rw[ub0 (by simpa using hi),uf6,ub3 hi] at q;simp at q;exact⟨ds[i],ub3 hi,q.symm⟩
  .rw[ua6 (by simpa using hi),ub4] at q
   split at q<;>simp at q
 refine⟨s,by simp[env0,L2.start,hlen],λ_ z=>z,λi d q=>?_,λi es q=>?_,λi j es _ a q _ _ _=>?_⟩
 .obtain⟨d',h1,h2⟩:=none_ q
  cases h2
  clear 5(r.at h1)v h3 h4;refine⟨v,?_,h4⟩;unfold L2.start;have hi:=(ua9.mp h3).1;rw[ub0 (by simpa using hi),uf6,h3];rfl
 .obtain⟨_,_,h2⟩:=none_ q;cases h2
 .obtain⟨_,_,h2⟩:=none_ q;cases h2
theorem aL{P:gi}{w:gj}{mg:Str->Option gf}{base:Heap}{x qual:Str}{st:Stmt}{fa:gg}{fd:gk}{N ps:List Str}{k:Nat}{g:M Out}(F:Fun K x qual st fa fd)(S:FnScope N ps (AR st))
 (hb:∀(cdv:gf) (A:Around) (outer:List Env) (s:gh) (H:Hp) (E:XK),Room k (A.deeper (PyProof.Rows.envOfC qual (AR st) s.heap.objs.size fa cdv))->
   PSs (Fc CX0 P w K mg base N qual (AR st) fa cdv A outer s H E).nox (Dd st) (RS K g)):FnOk P w K mg base CX0 (k+1) fa fd ps (spF K (fnOf ps.length N.length g)):=by
 have hlen:∀{ds:List D}{S:List Ob}{z:D×List Ob},fnOf ps.length N.length g ds S=some z->ds.length=ps.length:=λ{ds S z} h=>by
  unfold fnOf at h
  split at h
  .next h1=>exact h1
  .cases h
 refine F.ok S (λvs H Q E h=>?_) (λcdv A outer s H vs Q E hr h=>?_)
 .obtain⟨c,ds,S,si,rs,r,S',e,_⟩:=h;rw[rs.length];exact hlen e
 clear 5 h c ds S0 si rs r S' e kk;refine⟨RS K g,hb cdv A outer s H E hr,?_⟩;have hl:=hlen e;unfold fnOf at e;rw[kQ hl] at e
 cases eg:g ⟨env0 N.length ds,S0⟩ with
 |none=>rw[eg] at e;cases e
 |some p=>
   clear 5 p o t;rw[eg] at e;refine⟨c.O,c,_,Hv si rs,o,t,eg,λσ' H' c' f' s'=>?_⟩;clear 5 f'.leave si' ext';have st':Stp c.O c H ⟨c'.ι,c.O⟩ H':=⟨s'.ext.trans ext',s'.oo⟩
   cases o with
   |next=>cases e;exact kk .non H' _ si' st' (λ_=>kP) .non
   |ret d=>cases e;exact λv rv=>kk v H' _ si' st' (λ_=>kP) (rv.mono ext')
   |brk=>cases e
   |cont=>cases e
variable{fr:List Nat}
section
variable{X:Cx}{e a b:Expr}{pos:Pos}
def items:D->M (List D)
 |.lst ds=>ret ds
 |.tup ds=>ret ds
 |.scr ns=>ret (ns.map .int)
 |_=>fail
noncomputable def Bv(lo:Int)(n:Nat):List D:=(List.range n).map λi=>.int (lo+(i:Nat))
theorem ItOk.rng{lo:Int}:ItOk K (Itr lo n) c H (Bv lo n):=by
 refine⟨λc' H' i ex hi=>?_,λc' H' i x H'' d ex hd hy=>?_,λc' H' ex=>?_⟩
 .have:i<n:=by simpa[Bv] using hi
  exact this
 .clear 5 hy rfl rfl;refine⟨rfl,?_⟩;have hi:i<n:=by
   have:=(ua9.mp hd).1;simpa[Bv] using this
  have:d=.int (lo+(i:Nat)):=by
   rw[Bv,uf6,List.getElem?_range hi] at hd;simpa using hd.symm
  rw[this];exact .int _
 .show n<=(Bv lo n).length;simp[Bv]
noncomputable def CZ(i:Int):Bool:=decide (-(2 ^ 62)<=i)&&decide (i<2 ^ 62)
def Lz:List D->M (List D)
 |[.int j]=>λt=>if CZ j=true then some (Bv 0 j.toNat,t) else none
 |_=>fail
def LA:List D->M (List D)
 |[.int i,.int j]=>λt=>if (CZ i&&CZ j)=true then some (Bv i (j-i).toNat,t) else none
 |_=>fail
def Da(f:M (List D)):M (List D):=bnd f Lz
def GC(f:M (List D)):M (List D):=bnd f LA
theorem GI{i:Int}(h:CZ i=true) : -(2 ^ 62)<=i/\i<2 ^ 62:=by
 unfold CZ at h;rw[uh0] at h;exact⟨ug4 h.1,ug4 h.2⟩
theorem QV{f:M (List D)}(hg:Gl X "range")(hm:X.mg "range" = none)(ha:PA X [a] (RA X.K f))(hs:starEach [a] X.env=[(false,eval a X.env)]:=by rfl):PI X tg (.Call (.Name "range" p) [a] [] pos) (RI X.K (Da f)):=
 MB (R3 hg hm ha hs) λσ H R z9=>by
  clear 5 z9 Oo c t fi ds t' eq k;clear 5(Ai eq)xs t1 e1 eq;refine⟨Oo,c,t,fi,xs,t1,e1,λvs H1 c1 f1 s1 rv=>?_⟩;unfold Lz at eq
  split at eq
  .next j=>
   split at eq
   .next hs=>
    cases eq
    cases rv with
    |cons r rs=>
      cases rs
      cases r
      clear 5(GI hs)h1 h2;exact⟨j,rfl,h1,h2,k _ H1 c1 f1 s1 ItOk.rng⟩
   .cases eq
  .cases eq
theorem QW{f:M (List D)}(hg:Gl X "range")(hm:X.mg "range" = none)(ha:PA X [a,b] (RA X.K f))(hs:starEach [a,b] X.env=[(false,eval a X.env),(false,eval b X.env)]:=by rfl)(hs2:starEach [b] X.env=[(false,eval b X.env)]:=by rfl):PI X tg (.Call (.Name "range" p) [a,b] [] pos) (RI X.K (GC f)):=
 MB (R4 hg hm ha hs hs2) λσ H R z9=>by
  clear 5 z9 Oo c t fi ds t' eq k;clear 5(Ai eq)xs t1 e1 eq;refine⟨Oo,c,t,fi,xs,t1,e1,λvs H1 c1 f1 s1 rv=>?_⟩;unfold LA at eq
  split at eq
  .next i j=>
   split at eq
   .next hs=>
    cases eq
    rw[uh0] at hs
    cases rv with
    |cons r rs=>
      cases r
      cases rs with
      |cons r rs=>
        cases rs
        cases r
        clear 5(GI hs.1)h1 h2;clear 5(GI hs.2)h3 h4;exact⟨i,j,rfl,⟨h1,h2,h3,h4⟩,k _ H1 c1 f1 s1 ItOk.rng⟩
   .cases eq
  .cases eq
def Cm(st:D->M Unit)(tst:M Bool)(elt:M D):List D->M (List D)
 |[]=>ret []
 |d::r=>bnd (st d) λ_=>bnd tst λk=>if k=true then bnd elt λx=>bnd (Cm st tst elt r) λxs=>ret (x::xs) else Cm st tst elt r
noncomputable def bz:Option (Option Sl)->Option Sl
 |some (some (.val d))=>some (.val d)
 |_=>none
def cenv(n:Nat)(fr:List Nat)(env:List (Option Sl)):List (Option Sl):=List.replicate n none++fr.map λi=>bz env[i]?
noncomputable def Hs(n:Nat)(fr:List Nat)(σ:L2.St):L2.St:=List.replicate n none++fr.map λi=>(σ[i]?).join
def CO(n:Nat)(fr:List Nat)(f:M (List D))(st:D->M Unit)(tst:M Bool)(elt:M D):M (List D):=bnd f λds t=>match Cm st tst elt ds ⟨cenv n fr t.env,t.S⟩ with
 |some (xs,t')=>if xs.length<=LIM then some (xs,{t with S:=t'.S}) else none
 |none=>none
theorem JL{env:List (Option Sl)}{x:Sl}(h:(cenv n fr env)[j]?=some (some x)):∃i d,n<=j/\fr[j-n]?=some i/\env[i]?=some (some (.val d))/\x=.val d:=by
 unfold cenv at h
 by_cases hj:j<n
 .rw[ub0 (by simpa using hj),ub4] at h
  split at h<;>simp at h
 .rw[ua6 (by simpa using hj),uc8,uf6] at h
  cases e:fr[j-n]? with
  |none=>rw[e] at h;simp at h
  |some i=>
    rw[e] at h;simp only[uj2,ug2] at h
    cases e2:env[i]? with
    |none=>rw[e2] at h;cases h
    |some o=>
      cases o with
      |none=>rw[e2] at h;cases h
      |some sl=>
        cases sl with
        |own _=>rw[e2] at h;cases h
        |val d=>rw[e2] at h;cases h;exact⟨i,d,by lia,rfl,e2,rfl⟩
theorem Pz{Oo:gg->Prop}(f:FInv K Oo c t σ H):FInv K c.O c ⟨cenv n fr t.env,t.S⟩ (Hs n fr σ) H:=by
 refine⟨f.s,by simp[cenv,Hs],λ_ z=>z,λj d q=>?_,λj es q=>?_,λj _ es _ _ q _ _ _=>?_⟩
 .obtain⟨i,d',h0,h1,h2,h3⟩:=JL q
  cases h3
  clear 5(f.val i d h2)v h4 h5;refine⟨v,?_,h5⟩;unfold Hs;rw[ua6 (by simpa using h0),uc8,uf6,h1];simp[h4]
 .obtain⟨_,_,_,_,_,h⟩:=JL q;cases h
 .obtain⟨_,_,_,_,_,h⟩:=JL q;cases h
theorem RF.comp{f:M (List D)}{st:D->M Unit}{tst:M Bool}{elt:M D}{Q:VK}(q:RF K (CO n fr f st tst elt) σ H Q):Qe (RI K f) (RG K st) (RT K tst) (RE K elt) (Hs n fr) σ H Q:=by
 clear 5 q Oo c t fi xs t' eq k;clear 5(Ai eq)ds t1 e1 eq;refine⟨Oo,c,t,fi,ds,t1,e1,λJ H1 c1 f1 s1 it=>?_⟩
 cases e3:Cm st tst elt ds ⟨cenv n fr t1.env,t1.S⟩ with
 |none=>rw[e3] at eq;cases eq
 |some p=>
   clear 5 p ys t3;rw[e3] at eq;dsimp only at eq
   split at eq
   case isFalse=>cases eq
   next hl=>
   cases eq
   refine⟨λi m acc σ' H'=>m=ds.length-i/\i<=ds.length/\∃c' t2 zs rest,FInv K c1.O c' t2 σ' H'/\Stp c1.O c1 H1 c' H'/\Reps K c' H' acc zs/\Cm st tst elt (ds.drop i) t2=some (rest,t3)/\xs=zs++rest,
    ⟨_,rfl,um9 _,c1,_,[],xs,Pz f1,.refl,.nil,by rw[uk2];exact e3,rfl⟩,?_⟩
   rintro i m acc σ' H' ⟨rfl,hi,c',t2,zs,rest,f2,s2,ra,e2,ez⟩;have hacc:acc.length<=sizeLine:=by
    have:zs.length<=xs.length:=by rw[ez,ue8];exact uh3 _ _
    rw[ra.length];exact ul9 this (ul9 hl DR)
   refine⟨hacc,?_⟩
   by_cases hlt:i<ds.length
   .refine .inr ⟨it.go c' H' i s2.ext hlt,λx H'' hy=>?_⟩;clear 5(it.yld c' H' i x H'' _ s2.ext (ub3 hlt) hy)rfl rx;rw[ub1 hlt] at e2;unfold Cm at e2;clear 5(Ai e2)u t4 e4 e2;clear 5(Ai e2)kb t5 e5 e2;refine⟨c1.O,c',t2,_,f2,rx,t4,e4,λσ3 H3 c3 f3 s3=>⟨c1.O,c3,t4,f3,kb,t5,e5,λH4 c4 f4 s4=>?_⟩⟩
    cases kb with
    |false=>
      rw[kS ue6] at e2⊢;exact⟨ds.length-(i+1),by lia,rfl,hlt,c4,t5,zs,rest,f4,(s2.trans s3).trans s4,ra.mono (s3.trans s4).ext,e2,ez⟩
    |true=>
      rw[kQ rfl] at e2⊢;clear 5(Ai e2)x6 t6 e6 e2;clear 5(Ai e2)r7 t7 e7 e2
      cases e2
      refine⟨c1.O,c4,t5,f4,x6,t6,e6,λv H5 c5 f5 s5 rv=>?_⟩;exact⟨ds.length-(i+1),by lia,rfl,hlt,c5,t6,zs++[x6],r7,f5,((s2.trans s3).trans s4).trans s5,(ra.mono ((s3.trans s4).trans s5).ext).append (.cons rv .nil),e7,by rw[ez,uf9];rfl⟩
   .have hi':i=ds.length:=by lia
    subst hi';rw[uh2] at e2
    cases e2
    refine .inl ⟨it.stop c' H' s2.ext,λp hp _=>?_⟩;clear 5 f2.leave si ext;clear 5(f1.after si ⟨s2.ext.trans ext,s2.oo⟩ (λ_=>kP))f6 s6;rw[ui5] at ez;subst ez;exact k p acc H' _ f6 (s1.trans s6) (ra.mono ext) hp
end
end
open PySem.SeqAt
noncomputable def eq0:D->D->Option Bool
 |.int a,.int b=>some (a==b)
 |.str a,.str b=>some (a==b)
 |.bl a,.bl b=>some (a==b)
 |.non,.non=>some true
 |.int _,.str _=>some false
 |.str _,.int _=>some false
 |_,_=>none
noncomputable def DL(f:D->D->Option Bool):List D->List D->Option Bool
 |x::xs,y::ys=>match f x y,DL f xs ys with
   |some a,some b=>some (a&&b)
   |_,_=>none
 |_,_=>some true
def eqN:Nat->D->D->Option Bool
 |0,x,y=>eq0 x y
 |n+1,.tup xs,.tup ys=>(DL (eqN n) xs ys).map λb=>b&&xs.length==ys.length
 |n+1,.lst xs,.lst ys=>if xs.length=ys.length then DL (eqN n) xs ys else some false
 |_+1,x,y=>eq0 x y
noncomputable def ej(f:D->D->Option Bool)(xs ys:List D)(j:Nat):Bool:=match xs[j]?,ys[j]? with
 |some d,some e=>(f d e).getD true
 |_,_=>true
theorem DV{f:D->D->Option Bool}:∀{xs ys:List D}{b:Bool},DL f xs ys=some b->b=(List.range (min xs.length ys.length)).all (ej f xs ys)/\∀(j:Nat) d e,xs[j]?=some d->ys[j]?=some e->∃k,f d e=some k
 |[],ys,b,h=>by
   have h:some true=some b:=by simpa[DL] using h
   cases h
   refine⟨by simp,λj d e q _=>by simp at q⟩
 |x::xs,[],b,h=>by
   have h:some true=some b:=by simpa[DL] using h
   cases h
   refine⟨by simp,λj d e _ q=>by simp at q⟩
 |x::xs,y::ys,b,h=>by
   unfold DL at h
   cases e1:f x y with
   |none=>rw[e1] at h;cases h
   |some a=>
     cases e2:DL f xs ys with
     |none=>rw[e1,e2] at h;cases h
     |some c=>
       rw[e1,e2] at h
       cases h
       clear 5(DV e2)h1 h2;refine⟨?_,λj d e q1 q2=>?_⟩
       .have hm:min (x::xs).length (y::ys).length=min xs.length ys.length+1:=by simp[Nat.succ_min_succ]
        rw[hm,List.range_succ_eq_map,uk8,um2,h1];have:ej f (x::xs) (y::ys) 0=a:=by simp[ej,e1]
        rw[this];rfl
       .cases j with
        |zero=>simp at q1 q2;subst q1 q2;exact⟨a,e1⟩
        |succ j=>exact h2 j d e (by simpa using q1) (by simpa using q2)
section
variable{P:gi}{w:gj}{H:Hp}{vs:List V}
theorem Hx{h:Heap}{a:gg}(o:HOk P w H h)(e:H a=some (.lst vs)):∃its:List gf,Vals vs its/\h.IsList a its.toArray:=by
 obtain⟨_,its,n,r,q⟩:=o a _ e;exact⟨its,r,_,q,rfl,n,rfl⟩
theorem Jg{h:Heap}{a:gg}(o:HOk P w H h)(e:H a=some (.tup vs)):∃its:List gf,Vals vs its/\h.IsTuple a its.toArray:=by
 obtain⟨_,its,r,q⟩:=o a _ e;exact⟨its,r,q⟩
theorem KR{its:List gf}{j:Nat}(r:Vals vs its)(h:j<its.toArray.size):∃v,vs[j]?=some v/\RelV v its.toArray[j]:=by
 have h':j<its.length:=by simpa using h
 have hl:j<vs.length:=by rw[r.length];exact h'
 clear 5(r.get (ub3 hl))u e1 e2;refine⟨vs[j],ub3 hl,?_⟩;rw[ub3 h'] at e1
 cases e1
 simpa using e2
variable{b:Bool}
theorem QK{f:D->D->Option Bool}{xs ys:List D}(h:DL f xs ys=some b)(ht:∀(j:Nat) d e k,xs[j]?=some d->ys[j]?=some e->f d e=some k->k=true):b=true:=by
 clear 5(DV h)h1 h2;rw[h1,uh4];intro j hj;have hj':=uj9.mp hj;have l1:j<xs.length:=by lia
 have l2:j<ys.length:=by lia
 clear 5(h2 j _ _ (ub3 l1) (ub3 l2))k ek;have:=ht j _ _ k (ub3 l1) (ub3 l2) ek;unfold ej;rw[ub3 l1,ub3 l2];simp[ek,this]
theorem Ir{x y:D}(e:eq0 x y=some b):(∃i j,x=.int i/\y=.int j/\(i==j)=b)\/(∃i j,x=.str i/\y=.str j/\(i==j)=b)\/(∃i j,x=.bl i/\y=.bl j/\(i==j)=b)\/(x=.non/\y=.non/\true=b)\/(∃i j,x=.int i/\y=.str j/\false=b)\/(∃i j,x=.str i/\y=.int j/\false=b):=by
 unfold eq0 at e
 split at e
 .cases e;exact .inl ⟨_,_,rfl,rfl,rfl⟩
 .cases e;exact .inr (.inl ⟨_,_,rfl,rfl,rfl⟩)
 .cases e;exact .inr (.inr (.inl ⟨_,_,rfl,rfl,rfl⟩))
 .cases e;exact .inr (.inr (.inr (.inl ⟨rfl,rfl,rfl⟩)))
 .cases e;exact .inr (.inr (.inr (.inr (.inl ⟨_,_,rfl,rfl,rfl⟩))))
 .cases e;exact .inr (.inr (.inr (.inr (.inr ⟨_,_,rfl,rfl,rfl⟩))))
 .cases e
theorem Iu{n:Nat}{x y:D}(e:eqN n x y=some b):eq0 x y=some b\/(∃m xs ys,n=m+1/\x=.lst xs/\y=.lst ys/\(if xs.length=ys.length then DL (eqN m) xs ys else some false)=some b)\/∃m xs ys b',n=m+1/\x=.tup xs/\y=.tup ys/\DL (eqN m) xs ys=some b'/\(b'&&xs.length==ys.length)=b:=by
 unfold eqN at e
 split at e
 .exact .inl e
 .clear 5(uc1.mp e)b' e1 e2;exact .inr (.inr ⟨_,_,_,b',rfl,rfl,rfl,e1,e2⟩)
 .exact .inr (.inl ⟨_,_,_,rfl,rfl,rfl,e⟩)
 .exact .inl e
variable{K:gd}{c:Cf}
theorem OA:∀(n:Nat){v:V}{d e:D}{b:Bool},Rep K c H v d->Rep K c H v e->eqN n d e=some b->b=true
 :=by
  intro n
  induction n using Nat.strongRecOn with
  |ind n ih=>
  intro v d e b rd re q;have items:∀{m:Nat}{vs:List V}{ds es:List D}{b':Bool},n=m+1->Reps K c H vs ds->Reps K c H vs es->DL (eqN m) ds es=some b'->b'=true:=λ{m vs ds es b'} hm r1 r2 e'=>
   QK e' λj d e k q1 q2 ek=>by
    clear 5(r1.at q1)v g1 g2;exact ih m (by lia) g2 (r2.get g1 q2) ek
  rcases Iu q with q0|⟨m,ds,es,hm,rfl,rfl,q0⟩|⟨m,ds,es,b',hm,rfl,rfl,q1,q2⟩
  .rcases Ir q0 with⟨i,j,rfl,rfl,rfl⟩|⟨i,j,rfl,rfl,rfl⟩|⟨i,j,rfl,rfl,rfl⟩|⟨rfl,rfl,rfl⟩|⟨i,j,rfl,rfl,rfl⟩|⟨i,j,rfl,rfl,rfl⟩
   .cases rd;cases re;simp
   .cases rd;cases re;simp
   .cases rd;cases re;simp
   .cases rd;cases re;rfl
   .cases rd;cases re
   .cases rd;cases re
  .cases rd with
   |lst h1 h2 h3=>
     cases re with
     |lst g1 g2 g3=>
       rw[h1] at g1;cases g1
       rw[kQ (h3.length.symm.trans g3.length)] at q0;exact items hm h3 g3 q0
  .cases rd with
   |tup h1 h2 h3=>
     cases re with
     |tup g1 g2 g3=>
       rw[h1] at g1;cases g1
       rw[<-q2,items hm h3 g3 q1,h3.length.symm.trans g3.length];simp
theorem Oz{s:gh}(hok:HOk P w H s.heap):∀(n:Nat){A:Around}{x y:V}{u v:gf}{dx dy:D}{b:Bool},RelV x u->RelV y v->Rep K c H x dx->Rep K c H y dy->eqN n dx dy=some b->A.units+n<cLine->
 RcAt A s u v b/\(EqAt A s u v b)
 :=by
  intro n
  induction n using Nat.strongRecOn with
  |ind n ih=>
  intro A x y u v dx dy b ru rv rx ry e hu;have items:∀{m:Nat}{vs ws:List V}{is js:List gf}{ds es:List D}{b':Bool},n=m+1->Vals vs is->Vals ws js->Reps K c H vs ds->Reps K c H ws es->DL (eqN m) ds es=some b'->
   ∀j (h1:j<is.toArray.size) (h2:j<js.toArray.size),EqAt A.in1 s is.toArray[j] js.toArray[j] (ej (eqN m) ds es j):=λ{m vs ws is js ds es b'} hm r1 r2 q1 q2 e' j h1 h2=>by
   clear 5(KR r1 h1)v1 a1 a2;clear 5(KR r2 h2)v2 b1 b2;clear 5(ua9.mp a1)l1 g1;clear 5(ua9.mp b1)l2 g2;have k1:ds[j]?=some (ds[j]'(by rw[<-q1.length];exact l1)):=ub3 _;have k2:es[j]?=some (es[j]'(by rw[<-q2.length];exact l2)):=ub3 _;clear 5((DV e').2 j _ _ k1 k2)kk ek;have:ej (eqN m) ds es j=kk:=by unfold ej;rw[k1,k2];simp[ek]
   rw[this];have hu':A.in1.units+m<cLine:=by
    have:A.in1.units=A.units+1:=by first|rfl|exact Around.units_in1 _|simp[Around.in1,Around.units]
    lia
   exact(ih m (by lia) a2 b2 (q1.get a1 k1) (q2.get b1 k2) ek hu').2
  have hu0:A.units<cLine:=by lia
  have conc:∀{p q:gg}{k:Bool},p≠q->RcAt A s (.ref p) (.ref q) k->RcAt A s (.ref p) (.ref q) k/\EqAt A s (.ref p) (.ref q) k:=λhn h=>⟨h,EqAt.of_refs hn h⟩;rcases Iu e with e0|⟨m,ds,es,hm,rfl,rfl,e0⟩|⟨m,ds,es,b',hm,rfl,rfl,e1,e2⟩
  .rcases Ir e0 with⟨i,j,rfl,rfl,rfl⟩|⟨i,j,rfl,rfl,rfl⟩|⟨i,j,rfl,rfl,rfl⟩|⟨rfl,rfl,rfl⟩|⟨i,j,rfl,rfl,rfl⟩|⟨i,j,rfl,rfl,rfl⟩
   .cases rx;cases ry;clear 5 ru t' rfl;clear 5 rv t rfl;exact⟨RcAt.int_int _ _ _ _,EqAt.int_int _ _ _ _⟩
   .cases rx;cases ry;clear 5 ru t' rfl;clear 5 rv t rfl;exact⟨RcAt.str_str _ _ _ _,EqAt.str_str _ _ _ _⟩
   .cases rx;cases ry;cases ru;cases rv;exact⟨RcAt.bool_bool _ _,EqAt.bool_bool _ _⟩
   .cases rx;cases ry;cases ru;cases rv;exact⟨RcAt.none_none,EqAt.same _⟩
   .cases rx;cases ry;clear 5 ru t' rfl;clear 5 rv t rfl;exact⟨RcAt.int_str _ _ _ _,EqAt.int_str _ _ _ _⟩
   .cases rx;cases ry;clear 5 ru t' rfl;clear 5 rv t rfl;exact⟨RcAt.str_int _ _ _ _,EqAt.str_int _ _ _ _⟩
  .cases rx with
   |@lst p vs _ g1 g2 g3=>
   cases ry with
   |@lst q ws _ h1 h2 h3=>
     cases ru
     cases rv
     clear 5(Hx hok g1)is r1 l1;clear 5(Hx hok h1)js r2 l2;have hs1:is.toArray.size=ds.length:=by rw[<-g3.length,r1.length];simp
     have hs2:js.toArray.size=es.length:=by rw[<-h3.length,r2.length];simp
     by_cases hl:ds.length=es.length
     .rw[kQ hl] at e0;have hsz:is.toArray.size=js.toArray.size:=by rw[hs1,hs2,hl]
      have rc:=RcAt.lists l1 l2 hsz hu0 (items hm r1 r2 g3 h3 e0);have eb:(List.range is.toArray.size).all (ej (eqN m) ds es)=b:=by rw[(DV e0).1,hs1,<-hl,Nat.min_self]
      rw[eb] at rc
      by_cases hpq:p=q
      .refine⟨rc,?_⟩;subst hpq;rw[OA n (Rep.lst g1 g2 g3) (Rep.lst h1 h2 h3) e];exact EqAt.same _
      .exact conc hpq rc
     .rw[kS hl] at e0
      cases e0
      have hsz:(is.toArray.size != js.toArray.size)=true:=by rw[hs1,hs2];simpa using hl
      refine conc (λz=>hl ?_) (RcAt.lists_lengths l1 l2 hsz hu0);subst z;rw[g1] at h1;cases h1
      rw[<-g3.length,<-h3.length]
  .cases rx with
   |@tup p vs _ g1 g2 g3=>
   cases ry with
   |@tup q ws _ h1 h2 h3=>
     cases ru
     cases rv
     clear 5(Jg hok g1)is r1 l1;clear 5(Jg hok h1)js r2 l2;have hs1:is.toArray.size=ds.length:=by rw[<-g3.length,r1.length];simp
     have hs2:js.toArray.size=es.length:=by rw[<-h3.length,r2.length];simp
     have rc:=RcAt.tuples l1 l2 hu0 (items hm r1 r2 g3 h3 e1);have eb:((List.range (min is.toArray.size js.toArray.size)).all (ej (eqN m) ds es)&&is.toArray.size==js.toArray.size)=b:=by rw[hs1,hs2,<-(DV e1).1];exact e2
     rw[eb] at rc
     by_cases hpq:p=q
     .refine⟨rc,?_⟩;subst hpq;rw[OA n (Rep.tup g1 g2 g3) (Rep.tup h1 h2 h3) e];exact EqAt.same _
     .exact conc hpq rc
theorem V4{s:gh}(hok:HOk P w H s.heap)(n:Nat){A:Around}{x y:V}{u v:gf}{dx dy:D}{b:Bool}(ru:RelV x u)(rv:RelV y v)(rx:Rep K c H x dx)(ry:Rep K c H y dy)(e:eqN n dx dy=some b)(hu:A.units+n<cLine) :
 RcNeAt A s u v (!b):=by
 have items:∀{m:Nat}{vs ws:List V}{is js:List gf}{ds es:List D}{b':Bool},n=m+1->Vals vs is->Vals ws js->Reps K c H vs ds->Reps K c H ws es->DL (eqN m) ds es=some b'->
  ∀j (h1:j<is.toArray.size) (h2:j<js.toArray.size),EqAt A.in1 s is.toArray[j] js.toArray[j] (ej (eqN m) ds es j):=λ{m vs ws is js ds es b'} hm r1 r2 q1 q2 e' j h1 h2=>by
  clear 5(KR r1 h1)v1 a1 a2;clear 5(KR r2 h2)v2 b1 b2;clear 5(ua9.mp a1)l1 g1;clear 5(ua9.mp b1)l2 g2;have k1:ds[j]?=some (ds[j]'(by rw[<-q1.length];exact l1)):=ub3 _;have k2:es[j]?=some (es[j]'(by rw[<-q2.length];exact l2)):=ub3 _;clear 5((DV e').2 j _ _ k1 k2)kk ek;have:ej (eqN m) ds es j=kk:=by unfold ej;rw[k1,k2];simp[ek]
  rw[this];have hu':A.in1.units+m<cLine:=by
   have:A.in1.units=A.units+1:=rfl;lia
  exact(Oz hok m a2 b2 (q1.get a1 k1) (q2.get b1 k2) ek hu').2
 have hu0:A.units<cLine:=by lia
 rcases Iu e with e0|⟨m,ds,es,hm,rfl,rfl,e0⟩|⟨m,ds,es,b',hm,rfl,rfl,e1,e2⟩
 .rcases Ir e0 with⟨i,j,rfl,rfl,rfl⟩|⟨i,j,rfl,rfl,rfl⟩|⟨i,j,rfl,rfl,rfl⟩|⟨rfl,rfl,rfl⟩|⟨i,j,rfl,rfl,rfl⟩|⟨i,j,rfl,rfl,rfl⟩
  .cases rx;cases ry;clear 5 ru t' rfl;clear 5 rv t rfl;exact RcNeAt.int_int _ _ _ _
  .cases rx;cases ry;clear 5 ru t' rfl;clear 5 rv t rfl;exact RcNeAt.str_str _ _ _ _
  .cases rx;cases ry;cases ru;cases rv;exact RcNeAt.bool_bool _ _
  .cases rx;cases ry;cases ru;cases rv;exact RcNeAt.none_none
  .cases rx;cases ry;clear 5 ru t' rfl;clear 5 rv t rfl;exact RcNeAt.int_str _ _ _ _
  .cases rx;cases ry;clear 5 ru t' rfl;clear 5 rv t rfl;exact RcNeAt.str_int _ _ _ _
 .cases rx with
  |@lst p vs _ g1 g2 g3=>
  cases ry with
  |@lst q ws _ h1 h2 h3=>
    cases ru
    cases rv
    clear 5(Hx hok g1)is r1 l1;clear 5(Hx hok h1)js r2 l2;have hs1:is.toArray.size=ds.length:=by rw[<-g3.length,r1.length];simp
    have hs2:js.toArray.size=es.length:=by rw[<-h3.length,r2.length];simp
    by_cases hl:ds.length=es.length
    .rw[kQ hl] at e0;have hsz:is.toArray.size=js.toArray.size:=by rw[hs1,hs2,hl]
     have rc:=RcNeAt.lists l1 l2 hsz hu0 (items hm r1 r2 g3 h3 e0);rw[show(List.range is.toArray.size).all (ej (eqN m) ds es)=b by rw[(DV e0).1,hs1,<-hl,Nat.min_self]] at rc;exact rc
    .rw[kS hl] at e0
     cases e0
     exact RcNeAt.lists_lengths l1 l2 (by rw[hs1,hs2];simpa using hl) hu0
 .cases rx with
  |@tup p vs _ g1 g2 g3=>
  cases ry with
  |@tup q ws _ h1 h2 h3=>
    cases ru
    cases rv
    clear 5(Jg hok g1)is r1 l1;clear 5(Jg hok h1)js r2 l2;have hs1:is.toArray.size=ds.length:=by rw[<-g3.length,r1.length];simp
    have hs2:js.toArray.size=es.length:=by rw[<-h3.length,r2.length];simp
    have rc:=RcNeAt.tuples l1 l2 hu0 (items hm r1 r2 g3 h3 e1);have eb:((List.range (min is.toArray.size js.toArray.size)).all (ej (eqN m) ds es)&&is.toArray.size==js.toArray.size)=b:=by rw[hs1,hs2,<-(DV e1).1];exact e2
    rw[eb] at rc;exact rc
def EQD:Nat:=40
def neD(x y:D):M D:=λt=>(eqN EQD x y).map λb=>(.bl (!b),t)
def P8(K:gd)(g:Bool->Bool):R2:=λx y H Q=>∃c dx dy b,Rep K c H x dx/\Rep K c H y dy/\eqN EQD dx dy=some b/\Q (.bl (g b)) H
theorem RU{X:Cx}(hu:X.A.units+64<cLine):OpR X (compareOp .Eq) (P8 X.K id):=by
 intro ge s σ H x y v u Q I rx ry h;clear 5 h c dx dy b q1 q2 e q;have hu':X.A.units+EQD<cLine:=by unfold EQD;lia
 exact(Oz I.hok EQD rx ry q1 q2 e hu').1 X.prog X.w _ _ ⟨.bl b,H,I,rfl,q⟩
theorem ND{X:Cx}(hu:X.A.units+64<cLine):OpR X (compareOp .NotEq) (P8 X.K (!·)):=by
 intro ge s σ H x y v u Q I rx ry h;clear 5 h c dx dy b q1 q2 e q;have hu':X.A.units+EQD<cLine:=by unfold EQD;lia
 exact V4 I.hok EQD rx ry q1 q2 e hu' X.prog X.w _ _ ⟨.bl (!b),H,I,rfl,q⟩
end
section
variable{g:Int->Int->D}{t:T}{z:D×T}{X:Cx}{c:Cf}{H:Hp}
section
variable{K:gd}
def i2(g:Int->Int->D):D->D->M D
 |.int i,.int j=>ret (g i j)
 |_,_=>fail
theorem YA{x y:D}(h:i2 g x y t=some z):∃i j,x=.int i/\y=.int j/\z=(g i j,t):=by
 cases x with
 |int i=>cases y with
   |int j=>cases h;exact⟨i,j,rfl,rfl,rfl⟩
   |_=>cases h
 |_=>cases h
theorem ZO{gV:Int->Int->V}(hr:∀i j c H,Rep K c H (gV i j) (g i j)):BG K (rI0 gV) (i2 g):=λ{Oo c t σ H x y dx dy r t' Q} f rx ry eq k=>by
 clear 5(YA eq)i j rfl rfl z
 cases z
 cases rx
 cases ry
 exact⟨i,j,rfl,rfl,k _ H c f .refl (hr i j c H)⟩
def i2C(C:Int->Int->Bool)(g:Int->Int->D):D->D->M D
 |.int i,.int j=>λt=>if C i j=true then some (g i j,t) else none
 |_,_=>fail
theorem VP{C:Int->Int->Bool}{x y:D}(h:i2C C g x y t=some z):∃i j,x=.int i/\y=.int j/\C i j=true/\z=(g i j,t):=by
 cases x with
 |int i=>cases y with
   |int j=>
     unfold i2C at h;dsimp only at h
     by_cases hc:C i j=true
     .rw[kQ hc] at h;cases h;exact⟨i,j,rfl,rfl,hc,rfl⟩
     .rw[kS hc] at h;cases h
   |_=>cases h
 |_=>cases h
theorem LC{P:Int->Int->Prop}{C:Int->Int->Bool}{gV:Int->Int->V}(hP:∀i j,C i j=true->P i j)(hr:∀i j c H,Rep K c H (gV i j) (g i j)):BG K (rI P gV) (i2C C g):=λ{Oo c t σ H x y dx dy r t' Q} f rx ry eq k=>by
 clear 5(VP eq)i j rfl rfl hc z
 cases z
 cases rx
 cases ry
 exact⟨i,j,rfl,rfl,hP i j hc,k _ H c f .refl (hr i j c H)⟩
def DH:=i2 λi j=>.int (i-j)
noncomputable def Mo(_ j:Int):Bool:=decide (0<j)&&decide (j<1073741824)
def BQ:=i2C Mo λi j=>.int (i/j)
def B5:=i2C (λ_ j=>decide (0<j)) λi j=>.int (i%j)
noncomputable def U0(i j:Int):Bool:=decide (0<=j)&&decide (j<=1000000)&&decide (i.natAbs<2 ^ 64)
def de:=i2C U0 λi j=>.int (i ^ j.toNat)
noncomputable def FY(i j:Int):Bool:=(decide (-(2 ^ 64)<i)&&decide (i<2 ^ 64))||(decide (-(2 ^ 64)<j)&&decide (j<2 ^ 64))
def NU:=i2C (λ_ j=>decide (0<=j)) λi j=>.int (i/2 ^ j.toNat)
theorem W7:BG K (rI0 λi j=>.int (i-j)) DH:=ZO λi j _ _=>.int _
theorem Ul:BG K (rI Xt λi j=>.int (i/j)) BQ:=LC (λi j h=>by
 unfold Mo at h;rw[uh0] at h;exact⟨ug4 h.1,ug4 h.2⟩) λi j _ _=>.int _
theorem W0:BG K (rI (λ_ j=>0<j) λi j=>.int (i%j)) B5:=LC (λi j h=>ug4 h) λi j _ _=>.int _
theorem W6:BG K (rI (λ_ j=>0<=j) λi j=>.int (i/2 ^ j.toNat)) NU:=LC (λi j h=>ug4 h) λi j _ _=>.int _
theorem RD{i j:Int}(h:FY i j=true):CMul i j:=by
 unfold FY at h;rw[uj3,uh0,uh0] at h;rcases h with h|h
 .exact .inl ⟨ug4 h.1,ug4 h.2⟩
 .exact .inr ⟨ug4 h.1,ug4 h.2⟩
def Nx:D->M D
 |.int i=>ret (.int (-i))
 |_=>fail
theorem W4:Xy K (rU λi=>.int (-i)) Nx:=λ{Oo c t σ H x dx r t' Q} f rx eq k=>by
 cases rx with
 |int i=>cases eq;exact⟨i,rfl,k _ H c f .refl (.int _)⟩
 |_=>cases eq
def XC:D->D->M D
 |.int i,.int j=>ret (.int (i+j))
 |.str x,.str y=>lim (x.length+y.length) (.str (x++y))
 |.lst xs,.lst ys=>lim (xs.length+ys.length) (.lst (xs++ys))
 |_,_=>fail
def WD:R2:=λx y H Q=>∃i j,x=.str i/\y=.str j/\i.length+j.length<=sizeLine/\Q (.str (i++j)) H
def P7(K:gd):R2:=λx y H Q=>rI0 (λi j=>.int (i+j)) x y H Q\/(WD x y H Q\/Uf x y H Q)
theorem Wa:OpR X (binaryOp .Add) (P7 X.K):=op_add.or (op_add_str.or RQ)
theorem WO:BG K (P7 K) XC:=λ{Oo c t σ H x y dx dy r t' Q} f rx ry eq k=>by
 cases rx with
 |int i=>
   cases ry with
   |int j=>cases eq;exact .inl ⟨i,j,rfl,rfl,k _ H c f .refl (.int _)⟩
   |_=>cases eq
 |str i=>
   cases ry with
   |str j=>
     clear 5(Ez eq)h z
     cases z
     exact .inr (.inl ⟨i,j,rfl,rfl,ul9 h DR,k _ H c f .refl (.str _)⟩)
   |_=>cases eq
 |@lst a vs ds h1 h2 h3=>
   cases ry with
   |@lst b ws es g1 g2 g3=>
     clear 5(Ez eq)h z
     cases z
     refine .inr (.inr ⟨a,b,vs,ws,rfl,rfl,h1,g1,?_,λp hp=>?_⟩)
     .rw[h3.length,g3.length];exact ul9 h DR
     .exact k _ _ c (f.laid hp) (f.stp_laid hp) (.lst Bf (f.s.free hp) ((h3.append g3).mono (Ext.laid f.s hp)))
   |_=>cases eq
 |_=>cases eq
def JK:D->D->M (List D)
 |.lst xs,.lst ys=>lim (xs.length+ys.length) (xs++ys)
 |_,_=>fail
theorem Uk:Pi K Uf JK:=λ{Oo c t σ H x y dx dy r t' Q} f rx ry eq k=>by
 cases rx with
 |@lst a vs ds h1 h2 h3=>
   cases ry with
   |@lst b ws es g1 g2 g3=>
     clear 5(Ez eq)h z
     cases z
     refine⟨a,b,vs,ws,rfl,rfl,h1,g1,?_,λp hp=>k p _ H c f .refl (h3.append g3) hp⟩;rw[h3.length,g3.length];exact ul9 h DR
   |_=>cases eq
 |_=>cases eq
def isC:D->D->M D
 |x,.non=>λt=>some (.bl (match x with | .non=>true|_=>false),t)
 |x,.bl b=>λt=>some (.bl (match x with | .bl c=>c==b|_=>false),t)
 |_,_=>fail
def Ri(x y:D):M D:=bnd (isC x y) λd=>match d with | .bl b=>ret (.bl (!b))|_=>fail
def rIs(g:Bool->Bool):R2:=λx y H Q=>(y=.non\/∃b,y=.bl b)/\Q (.bl (g (decide (x=y)))) H
theorem Vj{x y:V}{v u:gf}(rx:RelV x v)(ry:RelV y u)(hy:y=.non\/∃b,y=.bl b):plainIs v u=true/\(v==u)=decide (x=y):=by
 rcases hy with rfl|⟨b,rfl⟩
 .cases ry
  cases x with
  |non=>cases rx;exact⟨rfl,by simp⟩
  |bl _=>cases rx;exact⟨rfl,by simp⟩
  |int _=>clear 5 rx t rfl;exact⟨rfl,by simp⟩
  |str _=>clear 5 rx t rfl;exact⟨rfl,by simp⟩
  |byt _=>clear 5 rx t rfl;exact⟨rfl,by simp⟩
  |flt _=>clear 5 rx t rfl;exact⟨rfl,by simp⟩
  |ref _=>cases rx;exact⟨rfl,by simp⟩
  |ty _=>cases rx;exact⟨rfl,by simp⟩
 .cases ry
  cases x with
  |non=>cases rx;exact⟨rfl,by simp⟩
  |bl c=>cases rx;exact⟨rfl,by simp;cases c<;>cases b<;>rfl⟩
  |int _=>clear 5 rx t rfl;exact⟨rfl,by simp⟩
  |str _=>clear 5 rx t rfl;exact⟨rfl,by simp⟩
  |byt _=>clear 5 rx t rfl;exact⟨rfl,by simp⟩
  |flt _=>clear 5 rx t rfl;exact⟨rfl,by simp⟩
  |ref _=>cases rx;exact⟨rfl,by simp⟩
  |ty _=>cases rx;exact⟨rfl,by simp⟩
theorem RW:OpR X (compareOp .Is) (rIs id):=by
 intro ge s σ H x y v u Q I rx ry h;clear 5 h hy q;clear 5(Vj rx ry hy)h1 h2;exact wpAny_is_plain h1 ⟨.bl _,H,I,by rw[h2];rfl,q⟩
theorem VR{x y:V}{dx dy:D}(rx:Rep K c H x dx)(ry:Rep K c H y dy)(eq:isC dx dy t=some z):(y=.non\/∃b,y=.bl b)/\z=(.bl (decide (x=y)),t):=by
 cases ry with
 |non=>
   refine⟨.inl rfl,?_⟩
   cases rx<;>(cases eq;first|rfl|simp)
 |bl b=>
   refine⟨.inr ⟨b,rfl⟩,?_⟩
   cases rx<;>(cases eq;first|rfl|simp)
   next a=>cases a<;>cases b<;>rfl
 |_=>cases eq
theorem Si:BG K (rIs id) isC:=λ{Oo c t σ H x y dx dy r t' Q} f rx ry eq k=>by
 clear 5(VR rx ry eq)h z
 cases z
 exact⟨h,k _ H c f .refl (.bl _)⟩
noncomputable def Kt:D->Bool
 |.non=>true | .bl _=>true | .int _=>true | .str _=>true|_=>false
noncomputable def KL:D->Option (List D)
 |.lst ds=>some ds
 |.tup ds=>some ds
 |.gts xs=>some (xs.map .str)
 |_=>none
noncomputable def toV:D->V
 |.bl b=>.bl b | .int i=>.int i | .str x=>.str x|_=>.non
theorem Fp{v:V}{d:D}(r:Rep K c H v d)(h:Kt d=true):v=toV d:=by cases r<;>first|rfl|cases h
theorem EE{c:Cf}{H:Hp}:∀{vs:List V}{ds:List D},Reps K c H vs ds->ds.all Kt=true->vs=ds.map toV
 |_,_,.nil,_=>rfl
 |_,_,.cons r t,h=>by
   rw[uk8,uh0] at h;rw[uk6,Fp r h.1,EE t h.2]
theorem Fd:∀d:D,FW (toV d)=true:=λd=>by cases d<;>rfl
def inD(neg:Bool)(x y:D):M D:=λt=>match KL y with
 |some ds=>if Kt x=true/\ds.all Kt=true then some (.bl (if neg then !inV (toV x) (ds.map toV) else inV (toV x) (ds.map toV)),t) else none
 |none=>none
theorem ZP{neg:Bool}:BG K (rIn K neg) (inD neg):=λ{Oo c t σ H x y dx dy r t' Q} f rx ry eq k=>by
 unfold inD at eq
 cases ry with
 |@lst a vs ds h1 h2 h3=>
   dsimp only[KL] at eq
   split at eq
   .next h=>
    cases eq
    refine⟨a,vs,rfl,.inl (SqL.of h1),?_,?_,?_⟩
    .rw[Fp rx h.1];exact Fd _
    .rw[EE h3 h.2,um2,uh4];exact λd _=>Fd d
    .rw[Fp rx h.1,EE h3 h.2];exact k _ H c f .refl (.bl _)
   .cases eq
 |@tup a vs ds h1 h2 h3=>
   dsimp only[KL] at eq
   split at eq
   .next h=>
    cases eq
    refine⟨a,vs,rfl,.inr (SqT.of h1),?_,?_,?_⟩
    .rw[Fp rx h.1];exact Fd _
    .rw[EE h3 h.2,um2,uh4];exact λd _=>Fd d
    .rw[Fp rx h.1,EE h3 h.2];exact k _ H c f .refl (.bl _)
   .cases eq
 |@gts a xs hk=>
   dsimp only[KL] at eq
   split at eq
   .next h=>
    cases eq
    have h3:Reps K c H (xs.map V.str) (xs.map D.str):=Reps.strs xs;refine⟨a,_,rfl,.inr (.inr hk),?_,?_,?_⟩
    .rw[Fp rx h.1];exact Fd _
    .rw[EE h3 h.2,um2,uh4];exact λd _=>Fd d
    .rw[Fp rx h.1,EE h3 h.2];exact k _ H c f .refl (.bl _)
   .cases eq
 |_=>cases eq
def ixD:D->D->M D
 |.lst ds,.int i=>λt=>(atI ds i).map λd=>(d,t)
 |.tup ds,.int i=>λt=>(atI ds i).map λd=>(d,t)
 |.scr ns,.int i=>λt=>(atI ns i).map λn=>(.int n,t)
 |.str x,.int i=>λt=>if x.length<=LIM then(atI x.cps.toList i).map λn=>(.str ⟨#[n]⟩,t) else none
 |.obj k,.int i=>λt=>match t.S[k]? with
   |some (.lst ds)=>(atI ds i).map λd=>(d,t)
   |_=>none
 |_,_=>fail
theorem JI{vs:List V}{ds:List D}{i:Int}{d:D}(r:Reps K c H vs ds)(h:atI ds i=some d):∃v,atI vs i=some v/\Rep K c H v d:=by
 unfold atI at h⊢;clear 5(Option.bind_eq_some_iff.mp h)j h1 h2;clear 5(r.at h2)v h3 h4;exact⟨v,by rw[r.length,h1];exact h3,h4⟩
theorem Vh{α β:Type}(g:α->β)(xs:List α)(i:Int):atI (xs.map g) i=(atI xs i).map g:=by
 unfold atI;rw[ui3]
 cases ixN xs.length i with
 |none=>rfl
 |some j=>simp
theorem YC{dx dy r:D}{t':T}(eq:ixD dx dy t=some (r,t')):∃i,dy=.int i/\((∃ds,dx=.lst ds)\/(∃ds,dx=.tup ds)\/(∃ns,dx=.scr ns)\/(∃z,dx=.str z)\/∃k,dx=.obj k):=by
 unfold ixD at eq
 split at eq
 .exact⟨_,rfl,.inl ⟨_,rfl⟩⟩
 .exact⟨_,rfl,.inr (.inl ⟨_,rfl⟩)⟩
 .exact⟨_,rfl,.inr (.inr (.inl ⟨_,rfl⟩))⟩
 .exact⟨_,rfl,.inr (.inr (.inr (.inl ⟨_,rfl⟩)))⟩
 .exact⟨_,rfl,.inr (.inr (.inr (.inr ⟨_,rfl⟩)))⟩
 .cases eq
theorem ZQ:BG K (rIx K) ixD:=λ{Oo c t σ H x y dx dy r t' Q} f rx ry eq k=>by
 clear 5(YC eq)i rfl hd
 cases ry
 rcases hd with⟨ds,rfl⟩|⟨ds,rfl⟩|⟨ns,rfl⟩|⟨z,rfl⟩|⟨kk,rfl⟩
 .cases rx with
  |@lst a vs _ h1 h2 h3=>
    clear 5(uc1.mp eq)d e1 e2
    cases e2
    clear 5(JI h3 e1)v e3 e4;exact .inl ⟨a,vs,i,v,rfl,rfl,SqL.of h1,e3,k _ H c f .refl e4⟩
 .cases rx with
  |@tup a vs _ h1 h2 h3=>
    clear 5(uc1.mp eq)d e1 e2
    cases e2
    clear 5(JI h3 e1)v e3 e4;exact .inr (.inl ⟨a,vs,i,v,rfl,rfl,SqT.of h1,e3,k _ H c f .refl e4⟩)
 .cases rx with
  |@scr a _ h1=>
    clear 5(uc1.mp eq)n e1 e2
    cases e2
    exact .inl ⟨a,_,i,.int n,rfl,rfl,h1.sq,by rw[Vh,e1];rfl,k _ H c f .refl (.int n)⟩
 .cases rx
  unfold ixD at eq;dsimp only at eq
  split at eq
  .next hl=>
   clear 5(uc1.mp eq)n e1 e2
   cases e2
   exact .inr (.inr ⟨z,i,n,rfl,rfl,ul9 hl DR,e1,k _ H c f .refl (.str _)⟩)
  .cases eq
 .cases rx with
  |@obj a _ h1=>
    unfold ixD at eq;dsimp only at eq
    cases es:t.S[kk]? with
    |none=>rw[es] at eq;cases eq
    |some o=>
      rw[es] at eq
      cases o with
      |dct _|ins _ _=>cases eq
      |lst ds=>
        clear 5(uc1.mp eq)d e1 e2
        cases e2
        clear 5(f.s.obs kk a _ h1 es)vs g1 g2;clear 5(JI g2 e1)v e3 e4;exact .inl ⟨a,vs,i,v,rfl,rfl,SqL.of g1,e3,k _ H c f .refl e4⟩
end
variable{f:M D}{id:String}{R:List V->Hp->VK->Prop}{p:Pos}
section
variable{X:Cx}{e a b:Expr}{es:List Expr}{pos:Pos}
inductive RO(K:gd)(f:M (Option Int))(σ:L2.St)(H:Hp)(Q:Option Int->Hp->Prop):Prop where
 |mk (Oo:gg->Prop) (c:Cf) (t:T) (fi:FInv K Oo c t σ H) (r:Option Int) (t':T) (e:f t=some (r,t')) (k:∀H' c',FInv K Oo c' t' σ H'->Stp Oo c H c' H'->Q r H'):RO K f σ H Q
theorem Qw{oe:Option Expr}{t t':TO}(h:PO X oe t)(i:∀σ H Q,t' σ H Q->t σ H Q):PO X oe t':=λge s σ H Q I q=>h ge s σ H Q I (i σ H Q q)
def fNo:M (Option Int):=ret none
def asI:D->M (Option Int)
 |.int i=>ret (some i)
 |_=>fail
def GB(f:M D):M (Option Int):=bnd f asI
theorem VG:PO X none (RO X.K fNo):=Qw Wt λσ H Q z9=>by
 clear 5 z9 Oo c t fi r t' eq k
 cases eq
 exact k H c fi .refl
theorem VH(h:PE X e (RE X.K f)):PO X (some e) (RO X.K (GB f)):=Qw (Wu h) λσ H Q z9=>by
 clear 5 z9 Oo c t fi r t' eq k;clear 5(Ai eq)d t1 e1 eq;refine⟨Oo,c,t,fi,d,t1,e1,λv H1 c1 f1 s1 rv=>?_⟩
 cases rv with
 |int i=>cases eq;exact⟨i,rfl,k H1 c1 f1 s1⟩
 |_=>cases eq
def Pj(K:gd)(R:V->Option Int->Option Int->Hp->VK->Prop)(h:D->Option Int->Option Int->M D):Prop:=∀{Oo:gg->Prop}{c:Cf}{t:T}{σ:L2.St}{H:Hp}{x:V}{dx r:D}{lo hi:Option Int}{t':T}{Q:VK},FInv K Oo c t σ H->Rep K c H x dx->h dx lo hi t=some (r,t')->
 (∀v H' c',FInv K Oo c' t' σ H'->Stp Oo c H c' H'->Rep K c' H' v r->Q v H')->R x lo hi H Q
def fSl(f:M D)(l u:M (Option Int))(h:D->Option Int->Option Int->M D):M D:=bnd f λx=>bnd l λlo=>bnd u λhi=>h x lo hi
theorem M7{R:V->Option Int->Option Int->Hp->VK->Prop}{h:D->Option Int->Option Int->M D}{l u:M (Option Int)}{lo hi:Option Expr}{p2:Pos}(hr:SlR X R)(s:Pj X.K R h)(he:PE X e (RE X.K f))(hl:PO X lo (RO X.K l))(hu:PO X hi (RO X.K u)):PE X (.Subscript e (.Slice lo hi none p2) pos) (RE X.K (fSl f l u h)):=
 A4 (NF hr he hl hu) λσ H Q z9=>by
  clear 5 z9 Oo c t fi r t' eq k;clear 5(Ai eq)d t1 e1 eq;clear 5(Ai eq)ol t2 e2 eq;clear 5(Ai eq)oh t3 e3 eq;exact⟨Oo,c,t,fi,d,t1,e1,λv H1 c1 f1 s1 rv=>⟨Oo,c1,t1,f1,ol,t2,e2,λH2 c2 f2 s2=>⟨Oo,c2,t2,f2,oh,t3,e3,λH3 c3 f3 s3=>
   s f3 (rv.mono (s2.trans s3).ext) eq λv H' c' f' s' rv'=>k v H' c' f' (((s1.trans s2).trans s3).trans s') rv'⟩⟩⟩
def B3{α:Type}(xs:List α)(lo hi:Option Int):List α:=(xs.drop (HT.sIx xs.length 0 lo)).take (HT.sIx xs.length xs.length hi-HT.sIx xs.length 0 lo)
def slD:D->Option Int->Option Int->M D
 |.lst ds,lo,hi=>ret (.lst (B3 ds lo hi))
 |.scr ns,lo,hi=>ret (.lst ((B3 ns lo hi).map .int))
 |.tup ds,lo,hi=>λt=>if HT.sIx ds.length 0 lo=0/\HT.sIx ds.length ds.length hi=ds.length then none else some (.tup (B3 ds lo hi),t)
 |_,_,_=>fail
theorem Fq{K:gd}{vs:List V}{ds:List D}(r:Reps K c H vs ds)(lo hi:Option Int):Reps K c H (Ht vs lo hi) (B3 ds lo hi):=by
 unfold Ht B3;rw[r.length];exact(r.drop _).take _
theorem SX{α β:Type}(g:α->β)(xs:List α)(lo hi:Option Int):B3 (xs.map g) lo hi=(B3 xs lo hi).map g:=by
 unfold B3;rw[ui3,ul0,jq]
theorem LV(ns:List Int)(lo hi:Option Int):Ht (ns.map V.int) lo hi=(B3 ns lo hi).map V.int:=SX V.int ns lo hi
def Ug(K:gd):V->Option Int->Option Int->Hp->VK->Prop:=λx lo hi H Q=>ZF K x lo hi H Q\/ZH K x lo hi H Q
theorem sl2:SlR X (Ug X.K):=sl_list.or ZV
theorem ZR{K:gd}:Pj K (Ug K) slD:=λ{Oo c t σ H x dx r lo hi t' Q} f rx eq k=>by
 cases rx with
 |@lst p vs ds h1 h2 h3=>
   cases eq
   exact .inl ⟨p,vs,rfl,SqL.of h1,λq hq=>k _ _ c (f.laid hq) (f.stp_laid hq) (.lst Bf (f.s.free hq) ((Fq h3 lo hi).mono (Ext.laid f.s hq)))⟩
 |@scr p ns h1=>
   cases eq
   refine .inl ⟨p,_,rfl,h1.sq,λq hq=>k _ _ c (f.laid hq) (f.stp_laid hq) (.lst Bf (f.s.free hq) ?_)⟩;rw[LV];exact Reps.ints _
 |@tup p vs ds h1 h2 h3=>
   unfold slD at eq;dsimp only at eq
   split at eq
   .cases eq
   .next hn=>
    cases eq
    exact .inr ⟨p,vs,rfl,SqT.of h1,by rw[h3.length];exact hn,λq hq=>k _ _ c (f.laid hq) (f.stp_laid hq) (.tup Bf (f.s.free hq) ((Fq h3 lo hi).mono (Ext.laid f.s hq)))⟩
 |_=>cases eq
theorem cQ{h:List D->M D}{f:M (List D)}{x:Str}(hc:C9 X (.builtin id) R)(s:F5 X.K R h)(hg:Gl X x)(hm:X.mg x=none)(hv:bootBuiltins x=some (.builtin id))(ha:PA X (e::es) (RA X.K f))(hn:x≠"__name__":=by decide)(hdb:(x==("__debug__":Str))=false:=by decide)
 (he:starEach (e::es) X.env=(false,eval e X.env)::starEach es X.env:=by rfl) (hpl:(backTo pos (starEach es X.env)).any (·.1)=false:=by rfl):PE X (.Call (.Name x p) (e::es) [] pos) (RE X.K (fB f h)):=
 A4 (T0 hc hg hm hv ha hn hdb he hpl) λ_ _ _ q=>RE.callB s q
theorem cR{h:List D->M D}{f:M (List D)}{x:Str}(hc:C9 X (.type id) R)(s:F5 X.K R h)(hg:Gl X x)(hm:X.mg x=none)(hv:bootBuiltins x=some (.type id))(ha:PA X (e::es) (RA X.K f))(hn:x≠"__name__":=by decide)(hdb:(x==("__debug__":Str))=false:=by decide)
 (he:starEach (e::es) X.env=(false,eval e X.env)::starEach es X.env:=by rfl) (hpl:(backTo pos (starEach es X.env)).any (·.1)=false:=by rfl):PE X (.Call (.Name x p) (e::es) [] pos) (RE X.K (fB f h)):=
 A4 (IM hc hg hm hv ha hn hdb he hpl) λ_ _ _ q=>RE.callB s q
theorem cS{h:List D->M (List D)}{f:M (List D)}{x:Str}(hc:C9 X (.type id) R)(s:Mm X.K R h)(hg:Gl X x)(hm:X.mg x=none)(hv:bootBuiltins x=some (.type id))(ha:PA X (e::es) (RA X.K f))(hn:x≠"__name__":=by decide)(hdb:(x==("__debug__":Str))=false:=by decide)
 (he:starEach (e::es) X.env=(false,eval e X.env)::starEach es X.env:=by rfl) (hpl:(backTo pos (starEach es X.env)).any (·.1)=false:=by rfl):PE X (.Call (.Name x p) (e::es) [] pos) (RF X.K (fBF f h)):=
 A4 (IM hc hg hm hv ha hn hdb he hpl) λ_ _ _ q=>RF.callB s q
theorem aH{op:Operator}{R:R2}{g:M D}{h:D->D->M (List D)}(ho:OpR X (binaryOp op) R)(s:Pi X.K R h)(ha:PE X a (RE X.K f))(hb:PE X b (RE X.K g)):PE X (.BinOp a op b pos) (RF X.K (bnd f λx=>bnd g λy=>h x y)):=
 A4 (PY ho ha hb) λ_ _ _ q=>RF.two s q
end
section
variable{K:gd}
theorem GH{xs:List V}{d:D}(r:Reps K c H xs [d]):∃v,xs=[v]/\Rep K c H v d:=by
 cases r with
 |cons r rs=>cases rs;exact⟨_,rfl,r⟩
theorem Qb{xs:List V}{d e:D}(r:Reps K c H xs [d,e]):∃v u,xs=[v,u]/\Rep K c H v d/\Rep K c H u e:=by
 cases r with
 |cons r rs=>
   clear 5(GH rs)u rfl q;exact⟨_,u,rfl,r,q⟩
def A6:List D->M D
 |[.lst ds]=>ret (.int ds.length)
 |[.tup ds]=>ret (.int ds.length)
 |[.scr ns]=>ret (.int ns.length)
 |[.str x]=>lim x.length (.int x.length)
 |[.obj k]=>λt=>match t.S[k]? with
   |some (.lst ds)=>some (.int ds.length,t)
   |_=>none
 |_=>fail
theorem WV:F5 K (λxs H Q=>∃x n,xs=[x]/\Xv K x H n/\Q (.int n) H) A6:=λ{Oo c t σ H xs ds r t' Q} f rx eq k=>by
 match ds,rx,eq with
 |[],_,eq=>cases eq
 |d0::_::_,_,eq=>cases d0<;>cases eq
 |[d],rx,eq=>
   clear 5(GH rx)v rfl rv
   cases rv with
   |@lst a vs ds h1 h2 h3=>cases eq;exact⟨_,ds.length,rfl,.inl ⟨vs,SqL.of h1,h3.length.symm⟩,k _ H c f .refl (.int _)⟩
   |@tup a vs ds h1 h2 h3=>cases eq;exact⟨_,ds.length,rfl,.inr ⟨vs,SqT.of h1,h3.length.symm⟩,k _ H c f .refl (.int _)⟩
   |@scr a ns h1=>cases eq;exact⟨_,ns.length,rfl,.inl ⟨_,h1.sq,by simp⟩,k _ H c f .refl (.int _)⟩
   |str x=>
     clear 5(Ez eq)hl z
     cases z
     exact⟨_,x.length,rfl,⟨ul9 hl DR,rfl⟩,k _ H c f .refl (.int _)⟩
   |@obj a kk h1=>
     unfold A6 at eq;dsimp only at eq
     cases es:t.S[kk]? with
     |none=>rw[es] at eq;cases eq
     |some o=>
       rw[es] at eq
       cases o with
       |dct _|ins _ _=>cases eq
       |lst ds=>
         cases eq
         clear 5(f.s.obs kk a _ h1 es)vs g1 g2;exact⟨_,ds.length,rfl,.inl ⟨vs,SqL.of g1,g2.length.symm⟩,k _ H c f .refl (.int _)⟩
   |_=>cases eq
noncomputable def tyD:D->Option String
 |.non=>some "NoneType"
 |.bl _=>some "bool"
 |.int _=>some "int"
 |.str _=>some "str"
 |.lst _=>some "list"
 |.tup _=>some "tuple"
 |.dic=>some "dict"
 |_=>none
noncomputable def Gg(n m:String):Option Bool:=match m with
 | "int"=>some (n == "int" || n == "bool")
 | "bool"=>some (n == "bool")
 | "str"=>some (n == "str")
 | "list"=>some (n == "list")
 | "tuple"=>some (n == "tuple")
 | "dict"=>some (n == "dict")
 |_=>none
def C6:List D->M D
 |[d,.ty m]=>λt=>match tyD d with
   |some n=>(Gg n m).map λb=>(.bl b,t)
   |none=>none
 |_=>fail
theorem VU{d:D}{n m:String}{b:Bool}(h1:tyD d=some n)(h2:Gg n m=some b):PySem.W.kitOne K (.type n) (.type m)=some b:=by
 have hm:m = "int"\/m = "bool"\/m = "str"\/m = "list"\/m = "tuple"\/m = "dict":=by
  unfold Gg at h2
  split at h2<;>simp_all
 have hn:n = "NoneType"\/n = "bool"\/n = "int"\/n = "str"\/n = "list"\/n = "tuple"\/n = "dict":=by
  cases d<;>simp[tyD] at h1<;>simp[<-h1]
 rcases hm with rfl|rfl|rfl|rfl|rfl|rfl<;>rcases hn with rfl|rfl|rfl|rfl|rfl|rfl|rfl<;>(cases h2;rfl)
def ZB(K:gd):List V->Hp->VK->Prop:=λxs H Q=>∃x n t b,xs=[x,.ty n]/\TyOf K H x t/\PySem.W.kitOne K t (.type n)=some b/\Q (.bl b) H
theorem SU:C9 X (.builtin "isinstance") (ZB X.K):=by
 intro ge s σ H xs us Q I r h;clear 5 h x n t b rfl ty e q;clear 5(Qi r)u w' rfl rx rt
 cases rt
 exact Rl I rx ty e λtk=>⟨.bl b,H,I.tok tk,rfl,q⟩
theorem WU:F5 K (ZB K) C6:=λ{Oo c t σ H xs ds r t' Q} f rx eq k=>by
 unfold C6 at eq
 split at eq
 .next d m=>
  clear 5(Qb rx)v u rfl rv ru
  cases ru
  cases et:tyD d with
  |none=>rw[et] at eq;cases eq
  |some n=>
    rw[et] at eq;clear 5(uc1.mp eq)b e1 e2
    cases e2
    refine⟨v,m,.type n,b,rfl,?_,VU et e1,k _ H c f .refl (.bl b)⟩
    cases rv<;>first|(cases et;first|exact .non|exact .bl _|exact .int _|exact .str _|exact .lst ‹_› | exact .tup ‹_› | exact .dK ‹_›)|cases et
 .cases eq
def dI:List D->M D
 |[.lst ds]=>ret (.tup ds)
 |[.tup ds]=>ret (.tup ds)
 |[.obj k]=>λt=>match t.S[k]? with
   |some (.lst ds)=>some (.tup ds,t)
   |_=>none
 |_=>fail
def Dg:List D->M (List D)
 |[.lst ds]=>ret ds
 |[.tup ds]=>ret ds
 |[.scr ns]=>ret (ns.map .int)
 |[.obj k]=>λt=>match t.S[k]? with
   |some (.lst ds)=>some (ds,t)
   |_=>none
 |_=>fail
theorem WW:Mm K (λxs H Q=>∃p ys,xs=[.ref p]/\(SqL K H p ys\/SqT K H p ys)/\∀l,H l=none->Q (.ref l) (upd H l (.lst ys))) Dg:=λ{Oo c t σ H xs ds r t' Q} f rx eq k=>by
 match ds,rx,eq with
 |[],_,eq=>cases eq
 |d0::_::_,_,eq=>cases d0<;>cases eq
 |[d],rx,eq=>
   clear 5(GH rx)v rfl rv
   cases rv with
   |@lst a vs ds h1 h2 h3=>cases eq;exact⟨a,vs,rfl,.inl (SqL.of h1),λq hq=>k q vs H c f .refl h3 hq⟩
   |@tup a vs ds h1 h2 h3=>cases eq;exact⟨a,vs,rfl,.inr (SqT.of h1),λq hq=>k q vs H c f .refl h3 hq⟩
   |@scr a ns h1=>cases eq;exact⟨a,_,rfl,.inl h1.sq,λq hq=>k q _ H c f .refl (Reps.ints ns) hq⟩
   |@obj a kk h1=>
     unfold Dg at eq;dsimp only at eq
     cases es:t.S[kk]? with
     |none=>rw[es] at eq;cases eq
     |some o=>
       rw[es] at eq
       cases o with
       |dct _|ins _ _=>cases eq
       |lst ds=>
         cases eq
         clear 5(f.s.obs kk a _ h1 es)vs g1 g2;exact⟨a,vs,rfl,.inl (SqL.of g1),λq hq=>k q vs H c f .refl g2 hq⟩
   |_=>cases eq
def GO:List D->M D
 |[.int i]=>ret (.int i)
 |[.bl b]=>ret (.int (if b then 1 else 0))
 |_=>fail
theorem WT:F5 K (λxs H Q=>(∃i,xs=[.int i]/\Q (.int i) H)\/∃k,xs=[.bl k]/\Q (.int (if k then 1 else 0)) H) GO:=λ{Oo c t σ H xs ds r t' Q} f rx eq k=>by
 match ds,rx,eq with
 |[],_,eq=>cases eq
 |d0::_::_,_,eq=>cases d0<;>cases eq
 |[d],rx,eq=>
   clear 5(GH rx)v rfl rv
   cases rv with
   |int i=>cases eq;exact .inl ⟨i,rfl,k _ H c f .refl (.int _)⟩
   |bl b=>cases eq;exact .inr ⟨b,rfl,k _ H c f .refl (.int _)⟩
   |_=>cases eq
def cI:List D->M D
 |[.int i]=>ret (.int (if i<0 then -i else i))
 |_=>fail
def Lp:List D->M D
 |[.int i,.int j]=>ret (.int (if j<i then j else i))
 |_=>fail
def Lo:List D->M D
 |[.int i,.int j]=>ret (.int (if j > i then j else i))
 |_=>fail
theorem WZ:F5 K (λxs H Q=>∃i j,xs=[.int i,.int j]/\Q (.int (if j<i then j else i)) H) Lp:=λ{Oo c t σ H xs ds r t' Q} f rx eq k=>by
 unfold Lp at eq
 split at eq
 .next i j=>
  clear 5(Qb rx)v u rfl rv ru
  cases rv;cases ru;cases eq
  exact⟨i,j,rfl,k _ H c f .refl (.int _)⟩
 .cases eq
theorem WY:F5 K (λxs H Q=>∃i j,xs=[.int i,.int j]/\Q (.int (if j > i then j else i)) H) Lo:=λ{Oo c t σ H xs ds r t' Q} f rx eq k=>by
 unfold Lo at eq
 split at eq
 .next i j=>
  clear 5(Qb rx)v u rfl rv ru
  cases rv;cases ru;cases eq
  exact⟨i,j,rfl,k _ H c f .refl (.int _)⟩
 .cases eq
def JU:List D->M D
 |[.str x]=>λt=>if x.length=1 then some (.int (x.cps.getD 0 0:Nat),t) else none
 |_=>fail
theorem W5:F5 K (λxs H Q=>∃x,xs=[.str x]/\x.length=1/\Q (.int (x.cps.getD 0 0:Nat)) H) JU:=λ{Oo c t σ H xs ds r t' Q} f rx eq k=>by
 match ds,rx,eq with
 |[],_,eq=>cases eq
 |d0::_::_,_,eq=>cases d0<;>cases eq
 |[d],rx,eq=>
   clear 5(GH rx)v rfl rv
   cases rv with
   |str x=>
     unfold JU at eq;dsimp only at eq
     split at eq
     .next h=>cases eq;exact⟨x,rfl,h,k _ H c f .refl (.int _)⟩
     .cases eq
   |_=>cases eq
end
end
open AutoSeq1 (wpAny_loadPart')
open AutoSeq1 (wpAny_loadPart')
theorem MtM.or{X:Cx}{id:String}{r r':V->List V->Hp->VK->Prop}(h:MtM X id r)(h':MtM X id r'):MtM X id (λx xs H Q=>r x xs H Q\/r' x xs H Q):=by
 intro ge s σ H x xs v us Q I rx rv q;rcases q with q|q
 .exact h ge s σ H x xs v us Q I rx rv q
 .exact h' ge s σ H x xs v us Q I rx rv q
section
variable{X:Cx}{a b c d:Expr}{ta tb tc td:TE}{pos:Pos}
end
section
variable{K:gd}
def A7(x y:D):M D:=XC x y
def U1(K:gd):R2:=P7 K
theorem OT{X:Cx}:OpR X (binaryOp .Add) (U1 X.K):=Wa
theorem NT:BG K (U1 K) A7:=WO
def TU:D->D->M D
 |.int i,.int j=>λt=>if FY i j=true then some (.int (i*j),t) else none
 |_,_=>fail
def P9(K:gd):R2:=rI CMul (λi j=>.int (i*j))
theorem op_mul3{X:Cx}:OpR X (binaryOp .Mult) (P9 X.K):=Y9
theorem W3:BG K (P9 K) TU:=λ{Oo c t σ H x y dx dy r t' Q} f rx ry eq k=>by
 cases rx with
 |int i=>
   cases ry with
   |int j=>
     unfold TU at eq;dsimp only at eq
     split at eq
     .next h=>cases eq;exact⟨i,j,rfl,rfl,RD h,k _ H c f .refl (.int _)⟩
     .cases eq
   |_=>cases eq
 |_=>cases eq
end
section
variable{K:gd}{μ:Cf->Hp->D->(V->Hp->Prop)->Prop}
section
variable{X:Cx}{e a b:Expr}{pos:Pos}
def Do(xs:List D):List D->Option (List D)
 |[d]=>if xs.length<LIM then some (xs++[d]) else none
 |_=>none
def Eg(xs:List D):List D->Option (List D)
 |[.lst ys]=>if xs.length+ys.length<=LIM then some (xs++ys) else none
 |_=>none
def ownM(i:Nat)(h:List D->List D->Option (List D))(g:M (List D)):M Out:=λt=>match t.env[i]? with
 | some (some (.own _))=>bnd g (λds t1=>match t1.env[i]? with
   |some (some (.own xs))=>(h xs ds).map λys=>(.next,{t1 with env:=t1.env.set i (some (.own ys))})
   |_=>none) t
 |_=>none
def Pk(K:gd)(R:V->List V->Hp->VK->Prop)(h:List D->List D->Option (List D)):Prop:=∀{c:Cf}{S:List Ob}{H:Hp}{a:gg}{vs us:List V}{xs ds ys:List D}{Q:VK},SInv K c S H->H a=some (.lst vs)->Reps K c H vs xs->Reps K c H us ds->h xs ds=some ys->
 (∀ws,Reps K c H ws ys->Q .non (upd H a (.lst ws)))->R (.ref a) us H Q
theorem OZ:Pk K OX Do:=λ{c S H a vs us xs ds ys Q} s h r rs e k=>by
 unfold Do at e
 split at e
 .next d=>
  split at e
  .next hl=>
   cases e
   clear 5(GH rs)v rfl rv;exact⟨a,vs,v,rfl,rfl,h,by rw[r.length];exact ue4 hl DR,k _ (r.append (.cons rv .nil))⟩
  .cases e
 .cases e
def U2(K:gd):V->List V->Hp->VK->Prop:=OY
theorem OM{X:Cx}:MtM X "list.extend" (U2 X.K):=RC
theorem O0:Pk K (U2 K) Eg:=λ{c S H a vs us xs ds ys Q} s h r rs e k=>by
 unfold Eg at e
 split at e
 .split at e
  .next hl=>
   cases e
   clear 5(GH rs)v rfl rv
   cases rv with
   |lst h1 h2 h3=>exact⟨a,_,vs,_,rfl,rfl,h,h1,by rw[r.length,h3.length];exact ul9 hl DR,k _ (r.append h3)⟩
  .cases e
 .cases e
theorem RS.ownM{μ:Cf->Hp->D->(V->Hp->Prop)->Prop}{K:gd}{i:Nat}{h:List D->List D->Option (List D)}{g:M (List D)}{R:V->List V->Hp->VK->Prop}(s:Pk K R h){E:Ends}{σ:L2.St}{H:Hp}(q:RSg K μ (L2.ownM i h g) E σ H):U7 (tBM K "list" R (Z5 i) (RA K g)) E σ H:=by
 clear 5 q Oo c t fi o t' eq k;unfold L2.ownM at eq
 split at eq
 .next xs0 e0=>
  clear 5(Ai eq)ds t1 e1 eq;clear 5(fi.own i xs0 e0)a vs0 h1 h2 h3 h4 h5;refine⟨.ref a,h1,.inl ⟨rfl,vs0,SqL.of h4⟩,Oo,c,t,fi,ds,t1,e1,λus H1 c1 f1 s1 rus=>?_⟩
  split at eq
  .next xs ex=>
   clear 5(uc1.mp eq)ys ey ez
   cases ez
   clear 5(f1.own i xs ex)a' vs g1 g2 g3 g4 g5;rw[h1] at g1;injection g1 with g1;injection g1 with g1;injection g1 with g1;subst g1
   refine s f1.s g4 g5 rus ey λws rws=>?_;clear 5(f1.wrOwn ex h1 rws)f2 s2;exact k σ _ c1 f2 (s1.trans s2)
  .cases eq
 .cases eq
theorem QX(i:Nat){x:Str}{es:List Expr}{g:M (List D)}{px apos cpos:Pos}(ha:PA X (e::es) (RA X.K g))(hN:X.N[i]?=some x:=by rfl)(hv:Vis X.env.scope x:=by walk_at"h")(hd:(x==("__debug__":Str))=false:=by decide)
 (hcd:(x==("__classdict__":Str))=false:=by decide)
 (hbase:attributeBase (.Name x px) "append" X.env (eval (.Name x px) X.env)=eval (.Name x px) X.env:=by rfl)
 (hfew:((backTo cpos (starEach (e::es) X.env)).all (λx=>!x.1)&&(backToKw cpos (keywordEach [] X.env)).all (λx=>x.1.isSome)&&decide ((e::es).length+([]:List Keyword).length+(if ([]:List Keyword).isEmpty then 0 else 1)<30))=true:=by rfl)
 (hline:(apos.endLine==cpos.line)=true:=by rfl) (hs:starEach (e::es) X.env=(false,eval e X.env)::starEach es X.env:=by rfl) (hplain:(backTo cpos (starEach es X.env)).any (·.1)=false:=by rfl) :
 PS X (.Expr (.Call (.Attribute (.Name x px) "append" apos) (e::es) [] cpos) pos) (RSg X.K μ (ownM i Do g)):=
 Bt (Lv (Ms ub5 gq gu L4 (KD hN hv hd hcd) ha hbase hfew hline hs hplain)) λ_ _ _ q=>RS.ownM OZ q
theorem QY(i:Nat){x:Str}{es:List Expr}{g:M (List D)}{px apos cpos:Pos}(ha:PA X (e::es) (RA X.K g))(hN:X.N[i]?=some x:=by rfl)(hv:Vis X.env.scope x:=by walk_at"h")(hd:(x==("__debug__":Str))=false:=by decide)
 (hcd:(x==("__classdict__":Str))=false:=by decide)
 (hbase:attributeBase (.Name x px) "extend" X.env (eval (.Name x px) X.env)=eval (.Name x px) X.env:=by rfl)
 (hfew:((backTo cpos (starEach (e::es) X.env)).all (λx=>!x.1)&&(backToKw cpos (keywordEach [] X.env)).all (λx=>x.1.isSome)&&decide ((e::es).length+([]:List Keyword).length+(if ([]:List Keyword).isEmpty then 0 else 1)<30))=true:=by rfl)
 (hline:(apos.endLine==cpos.line)=true:=by rfl) (hs:starEach (e::es) X.env=(false,eval e X.env)::starEach es X.env:=by rfl) (hplain:(backTo cpos (starEach es X.env)).any (·.1)=false:=by rfl) :
 PS X (.Expr (.Call (.Attribute (.Name x px) "extend" apos) (e::es) [] cpos) pos) (RSg X.K μ (ownM i Eg g)):=
 Bt (Lv (Ms ub5 gy gz OM (KD hN hv hd hcd) ha hbase hfew hline hs hplain)) λ_ _ _ q=>RS.ownM O0 q
def objM(h:List D->List D->Option (List D))(f:M D)(g:M (List D)):M D:=bnd f λo=>match o with
 |.obj k=>λt=>match t.S[k]? with
   | some (.lst _)=>bnd g (λds t1=>match t1.S[k]? with
     |some (.lst xs)=>(h xs ds).map λys=>(.non,{t1 with S:=t1.S.set k (.lst ys)})
     |_=>none) t
   |_=>none
 |_=>fail
theorem RE.objM{K:gd}{h:List D->List D->Option (List D)}{f:M D}{g:M (List D)}{R:V->List V->Hp->VK->Prop}(s:Pk K R h){σ:L2.St}{H:Hp}{Q:VK}(q:RE K (L2.objM h f g) σ H Q):tBM K "list" R (RE K f) (RA K g) σ H Q:=by
 clear 5 q Oo c t fi r t' eq k;clear 5(Ai eq)o t0 e0 eq;refine⟨Oo,c,t,fi,o,t0,e0,λx H0 c0 f0 s0 rx=>?_⟩
 cases rx with
 |@obj a kk hk=>
   dsimp only at eq
   split at eq
   .next xs0 ex0=>
    clear 5(Ai eq)ds t1 e1 eq;clear 5(f0.s.obs kk a _ hk ex0)vs0 g0 g0';refine⟨.inl ⟨rfl,vs0,SqL.of g0⟩,Oo,c0,t0,f0,ds,t1,e1,λus H1 c1 f1 s1 rus=>?_⟩
    split at eq
    .next xs ex=>
     clear 5(uc1.mp eq)ys ey ez
     cases ez
     have hk1:=s1.ext.io _ _ hk;clear 5(f1.s.obs kk a _ hk1 ex)vs g1 g2;refine s f1.s g1 g2 rus ey λws rws=>?_;obtain⟨f2,s2⟩:=f1.wrObj (o:=.lst ys) (u:=.lst ws) hk1 λc' H' ext hu=>⟨ws,hu,rws.mono ext⟩;exact k _ _ c1 f2 ((s0.trans s1).trans s2) .non
    .cases eq
   .cases eq
 |_=>cases eq
theorem QO{o:Expr}{es:List Expr}{f:M D}{g:M (List D)}{apos cpos:Pos}(ho:PE X o (RE X.K f))(ha:PA X (e::es) (RA X.K g))
 (hbase:attributeBase o "append" X.env (eval o X.env)=eval o X.env:=by rfl)
 (hfew:((backTo cpos (starEach (e::es) X.env)).all (λx=>!x.1)&&(backToKw cpos (keywordEach [] X.env)).all (λx=>x.1.isSome)&&decide ((e::es).length+([]:List Keyword).length+(if ([]:List Keyword).isEmpty then 0 else 1)<30))=true:=by rfl)
 (hline:(apos.endLine==cpos.line)=true:=by rfl) (hs:starEach (e::es) X.env=(false,eval e X.env)::starEach es X.env:=by rfl) (hplain:(backTo cpos (starEach es X.env)).any (·.1)=false:=by rfl) :
 PE X (.Call (.Attribute o "append" apos) (e::es) [] cpos) (RE X.K (objM Do f g)):=
 A4 (Ms ub5 gq gu L4 ho ha hbase hfew hline hs hplain) λ_ _ _ q=>RE.objM OZ q
def ZW(o i d:D):M Unit:=match o,i with
 |.obj k,.int j=>λt=>match t.S[k]? with
   |some (.lst xs)=>(ixN xs.length j).map λn=>((),{t with S:=t.S.set k (.lst (xs.set n d))})
   |_=>none
 |_,_=>fail
def stD(f g:M D)(d:D):M Unit:=bnd f λo=>bnd g λi=>ZW o i d
end
variable{H:Hp}
section
variable{X:Cx}{e a b tg iter elt:Expr}{ifs:List Expr}{pos:Pos}{scope:Scope}{N':List Str}{n:Nat}{fr:List Nat}{f:M (List D)}{st:D->M Unit}{tst:M Bool}{el:M D}
def JV:M Bool:=ret true
theorem Vz:PIf X [] (RT X.K JV):=λge s σ H Q I z9=>by
 clear 5 z9 Oo c t fi r t' eq k;exact Wp ge s σ H Q I (by cases eq;exact k H c fi .refl)
theorem VA{g:M Bool}(h:PT X e (RT X.K g)):PIf X [e] (RT X.K g):=Wq h
theorem Jd(O:CmpOk X scope N' (Hs n fr))(hc:X.calm=true)(hi:PI X tg iter (RI X.K f))
 (hg:∀cl C s2 H2 fp,PG (CB X N' scope cl C s2 H2 fp) tg (RG X.K st)) (ht:∀cl C s2 H2 fp,PIf (CB X N' scope cl C s2 H2 fp) ifs (RT X.K tst)) (he:∀cl C s2 H2 fp,PE (CB X N' scope cl C s2 H2 fp) elt (RE X.K el))
 (hs:∀x,foldedSetIterable iter X.env x=pure x:=by intro _;rfl):PE X (.ListComp elt [⟨tg,iter,ifs,0⟩] scope pos) (RF X.K (CO n fr f st tst el)):=
 A4 (Wj O hc hi hg ht he hs) λ_ _ _ q=>RF.comp q
theorem RF.ofPure{f:M (List D)}{σ:L2.St}{Q:VK}(q:RE K (AK f) σ H Q):RF K f σ H Q:=by
 clear 5 q Oo c t fi r t' eq k;clear 5(Ai eq)ds t1 e1 eq
 cases eq
 exact⟨Oo,c,t,fi,ds,_,e1,λp xs H1 c1 f1 s1 rxs hp=>k _ _ c1 (f1.laid hp) (s1.trans (f1.stp_laid hp)) (.lst Bf (f1.s.free hp) (rxs.mono (Ext.laid f1.s hp)))⟩
theorem VJ{i:Nat}{y:Str}{py spos:Pos}(O:CmpOk X scope N' (Hs n fr))(hc:X.calm=true)(hN:X.N.Nodup)(hiN:X.N[i]?=some y)(hx:X.env.scope.names.lookup y=some .local)(hi:PI X tg iter (RI X.K f))
 (hg:∀cl C s2 H2 fp,PG (CB X N' scope cl C s2 H2 fp) tg (RG X.K st)) (ht:∀cl C s2 H2 fp,PIf (CB X N' scope cl C s2 H2 fp) ifs (RT X.K tst)) (he:∀cl C s2 H2 fp,PE (CB X N' scope cl C s2 H2 fp) elt (RE X.K el))
 (hsw:swapsWith (.ListComp elt [⟨tg,iter,ifs,0⟩] scope pos) (some (.Name y py)) spos.line X.env=pure true:=by rfl)
 (hs:∀x,foldedSetIterable iter X.env x=pure x:=by intro _;rfl):PS X (.Assign [.Name y py] (.ListComp elt [⟨tg,iter,ifs,0⟩] scope pos) spos) (RSg X.K μ (Ax i (AK (CO n fr f st tst el)))):=
 Bt (Wx O hc hN hiN hx hi hg ht he hsw hs) λE σ H q=>RF.comp (RF.ofPure (RS.set q))
theorem Il(tgs:List Str)(frn:List (Nat×Str))(hk:scope.kind=.function)(hcell:(scope.names.all λy=>y.2 != .cell)=true)(hloc:(scope.names.all λy=>y.2 != .local||scope.names.lookup y.1==some .local)=true)
 (hfree:(scope.names.all λy=>y.2 != .free||X.env.kindOf y.1==some .cell||X.env.kindOf y.1==some .free)=true)
 (hf:(frn.all λp=>X.N[p.1]?==some p.2&&scope.names.lookup p.2==some .free)=true):CmpOk X scope (tgs++frn.map (·.2)) (Hs tgs.length (frn.map (·.1))):=by
 rw[uh4] at hcell hloc hfree hf;refine⟨hk,λy hy=>by simpa using hcell y hy,λy hy hl=>?_,λy hy hl=>?_,λσ _=>by simp[Hs],λσ j x v h1 h2=>?_⟩
 .have:=hloc y hy;simpa[hl] using this
 .have:=hfree y hy;simpa[hl] using this
 .unfold Hs at h2
  by_cases hj:j<tgs.length
  .rw[ub0 (by simpa using hj),ub4] at h2
   split at h2<;>simp at h2
  .rw[ua6 (by simpa using hj),uc8,uf6,uf6] at h2;rw[ua6 (by simpa using hj),uf6] at h1
   cases e:frn[j-tgs.length]? with
   |none=>rw[e] at h1;cases h1
   |some p=>
     rw[e] at h1 h2;simp only[uj2,ug2] at h1 h2;have hp:=hf p (ud6 e);rw[uh0] at hp;refine⟨p.1,by rw[<-h1];simpa using hp.1,?_,by rw[<-h1];simpa using hp.2⟩
     cases e2:σ[p.1]? with
     |none=>rw[e2] at h2;cases h2
     |some o=>rw[e2] at h2;simpa using h2
end
mutual
noncomputable def BM:D->Bool
 |.tup xs=>Fo xs
 |.lst xs=>Fo xs
 |.obj _=>false
 |.scr _=>false
 |.exc _ _=>false
 |.gts _=>false
 |_=>true
noncomputable def Fo:List D->Bool
 |[]=>true
 |d::r=>BM d&&Fo r
end
def c0:Cf:=⟨[],λ_=>False⟩
theorem La(a:gg):¬c0.A a:=λh=>h.elim (λz=>nomatch z) λz=>z
mutual
theorem Gu{K:gd}{c:Cf}{H:Hp}{v:V}{d:D}(r:Rep K c H v d)(p:BM d=true):Rep K c0 H v d:=by
 cases r with
 |non=>exact .non
 |bl b=>exact .bl b
 |int i=>exact .int i
 |str x=>exact .str x
 |ty n=>exact .ty n
 |tup h n r=>exact .tup h (La _) (Jo r (by simpa[BM] using p))
 |lst h n r=>exact .lst h (La _) (Jo r (by simpa[BM] using p))
 |scr h=>simp[BM] at p
 |dic h n=>exact .dic h (La _)
 |obj h=>simp[BM] at p
 |exc _ _ _ _ _=>simp[BM] at p
 |gts _=>simp[BM] at p
theorem Jo{K:gd}{c:Cf}{H:Hp}{vs:List V}{ds:List D}(r:Reps K c H vs ds)(p:Fo ds=true):Reps K c0 H vs ds:=by
 cases r with
 |nil=>exact .nil
 |cons h t=>
   simp only[Fo,uh0] at p;exact .cons (Gu h p.1) (Jo t p.2)
end
noncomputable def DG(S:List Ob):D->D
 |.obj k=>match S[k]? with
   |some (.lst ds)=>.lst ds
   |_=>.obj k
 |d=>d
noncomputable def TF:D->Bool
 |.obj _=>true
 |_=>false
def eqS(g:Bool->Bool)(x y:D):M D:=λt=>
 if (TF x||TF y)=true then(if (BM (DG t.S x)&&BM (DG t.S y))=true then(eqN EQD (DG t.S x) (DG t.S y)).map λb=>(.bl (g b),t) else none)
 else(eqN EQD x y).map λb=>(.bl (g b),t)
theorem BV{c:Cf}{S:List Ob}{v:V}{d:D}(s:SInv K c S H)(r:Rep K c H v d)(p:BM (DG S d)=true):Rep K c0 H v (DG S d):=by
 cases r with
 |@obj a k hk=>
   unfold DG at p⊢;dsimp only at p⊢
   split
   .next ds e=>
    rw[e] at p;clear 5(s.obs k a _ hk e)vs h1 h2;exact .lst h1 (La _) (Jo h2 (by simpa[BM] using p))
   .next h=>
    split at p
    .next ds e=>exact absurd e (h ds)
    .simp[BM] at p
 |non=>exact .non
 |bl b=>exact .bl b
 |int b=>exact .int b
 |str b=>exact .str b
 |ty b=>exact .ty b
 |tup h n q=>exact Gu (.tup h n q) p
 |lst h n q=>exact Gu (.lst h n q) p
 |scr h=>exact Gu (c:=c) (.scr h) p
 |dic h n=>exact Gu (.dic h n) p
 |exc a b n f q=>exact Gu (.exc a b n f q) p
 |gts h=>exact Gu (c:=c) (.gts h) p
theorem Js{g:Bool->Bool}:BG K (P8 K g) (eqS g):=λ{Oo c t σ H x y dx dy r t' Q} f rx ry eq k=>by
 unfold eqS at eq
 split at eq
 .split at eq
  .next hp=>
   rw[uh0] at hp;clear 5(uc1.mp eq)b e1 e2
   cases e2
   exact⟨c0,_,_,b,BV f.s rx hp.1,BV f.s ry hp.2,e1,k _ H c f .refl (.bl (g b))⟩
  .cases eq
 .obtain⟨b,e1,e2⟩:=uc1.mp eq
  cases e2
  exact⟨c,dx,dy,b,rx,ry,e1,k _ H c f .refl (.bl (g b))⟩
theorem Rr{a:gg}{ns:List Int}{f:Fn}{S':List Ob}(hO:Ph H)(hS:SqL K H a (ns.map V.int))(e:f [.scr ns] []=some (.bl true,S')):spF K f [.ref a] H (λv _=>v=.bl true) λ_ _ _=>False:=by
 refine⟨c0,[.scr ns],[],⟨rfl,List.Pairwise.nil,λk a o h=>by simp[c0] at h,λb z=>z.elim,λb z=>z.elim⟩,.cons (.scr ?_) .nil,.bl true,S',e,λv H' c' _ _ _ rv=>by cases rv;rfl⟩;rcases hS with (h|h)|h
 .rcases hO a with z|⟨o,xs,z⟩
  .rw[z] at h;cases h
  .rw[z] at h;cases h
 .exact .inl ⟨h,La _⟩
 .exact .inr h
end
section
variable{prog:gi}{w:gj}{A:Around}{E:gf->gh->Prop}{s:gh}
theorem Kn{it l:gg}{items:Array gf}(hne:l≠it):∀(n i:Nat) (s:gh) (Q:List gf->gh->Prop),s.heap.IsListIter it l i->s.heap.IsList l items->i+n<=items.size->
 (∀h',h'.IsListIter it l (i+n)->Heap.SameBut it s.heap h'->Q ((items.toList.drop i).take n) {s with heap:=h'})->wpAny (model prog w) A (draw (.ref it) n) Q E s
 |0,i,s,Q,hit,_,_,hQ=>un3 (by simpa using hQ s.heap hit (Heap.SameBut.refl ..))
 |n+1,i,s,Q,hit,ht,hle,hQ=>by
   have hlt:i<items.size:=by lia
   refine un2 (wpAny_pyNext_list_item hit ht (x:=items[i]) (by simp[hlt]) λh1 hit1 hs1=>?_);refine un2 (ul6 (Kn hne n (i+1) _ _ hit1 (ht.extBut hs1.extBut hne) (by lia) λh2 hit2 hs2=>un3 ?_));have hd:items.toList.drop i=items[i]::items.toList.drop (i+1):=by simp[ub1,hlt]
   have:=hQ h2 (by rw[show i+(n+1)=i+1+n by lia];exact hit2) (hs1.trans hs2);rw[hd,ue3] at this;exact this
theorem N3{l:gg}{items:Array gf}{targets:List (Bool×(gf->Sem Unit))}{Q:Unit->gh->Prop}(hh:A.handled=none)(ht:s.heap.IsList l items)(hn:targets.length=items.size)(hstar:targets.findIdx? (·.1)=none)
 (h:∀h',Heap.ExtBut s.heap.objs.size s.heap h'->wpAny (model prog w) A (assignInOrder (targets.map (·.2)) items.toList) Q E {s with heap:=h'}):wpAny (model prog w) A (unpack (.ref l) targets) Q E s:=by
 have hlt:l≠s.heap.objs.size:=by obtain⟨o,ho,_⟩:=ht;exact ul8 (ul7 ho)
 unfold unpack;rw[hn,hstar];refine un2 (ul6 ?_);unfold unpackItems;refine un2 ?_;unfold notIterableAtAll;refine un2 (wpAny_specialOf ht.typeIs PySem.F.slot_list_iter.lookup ?_);refine un3 ?_;simp only[ue9,ku];refine un2 (ul6 (wpAny_pyIter_list ht ?_));have hp:Heap.IsList (s.heap.push {cls:=.type "list_iterator",data:=.fields #[.ref l,.int 0 0]}) l items:=by
  clear 5 ht o ho r;exact⟨o,ub9 _ ho,r⟩
 refine un2 (ul6 (Kn hlt items.size 0 _ _ ⟨_,ud9 _ rfl,rfl,rfl⟩ hp (by lia) λh1 hit1 hs1=>?_));have hall:List.take items.size (List.drop 0 items.toList)=items.toList:=by
  rw[uk2];exact uc2 (by simp)
 rw[hall];rw[kS (by simp)];have ht1:Heap.IsList h1 l items:=hp.extBut hs1.extBut hlt;refine un2 (ul6 (wpAny_pyNext_list_end hh hit1 ht1 (by simp) λh2 he2=>?_));simp only[Option.isSome_none,ue9,ku];exact un3 (h h2 λb o hb e=>he2 b o hb (hs1.extBut b o hb (ub9 _ e)))
end
section
variable{X:Cx}{pos:Pos}
def gUn(K:gd)(n:Nat)(t:TGs):TG:=λv σ H Q=>∃a xs,v=.ref a/\(SqT K H a xs\/SqL K H a xs)/\xs.length=n/\t xs σ H Q
theorem aZ{es:List Expr}{k:Nat}{t:TGs}{n:Nat}(hc:X.calm=true)(h:PGs X es t)
 (hn:(assignEach es X.env).length=n:=by rfl) (hst:(assignEach es X.env).findIdx? (·.1)=none:=by rfl):PG X (.Tuple es k pos) (gUn X.K n t):=by
 intro ge s σ H v u Q I r hw;obtain⟨a,xs,e1,hq|hq,hl,hw⟩:=hw
 .exact Zn hc h hn hst ge s σ H v u Q I r ⟨a,xs,e1,hq,hl,hw⟩
 .subst e1
  cases r
  clear 5(I.list hq)its rv ht hz;rw[assign_Tuple];refine un2 (jn (N3 (I.ok.hd hc) ht.isList (by simp[hn,<-hl,rv.length]) hst λh' hx=>?_));have I1:Inv X ge σ H {s with heap:=h'}:=I.kept (t':=s.toks) λb o e=>hx b o (ul8 (ul7 e)) e;exact h ge _ σ H xs _ Q I1 (by simpa using rv) hw
end
section
open HT
variable{prog:gi}{w:gj}{A:Around}{E:gf->gh->Prop}{s:gh}
theorem H9{t sl:gg}{items:Array gf}{vl vu:gf}{lo hi:Option Int}{Q:gf->gh->Prop}(ht:IsTup s.heap t items)(hs:s.heap.IsSliceOf sl vl vu .none)(pl:IsPart vl lo)(pu:IsPart vu hi)
 (hw:sIx items.size 0 lo=0/\sIx items.size items.size hi=items.size) (h:Q (.ref t) s):wpAny (model prog w) A (getItem (.ref t) (.ref sl)) Q E s:=by
 clear 5(id hs)os hos hcs hds;have hTs:s.TypeIs (.ref sl) "slice":=⟨os,hos,hcs⟩;unfold getItem
 try with_reducible refine ul6 ?_
 first|refine un2 (un3 ?_)|skip
 refine un2 (wpAny_sequenceKey ht.typeIs (by decide) ?_);refine un2 (wpAny_callSpecial?_slot (name:=Str.ofString "__getitem__") ht.typeIs ua0
  (wpAny_call_entry ua0 ht.typeIs entry_tuple_getitem ?_ (args_tuple_getitem _ _)))
 show wpAny _ _ (Builtin.Tuple.tupleItemsOf (.ref t) >>= _) _ _ s;refine un2 (tupleItemsOf_ ht ?_);refine un2 (wpAny_typeOf hTs ?_);rw[kQ (by decide)];refine un2 (Gx hs pl pu ?_);have hyes:(((sIx items.size 0 lo:Nat):Int)==0&&(1:Int)==1&&(sIx items.size items.size hi-sIx items.size 0 lo)==items.size)=true:=by
  rw[hw.1,hw.2];simp
 show wpAny _ _ (if (((sIx items.size 0 lo:Nat):Int)==0&&(1:Int)==1&&(sIx items.size items.size hi-sIx items.size 0 lo)==items.size)=true then _ else _) _ _ s;rw[kQ hyes];refine un2 (m:=Builtin.Tuple.tupleIsExact _) ?_;unfold Builtin.Tuple.tupleIsExact;refine un2 (wpAny_typeOf ht.typeIs (un3 ?_));rw[kQ (by decide)]
 first
  |exact un2 (wpAny_rule (un3 ⟨_,rfl,un3 h⟩))
  |exact un2 (wpAny_rule (un2 (un3 (un3 ⟨_,rfl,un3 h⟩))))
end
section
variable{X:Cx}
def ZI(K:gd):V->Option Int->Option Int->Hp->VK->Prop:=λx lo hi H Q=>∃a xs,x=.ref a/\SqT K H a xs/\(HT.sIx xs.length 0 lo=0/\HT.sIx xs.length xs.length hi=xs.length)/\Q (.ref a) H
theorem Xa:SlR X (ZI X.K):=by
 intro ge s σ H x v vl vu lo hi sl Q I rx hs pl pu h;clear 5 h a xs rfl hx hw q
 cases rx
 clear 5(I.tuple hx)its r ht hz;have hlen:its.toArray.size=xs.length:=by rw[uf5];exact r.length.symm
 exact⟨"tuple",_,ua0.lookup,ht.typeIs,H9 ht hs pl pu (by rw[hlen];exact hw) ⟨.ref a,H,I,rfl,q⟩⟩
end
noncomputable def Its(z:Str):It:=⟨λi _=>i<z.cps.size,λi H x H'=>H'=H/\∃c,z.cps[i]?=some c/\x=.str ⟨#[c]⟩,λi _=>i=z.cps.size⟩
theorem N2{P:gi}{w:gj}{K:gd}{tg:Expr}{T:String}{x:Str}{t:Tok}(it:gg)(hT:["enumerate", "zip", "dict_itemiterator", "dict_reverseitemiterator", "odict_iterator", "itertools.zip_longest", "itertools.pairwise"].contains T=false)
 (W:∀A:Around,A.handled=none->Walks P w A it [it] [it] x.cps.size (SignAt x) (λi h=>h.IsStrIter it T x t i))
 (self:∀(A:Around) (i:Nat) (s:gh) (Q:gf->gh->Prop) (E:gf->gh->Prop),s.heap.IsStrIter it T x t i->Q (.ref it) s->wpAny (model P w) A (pyIter (.ref it)) Q E s) :
 Turn P w K tg (Its x) [it] it (λi h=>h.IsStrIter it T x t i) where
 mem:=by simp
 obj:=λi h st b hb=>by
  have e:b=it:=by simpa using hb
  subst e;clear 5 st o e c d;exact⟨o,e,λv z=>by rw[d] at z;cases z⟩
 keep:=λi h h' st k=>by
  clear 5 st o e r;exact⟨o,k it (by simp) o e,r⟩
 item:=by
  intro X hP hw hK hc i ge s σ H E I hf st hg;subst hP hw hK;clear 5(hf it (by simp))f0 f1 f2 f3 f4 f5;refine(W X.A (I.ok.hd hc)).item i s _ _ hg st λv h' tk hv st' kk=>?_;clear 5 hv c u hcc rfl;have I1:Inv X ge σ H {s with heap:=h',toks:=tk}:=I.turned (λb o hb e=>kk b o (by simpa using hb) e) f0 f1 f3 f4 f5;clear 5(id st')o e ec ed;exact⟨_,rfl,Mq (s:={s with heap:=h',toks:=tk}) e ec ed hT ⟨.str ⟨#[c]⟩,H,I1,⟨u,rfl⟩,⟨rfl,c,hcc,rfl⟩,st',λb hb=>(hf b hb).1⟩⟩
 done:=by
  intro X hP hw hK hc i ge s σ H E I hf st hg;subst hP hw hK;clear 5(hf it (by simp))f0 f1 f2 f3 f4 f5;have hg':i=x.cps.size:=hg;subst hg';exact(W X.A (I.ok.hd hc)).done s _ _ st λh' tk kk=>⟨rfl,I.turned (λb o hb e=>kk b o (by simpa using hb) e) f0 f1 f3 f4 f5⟩
 self:=λA i s Q E st h=>self A i s Q E st h
section
variable{X:Cx}{tg:Expr}{pos:Pos}
def cX(K:gd)(tl:TE):TI:=λσ H R=>tl σ H λx H1=>(∃a,x=.ref a/\(∃xs,SqL K H1 a xs)/\R (Itl K a) H1)\/(∃a,x=.ref a/\(∃xs,SqT K H1 a xs)/\R (Itt K a) H1)\/∃z,x=.str z/\R (Its z) H1
theorem Zo{l:Expr}{tl:TE}(hl:PE X l tl):PI X tg l (cX X.K tl):=by
 intro ge s σ H R I h;refine thn (hl ge s σ H _ I h) λv s1 z9=>?_;clear 5 z9 x H1 I1 r1 q1;have fp:∀b∈[s1.heap.objs.size],FpOk X ge H1 b:=λb hb=>by
  have e:b=s1.heap.objs.size:=by simpa using hb
  subst e;exact I1.fpOk (um8 _) (I1.hok.fresh (um8 _))
 rcases q1 with⟨a,rfl,⟨xs,hq⟩,q⟩|⟨a,rfl,⟨xs,hq⟩,q⟩|⟨z,rfl,q⟩
 .cases r1
  clear 5(I1.list hq)its rv p hz;refine wpAny_pyIter_list p.isList ?_;exact⟨s1.heap.objs.size,[s1.heap.objs.size],_,_,H1,rfl,I1.kept (t':=s1.toks) λb o e=>ub9 _ e,SA a _,⟨_,ud9 _ rfl,rfl,rfl⟩,fp,q⟩
 .cases r1
  clear 5(I1.tuple hq)its rv p hz;refine wpAny_pyIter_tuple (show s1.heap.IsTuple a its.toArray from p) ?_;exact⟨s1.heap.objs.size,[s1.heap.objs.size],_,_,H1,rfl,I1.kept (t':=s1.toks) λb o e=>ub9 _ e,Qh a _,⟨_,ud9 _ rfl,rfl,rfl⟩,fp,q⟩
 .obtain⟨t,rfl⟩:=r1
  cases ha:z.cps.all (· < 128)
  .refine wpAny_pyIter_wide ha ?_;exact⟨s1.heap.objs.size,[s1.heap.objs.size],_,_,H1,rfl,I1.kept (t':=s1.toks) λb o e=>ub9 _ e,N2 (T:="str_iterator") (x:=z) (t:=t) _ (by decide) (λA hA=>Walks.strWide hA _ z t) (λ_ _ _ _ _ st h=>wpAny_pyIter_striter_wide st h),⟨_,ud9 _ rfl,rfl,rfl⟩,fp,q⟩
  .refine wpAny_pyIter_ascii ha ?_;exact⟨s1.heap.objs.size,[s1.heap.objs.size],_,_,H1,rfl,I1.kept (t':=s1.toks) λb o e=>ub9 _ e,N2 (T:="str_ascii_iterator") (x:=z) (t:=t) _ (by decide) (λA hA=>Walks.strAscii hA _ z t) (λ_ _ _ _ _ st h=>wpAny_pyIter_striter_ascii st h),⟨_,ud9 _ rfl,rfl,rfl⟩,fp,q⟩
def U4:R2:=λx y H Q=>∃z k,x=.str z/\y=.int k/\MulOk z k/\Q (.str (Txt.mul z k)) H
theorem Wd:OpR X (binaryOp .Mult) U4:=by
 intro ge s σ H x y v u Q I rx ry h;clear 5 h z k rfl rfl hk q;clear 5 rx t rfl;clear 5 ry t' rfl;exact SB.mul hk λt2 tk=>⟨.str _,H,I.tok tk,⟨t2,rfl⟩,q⟩
def ZG:V->Option Int->Option Int->Hp->VK->Prop:=λx lo hi H Q=>∃z,x=.str z/\z.length<=sizeLine/\Q (.str (Txt.slice z lo hi)) H
theorem sl_str:SlR X ZG:=by
 intro ge s σ H x v vl vu lo hi sl Q I rx hs pl pu h;clear 5 h z rfl hz q;clear 5 rx t rfl;refine⟨"str",_,PySem.F.slot_str_getitem.lookup,typeIs_str _ _ _,?_⟩;have part:∀{v:gf}{o:Option Int},IsPart v o->∃l:Option (Int×Tok),v=partValue l/\l.map (·.1)=o:=λ{v o} p=>by
  cases p with
  |none=>exact⟨none,rfl,rfl⟩
  |int i t=>exact⟨some (i,t),rfl,rfl⟩
 clear 5(part pl)l rfl el;clear 5(part pu)u rfl eu;refine wpAny_getItem_str_slice (l:=l) (u:=u) (st:=none) (by clear 5 hs o h1 h2 h3;exact⟨o,h1,h2,h3⟩) rfl ?_;unfold sliceMade slicePicked;rw[el,eu];show(if ((1:Int)==1&&(Builtin.Str.strSliceIndices lo hi 1 z.length).length==z.length)=true then Made.val (.str z t) else Made.str ⟨((Builtin.Str.strSliceIndices lo hi 1 z.length).filterMap (z.cps[·]?)).toArray⟩).post _ s;have hle:=Txt.slice_le z lo hi;unfold Txt.slice at q hle
 by_cases hc:((1:Int)==1&&(Builtin.Str.strSliceIndices lo hi 1 z.length).length==z.length)=true
 .rw[kQ hc] at q⊢;exact⟨.str z,H,I,⟨t,rfl⟩,q⟩
 .rw[kS hc] at q hle⊢;exact⟨ul9 hle hz,.str _,H,I.tok _,⟨_,rfl⟩,q⟩
def HH(g:Int->Int->Bool)(h:List Nat->List Nat->Bool):R2:=λx y H Q=>(∃i j,x=.int i/\y=.int j/\Q (.bl (g i j)) H)\/∃i j,x=.str i/\y=.str j/\Q (.bl (h i.cps.toList j.cps.toList)) H
theorem Y7:OpR X (compareOp .Lt) (HH (λi j=>decide (i<j)) λi j=>decide (i<j)):=op_lt.or λge s σ H x y v u Q I rx ry h=>by
 clear 5 h i j rfl rfl q;clear 5 rx t rfl;clear 5 ry t' rfl;exact P.lt_str ⟨.bl _,H,I,rfl,q⟩
theorem RY:OpR X (compareOp .LtE) (HH (λi j=>decide (i<=j)) λi j=>!(decide (j<i))):=op_le.or λge s σ H x y v u Q I rx ry h=>by
 clear 5 h i j rfl rfl q;clear 5 rx t rfl;clear 5 ry t' rfl;exact P.le_str ⟨.bl _,H,I,rfl,q⟩
theorem Y1:OpR X (compareOp .Gt) (HH (λi j=>decide (j<i)) λi j=>decide (j<i)):=op_gt.or λge s σ H x y v u Q I rx ry h=>by
 clear 5 h i j rfl rfl q;clear 5 rx t rfl;clear 5 ry t' rfl;exact P.gt_str ⟨.bl _,H,I,rfl,q⟩
theorem Y0:OpR X (compareOp .GtE) (HH (λi j=>decide (j<=i)) λi j=>!(decide (i<j))):=op_ge.or λge s σ H x y v u Q I rx ry h=>by
 clear 5 h i j rfl rfl q;clear 5 rx t rfl;clear 5 ry t' rfl;exact P.ge_str ⟨.bl _,H,I,rfl,q⟩
end
def DY:D->M (List D)
 |.lst ds=>ret ds
 |.scr ns=>ret (ns.map .int)
 |.tup ds=>ret ds
 |.str x=>ret (x.cps.toList.map λc=>.str ⟨#[c]⟩)
 |.gts xs=>ret (xs.map .str)
 |_=>fail
def Ey(f:M D):M (List D):=bnd f DY
def CH:D->D->M D
 |.str x,.int k=>λt=>if CZ k=true/\x.length*k.toNat<=LIM/\k<=LIM/\x.length<=LIM then some (.str (Txt.mul x k),t) else none
 |x,y=>TU x y
def Gv:D->Option Int->Option Int->M D
 |.str x,lo,hi=>lim x.length (.str (Txt.slice x lo hi))
 |.tup ds,lo,hi=>ret (.tup (B3 ds lo hi))
 |x,lo,hi=>slD x lo hi
def M2(g:Int->Int->Bool)(h:List Nat->List Nat->Bool):D->D->M D
 |.int i,.int j=>ret (.bl (g i j))
 |.str x,.str y=>ret (.bl (h x.cps.toList y.cps.toList))
 |_,_=>fail
def ltA:=M2 (λi j=>decide (i<j)) (λi j=>decide (i<j))
def leA:=M2 (λi j=>decide (i<=j)) (λi j=>!(decide (j<i)))
def gtA:=M2 (λi j=>decide (j<i)) (λi j=>decide (j<i))
def geA:=M2 (λi j=>decide (j<=i)) (λi j=>!(decide (i<j)))
def unS(n:Nat)(g:List D->M Unit):D->M Unit
 |.tup ds=>if ds.length=n then g ds else fail
 |.lst ds=>if ds.length=n then g ds else fail
 |_=>fail
def cO:M D:=fC .dic
section
variable{μ:Cf->Hp->D->(V->Hp->Prop)->Prop}{tg:Expr}{K:gd}{n:Nat}{g:List D->M Unit}{es:List Expr}
section
variable{X:Cx}{e a b:Expr}{pos:Pos}{st:Stmt}
theorem OD:PS X st (RSg X.K μ fail):=λge s σ H E I ⟨Oo,c,t,fi,o,t',eq,k⟩=>by cases eq
theorem ItOk.str{K:gd}{c:Cf}{H:Hp}{x:Str}:ItOk K (Its x) c H (x.cps.toList.map λc=>.str ⟨#[c]⟩):=by
 refine⟨λc' H' i ex hi=>?_,λc' H' i y H'' d ex hd hy=>?_,λc' H' ex=>?_⟩
 .show i<x.cps.size;simpa using hi
 .clear 5 hy rfl n hn rfl;refine⟨rfl,?_⟩;have:d=.str ⟨#[n]⟩:=by
   rw[uf6] at hd;have hn':x.cps.toList[i]?=some n:=by simpa using hn
   rw[hn'] at hd;simpa using hd.symm
  rw[this];exact .str _
 .show _=x.cps.size;simp
theorem Yl{f:M D}(h:PE X e (RE X.K f)):PI X tg e (RI X.K (Ey f)):=
 MB (Zo h) λσ H R z9=>by
  clear 5 z9 Oo c t fi ds t' eq k;clear 5(Ai eq)d t1 e1 eq;refine⟨Oo,c,t,fi,d,t1,e1,λv H1 c1 f1 s1 rv=>?_⟩
  cases rv with
  |@lst p vs ds' h1 h2 h3=>
    cases eq
    exact .inl ⟨p,rfl,⟨vs,SqL.of h1⟩,k _ H1 c1 f1 s1 (ItOk.lst λc' H' ex=>⟨vs,SqL.of (ex.keep _ _ h1 h2),h3.mono ex⟩)⟩
  |@scr p ns h1=>
    cases eq
    exact .inl ⟨p,rfl,⟨_,h1.sq⟩,k _ H1 c1 f1 s1 (ItOk.lst λc' H' ex=>⟨_,(h1.mono ex).sq,Reps.ints ns⟩)⟩
  |@tup p vs ds' h1 h2 h3=>
    cases eq
    exact .inr (.inl ⟨p,rfl,⟨vs,SqT.of h1⟩,k _ H1 c1 f1 s1 (ItOk.tup λc' H' ex=>⟨vs,SqT.of (ex.keep _ _ h1 h2),h3.mono ex⟩)⟩)
  |str x=>
    cases eq
    exact .inr (.inr ⟨x,rfl,k _ H1 c1 f1 s1 ItOk.str⟩)
  |@gts p xs hk=>
    cases eq
    exact .inr (.inl ⟨p,rfl,⟨_,.inr hk⟩,k _ H1 c1 f1 s1 (ItOk.tup λc' H' ex=>⟨_,.inr hk,Reps.strs xs⟩)⟩)
  |_=>cases eq
theorem RG.un{v:V}{σ:L2.St}{H:Hp}{Q:L2.St->Hp->Prop}(q:RG K (unS n g) v σ H Q):gUn K n (RGs K g) v σ H Q:=by
 clear 5 q Oo c t d fi rv t' eq k
 cases rv with
 |@tup a vs ds h1 h2 h3=>
   unfold unS at eq
   by_cases hn:ds.length=n
   .dsimp only at eq;rw[kQ hn] at eq;exact⟨a,vs,rfl,.inl (SqT.of h1),by rw[h3.length];exact hn,Oo,c,t,ds,fi,h3,t',eq,k⟩
   .dsimp only at eq;rw[kS hn] at eq;cases eq
 |@lst a vs ds h1 h2 h3=>
   unfold unS at eq
   by_cases hn:ds.length=n
   .dsimp only at eq;rw[kQ hn] at eq;exact⟨a,vs,rfl,.inr (SqL.of h1),by rw[h3.length];exact hn,Oo,c,t,ds,fi,h3,t',eq,k⟩
   .dsimp only at eq;rw[kS hn] at eq;cases eq
 |_=>cases eq
theorem aI{k:Nat}(hc:X.calm=true)(h:PGs X es (RGs X.K g))(hn:(assignEach es X.env).length=n:=by rfl)(hst:(assignEach es X.env).findIdx? (·.1)=none:=by rfl):PG X (.Tuple es k pos) (RG X.K (unS n g)):=
 MA (aZ hc h hn hst) λ_ _ _ _ q=>RG.un q
theorem Tm{f:D->M Unit}(h1:PG X e (RG X.K f))(h2:PGs X es (RGs X.K g))(hs:(assignEach (e::es) X.env).map (·.2)=assign e X.env::(assignEach es X.env).map (·.2):=by rfl):PGs X (e::es) (RGs X.K (A8 f g)):=
 Om (T6 h1 h2 hs) λ_ _ _ _ q=>RGs.cons q
end
section
variable{K:gd}
def U3(K:gd):R2:=λx y H Q=>P9 K x y H Q\/U4 x y H Q
theorem Wc{X:Cx}:OpR X (binaryOp .Mult) (U3 X.K):=op_mul3.or Wd
theorem Of{x:Str}{k:Int}(h:CZ k=true/\x.length*k.toNat<=LIM/\k<=LIM/\x.length<=LIM):MulOk x k:=by
 clear 5(GI h.1)g1 g2;have hL:LIM=100000:=rfl;refine⟨?_,λh1 _=>?_,λh1 _=>?_⟩
 .rw[Bool.or_eq_false_iff];exact⟨uj8 (by lia),uj8 (by lia)⟩
 .have h2:k<=100000:=by have:=h.2.2.1;rw[hL] at this;exact this
  have h3:x.length<=100000:=by have:=h.2.2.2;rw[hL] at this;exact this
  have h4:(92233720368547:Int)<=(2 ^ 63-1)/k:=by
   rw[Int.le_ediv_iff_mul_le (by lia)];lia
  lia
 .have h5:=h.2.1;rw[hL] at h5;unfold Builtin.Str.tooLong
  first|exact uj8 (by unfold sizeLine;lia)|(unfold sizeLine;exact uj8 (by lia))
theorem Um:BG K (U3 K) CH:=λ{Oo c t σ H x y dx dy r t' Q} f rx ry eq k=>by
 unfold CH at eq
 split at eq
 .next z kk=>
  split at eq
  .next h=>
   cases eq
   cases rx
   cases ry
   exact .inr ⟨z,kk,rfl,rfl,Of h,k _ H c f .refl (.str _)⟩
  .cases eq
 .exact .inl (W3 f rx ry eq k)
def Uh(K:gd):V->Option Int->Option Int->Hp->VK->Prop:=λx lo hi H Q=>Ug K x lo hi H Q\/(ZG x lo hi H Q\/ZI K x lo hi H Q)
theorem sl3{X:Cx}:SlR X (Uh X.K):=sl2.or (sl_str.or Xa)
theorem Pt{α:Type}{xs:List α}{lo hi:Option Int}(h:HT.sIx xs.length 0 lo=0/\HT.sIx xs.length xs.length hi=xs.length):B3 xs lo hi=xs:=by
 unfold B3;rw[h.1,h.2];simp
theorem O3:Pj K (Uh K) Gv:=λ{Oo c t σ H x dx r lo hi t' Q} f rx eq k=>by
 unfold Gv at eq
 split at eq
 .next z=>
  clear 5(Ez eq)h e
  cases e
  cases rx
  exact .inr (.inl ⟨z,rfl,ul9 h DR,k _ H c f .refl (.str _)⟩)
 .next ds=>
  cases eq
  cases rx with
  |@tup p vs ds h1 h2 h3=>
    by_cases hw:HT.sIx ds.length 0 lo=0/\HT.sIx ds.length ds.length hi=ds.length
    .rw[Pt hw] at k;exact .inr (.inr ⟨p,vs,rfl,SqT.of h1,by rw[h3.length];exact hw,k _ H c f .refl (.tup h1 h2 h3)⟩)
    .exact .inl (.inr ⟨p,vs,rfl,SqT.of h1,by rw[h3.length];exact hw,λq hq=>k _ _ c (f.laid hq) (f.stp_laid hq) (.tup Bf (f.s.free hq) ((Fq h3 lo hi).mono (Ext.laid f.s hq)))⟩)
 .exact .inl (ZR f rx eq k)
theorem Jr{g:Int->Int->Bool}{h:List Nat->List Nat->Bool}:BG K (HH g h) (M2 g h):=λ{Oo c t σ H x y dx dy r t' Q} f rx ry eq k=>by
 cases rx with
 |int i=>cases ry with
   |int j=>cases eq;exact .inl ⟨i,j,rfl,rfl,k _ H c f .refl (.bl _)⟩
   |_=>cases eq
 |str i=>cases ry with
   |str j=>cases eq;exact .inr ⟨i,j,rfl,rfl,k _ H c f .refl (.bl _)⟩
   |_=>cases eq
 |_=>cases eq
theorem WX:BG K (HH (λi j=>decide (i<j)) λi j=>decide (i<j)) ltA:=Jr
theorem O2:BG K (HH (λi j=>decide (i<=j)) λi j=>!(decide (j<i))) leA:=Jr
theorem WR:BG K (HH (λi j=>decide (j<i)) λi j=>decide (j<i)) gtA:=Jr
theorem WQ:BG K (HH (λi j=>decide (j<=i)) λi j=>!(decide (i<j))) geA:=Jr
end
variable{fa:gg}{fd:gk}
theorem Yn{P:gi}{w:gj}{mg:Str->Option gf}{base:Heap}{x qual:Str}{st:Stmt}{N ps:List Str}{k m:Nat}{g:M Out}(e1:ps.length=n)(e2:N.length=m)(F:Fun K x qual st fa fd)(S:FnScope N ps (AR st))
 (hb:∀(cdv:gf) (A:Around) (outer:List Env) (s:gh) (H:Hp) (E:XK),Room k (A.deeper (PyProof.Rows.envOfC qual (AR st) s.heap.objs.size fa cdv))->
   PSs (Fc CX0 P w K mg base N qual (AR st) fa cdv A outer s H E).nox (Dd st) (RS K g)):FnOk P w K mg base CX0 (k+1) fa fd ps (spF K (fnOf n m g)):=by
 subst e1 e2;exact aL F S hb
theorem ZK{P:gi}{w:gj}{mg:Str->Option gf}{base:Heap}{ps:List Str}{k:Nat}{f g:Fn}(e:f=g)(h:FnOk P w K mg base CX0 k fa fd ps (spF K g)):FnOk P w K mg base CX0 k fa fd ps (spF K f):=by rw[e];exact h
theorem XG:bootBuiltins "len" = some (.builtin "len"):=by decide +kernel
theorem Me:bootBuiltins "isinstance" = some (.builtin "isinstance"):=by decide +kernel
theorem XJ:bootBuiltins "ord" = some (.builtin "ord"):=by decide +kernel
theorem XI:bootBuiltins "min" = some (.builtin "min"):=by decide +kernel
theorem XH:bootBuiltins "max" = some (.builtin "max"):=by decide +kernel
theorem QD:bootBuiltins "int" = some (.type "int"):=by decide +kernel
theorem XL:bootBuiltins "str" = some (.type "str"):=by decide +kernel
theorem Vk:bootBuiltins "bool" = some (.type "bool"):=by decide +kernel
theorem Oq:bootBuiltins "list" = some (.type "list"):=by decide +kernel
theorem ST:bootBuiltins "tuple" = some (.type "tuple"):=by decide +kernel
noncomputable def Bu:Expr->Bool
 |.Starred _ _=>true
 |_=>false
theorem BF{e:Expr}{env:Env}(h:Bu e=false):starEach (e::es) env=(false,eval e env)::starEach es env:=by
 cases e<;>first|rfl|cases h
def Bw(es:List Expr):Bool:=es.all λe=>!Bu e
theorem Bm:∀{es:List Expr}{env:Env}{p:Pos},Bw es=true->(backTo p (starEach es env)).any (·.1)=false/\(backTo p (starEach es env)).all (λx=>!x.1)=true
 |[],env,p,_=>⟨rfl,rfl⟩
 |e::es,env,p,h=>by
   have h':Bu e=false/\Bw es=true:=by
    rw[Bw,uk8,uh0] at h;exact⟨by simpa using h.1,h.2⟩
   clear 5(Bm (es:=es) (env:=env) (p:=p) h'.2)h1 h2;rw[BF h'.1];refine⟨?_,?_⟩
   .show(false||(backTo p (starEach es env)).any (·.1))=false;rw[h1];rfl
   .show(!false&&(backTo p (starEach es env)).all (λx=>!x.1))=true;rw[h2];rfl
variable{f:M (List D)}{p:Pos}{id:String}{R:List V->Hp->VK->Prop}
section
variable{X:Cx}{e a b:Expr}{es:List Expr}{pos:Pos}
theorem Tc{f:M D}{g:M (List D)}(ha:PE X e (RE X.K f))(hr:PA X es (RA X.K g))(hs:Bu e=false:=by rfl):PA X (e::es) (RA X.K (Ab f g)):=Vs ha hr (BF hs)
theorem Te{k:Nat}{ps:List Str}{g:Fn}{x:Str}(F:FnOk X.prog X.w X.K X.mg X.base CX0 k fa fd ps (spF X.K g))(hr:Room k X.A)(hg:Gl X x)(hm:X.mg x=some (.ref fa))(hk:PySem.W.keepIn X.K (.ref fa)=true)(hb:Binds X.K fd ps [])
 (ha:PA X (e::es) (RA X.K f)) (hdb:(x==("__debug__":Str))=false:=by decide) (h1:Bu e=false:=by rfl) (h2:Bw es=true:=by rfl) :
 PE X (.Call (.Name x p) (e::es) [] pos) (RE X.K (Am g f)):=Vu F hr hg hm hk hb ha hdb (BF h1) (Bm h2).1
theorem Ko{h:List D->M D}{x:Str}(hc:C9 X (.builtin id) R)(s:F5 X.K R h)(hg:Gl X x)(hm:X.mg x=none)(hv:bootBuiltins x=some (.builtin id))(ha:PA X (e::es) (RA X.K f))(hn:x≠"__name__":=by decide)(hdb:(x==("__debug__":Str))=false:=by decide)
 (h1:Bu e=false:=by rfl) (h2:Bw es=true:=by rfl):PE X (.Call (.Name x p) (e::es) [] pos) (RE X.K (fB f h)):=cQ hc s hg hm hv ha hn hdb (BF h1) (Bm h2).1
theorem aD{h:List D->M D}{x:Str}(hc:C9 X (.type id) R)(s:F5 X.K R h)(hg:Gl X x)(hm:X.mg x=none)(hv:bootBuiltins x=some (.type id))(ha:PA X (e::es) (RA X.K f))(hn:x≠"__name__":=by decide)(hdb:(x==("__debug__":Str))=false:=by decide)
 (h1:Bu e=false:=by rfl) (h2:Bw es=true:=by rfl):PE X (.Call (.Name x p) (e::es) [] pos) (RE X.K (fB f h)):=cR hc s hg hm hv ha hn hdb (BF h1) (Bm h2).1
theorem aG{h:List D->M (List D)}{x:Str}(hc:C9 X (.type id) R)(s:Mm X.K R h)(hg:Gl X x)(hm:X.mg x=none)(hv:bootBuiltins x=some (.type id))(ha:PA X (e::es) (RA X.K f))(hn:x≠"__name__":=by decide)(hdb:(x==("__debug__":Str))=false:=by decide)
 (h1:Bu e=false:=by rfl) (h2:Bw es=true:=by rfl):PE X (.Call (.Name x p) (e::es) [] pos) (RF X.K (fBF f h)):=cS hc s hg hm hv ha hn hdb (BF h1) (Bm h2).1
theorem Pw(hg:Gl X "range")(hm:X.mg "range" = none)(ha:PA X [a] (RA X.K f))(h1:Bu a=false:=by rfl):PI X tg (.Call (.Name "range" p) [a] [] pos) (RI X.K (Da f)):=QV hg hm ha (BF h1)
theorem Px(hg:Gl X "range")(hm:X.mg "range" = none)(ha:PA X [a,b] (RA X.K f))(h1:Bu a=false:=by rfl)(h2:Bu b=false:=by rfl):PI X tg (.Call (.Name "range" p) [a,b] [] pos) (RI X.K (GC f)):=
 QW hg hm ha (by rw[BF h1,BF h2];rfl) (BF h2)
theorem QT{cpos:Pos}(h1:Bu e=false)(h2:Bw es=true)(h3:es.length<20):((backTo cpos (starEach (e::es) X.env)).all (λx=>!x.1)&&(backToKw cpos (keywordEach [] X.env)).all (λx=>x.1.isSome)&&decide ((e::es).length+([]:List Keyword).length+(if ([]:List Keyword).isEmpty then 0 else 1)<30))=true:=by
 rw[(Bm (es:=e::es) (env:=X.env) (p:=cpos) (by rw[Bw,uk8,h1];exact h2)).2];show(true&&true&&decide (es.length+1+0+0<30))=true;simp;lia
theorem PB(i:Nat){x:Str}{g:M (List D)}{px apos cpos:Pos}(ha:PA X (e::es) (RA X.K g))(hN:X.N[i]?=some x:=by rfl)(hv:Vis X.env.scope x:=by walk_at"h")(hd:(x==("__debug__":Str))=false:=by decide)
 (hcd:(x==("__classdict__":Str))=false:=by decide) (hline:(apos.endLine==cpos.line)=true:=by rfl) (h1:Bu e=false:=by rfl) (h2:Bw es=true:=by rfl) (h3:es.length<20:=by decide) :
 PS X (.Expr (.Call (.Attribute (.Name x px) "append" apos) (e::es) [] cpos) pos) (RSg X.K μ (ownM i Do g)):=QX i ha hN hv hd hcd rfl (QT h1 h2 h3) hline (BF h1) (Bm h2).1
theorem PC(i:Nat){x:Str}{g:M (List D)}{px apos cpos:Pos}(ha:PA X (e::es) (RA X.K g))(hN:X.N[i]?=some x:=by rfl)(hv:Vis X.env.scope x:=by walk_at"h")(hd:(x==("__debug__":Str))=false:=by decide)
 (hcd:(x==("__classdict__":Str))=false:=by decide) (hline:(apos.endLine==cpos.line)=true:=by rfl) (h1:Bu e=false:=by rfl) (h2:Bw es=true:=by rfl) (h3:es.length<20:=by decide) :
 PS X (.Expr (.Call (.Attribute (.Name x px) "extend" apos) (e::es) [] cpos) pos) (RSg X.K μ (ownM i Eg g)):=QY i ha hN hv hd hcd rfl (QT h1 h2 h3) hline (BF h1) (Bm h2).1
end
end
end L2
namespace HT
open PySem PySem.Spec L2 PyProof.Rows
section
variable{prog:gi}{w:gj}{A:Around}{E:gf->gh->Prop}{s:gh}
end
end HT
namespace L2
open PySem PySem.Spec PyProof.Rows
section
variable{X:Cx}{e ek:Expr}{p2 pos:Pos}{te:TE}{tk:TO}
end
section
variable{X:Cx}
end
section
variable{X:Cx}
end
section
variable{X:Cx}
end
section
variable{X:Cx}{K:gd}
end
def R8:R2:=λx y H Q=>∃a kvs k v,x=.ref a/\y=.str k/\H a=some (.dK kvs)/\Em kvs (Sum.inr k:Key)=some v/\Q v H
def Zz:V->V->V->Hp->(Hp->Prop)->Prop:=λo i v H Q=>∃a kvs k,o=.ref a/\i=.str k/\H a=some (.dK kvs)/\kvs.length<sizeLine/\Q (upd H a (.dK (Ej kvs (Sum.inr k:Key) v)))
section
variable{X:Cx}
theorem YB:IxR X R8:=by
 intro value slice ge s σ H x y v u Q I rx ry h hs;clear 5 h a kvs k z rfl rfl e l q
 cases rx
 obtain⟨_,_,vs,rel,dd⟩:=Mp I.hok e;have g:DGet H a (kV (Sum.inr k:Key)) (some z):=by rw[<-l];exact DGet.k e
 have hT:=dd.typeIs;unfold subscriptTail;refine un2 ?_;rw[getitemInPython_of_ne hT.not_modules];refine un2 (wpAny_specialOf hT PySem.F.slot_dict_getitem.lookup ?_);have get:wpAny (model X.prog X.w) X.A (getItem (.ref a) u) (EP X ge σ Q) X.xe s:=by
  clear 5(RelO.some_of (v:=z) (o:=valueAt vs (Sum.inr k:Key)) (by rw[<-l];exact rel.val _))w' hw rw';exact wpAny_getItem_of (Kz (k:=(Sum.inr k:Key)) ry) dd.mapOf hw ⟨z,H,I.tok _,rw',q⟩
 have fin:wpAny (model X.prog X.w) X.A (subscripted slice false (.ref a) u) (λr s₃=>wpAny (model X.prog X.w) X.A (letTemporaryGo value (.ref a) r >>= λ_=>pure r) (EP X ge σ Q) X.xe s₃) X.xe s:=by
  rw[hs];exact wpAny_operating (un4 get (λr s₃ h₃=>un2 (wpAny_letTemporaryGo (un3 h₃))) λ_ _ x=>x)
 first
  |exact un3 (un2 fin)
  |exact un2 (un3 (un2 fin))
  |exact un2 fin
theorem W8:Xx X Zz:=by
 intro ge s σ H o i v ov iv u Q I ro ri rv h;clear 5 h a kvs k rfl rfl e l q
 cases ro
 clear 5(Mp I.hok e)z hd vs rel dd;have hz:vs.length<=sizeLine:=by rw[<-rel.length];exact z
 have hl:(Ej kvs (Sum.inr k:Key) v).length<=sizeLine:=by have:=JA kvs (Sum.inr k:Key) v;lia
 refine wpAny_setItem_pairs (hsz:=hz) (Kz (k:=(Sum.inr k:Key)) ri) dd λh' dd' hs=>⟨_,?_,q⟩;have he:∃q,h'.get? a=some q:=let ⟨q,_,_,hq,_⟩:=dd';⟨q,hq⟩;exact Ou I (by rw[e];exact True.intro) hs he (M5 hl hd (rel.put _ rv) dd')
end
noncomputable def Ba(kvs:List (Key×D))(k:Key):Option D:=(kvs.find? λkv=>decide (kv.1=k)).map (·.2)
noncomputable def BJ(kvs:List (Key×D))(k:Key)(d:D):List (Key×D):=
 if (kvs.any λkv=>decide (kv.1=k))=true then kvs.map (λkv=>if kv.1=k then(kv.1,d) else kv) else kvs++[(k,d)]
def Bh:D->D->M D
 |.obj n,.str x=>λt=>match t.S[n]? with
   |some (.dct kvs)=>(Ba kvs (.inr x)).map λd=>(d,t)
   |_=>none
 |_,_=>fail
def Hg:D->D->D->M Unit
 |.obj n,.str x,d=>λt=>match t.S[n]? with
   |some (.dct kvs)=>if kvs.length<LIM then some ((),{t with S:=t.S.set n (.dct (BJ kvs (.inr x) d))}) else none
   |_=>none
 |_,_,_=>fail
def GJ(f g:M D)(d:D):M Unit:=bnd f λo=>bnd g λi=>Hg o i d
def Ep:List (Str×M D)->M (List (Key×D))
 |[]=>ret []
 |(k,f)::r=>bnd f λd=>bnd (Ep r) λps=>ret ((.inr k,d)::ps)
def Bc(ps:List (Key×D)):List (Key×D):=ps.foldl (λacc kv=>BJ acc kv.1 kv.2) []
def F0(n:Nat)(ps:List (Key×D)):M D:=λt=>match t.S[n]? with
 |some (.dct [])=>if ps.length<=15 then some (.obj n,{t with S:=t.S.set n (.dct (Bc ps))}) else none
 |_=>none
def EU(l:List (Str×M D)):M D:=λt=>bnd (Ep l) (F0 t.S.length) {t with S:=t.S++[.dct []]}
section
variable{K:gd}{c:Cf}{H:Hp}
theorem KVR.get{us:List (Key×V)}{kvs:List (Key×D)}(r:KVR K c H us kvs)(k:Key){d:D}(e:Ba kvs k=some d):∃v,Em us k=some v/\Rep K c H v d:=by
 unfold KVR at r
 induction r with
 |nil=>simp[Ba] at e
 |@cons p q ps qs h t ih=>
   by_cases hk:p.1=k
   .have hq:q.1=k:=h.1.symm.trans hk;have:Ba (q::qs) k=some q.2:=by simp[Ba,uj0,hq]
    rw[this] at e;cases e
    exact⟨p.2,HM hk,h.2⟩
   .have hq:¬q.1=k:=λz=>hk (h.1.trans z);have:Ba (q::qs) k=Ba qs k:=by simp[Ba,uj0,hq]
    rw[this] at e;rw[HL hk];exact ih e
theorem KVR.any{us:List (Key×V)}{kvs:List (Key×D)}(r:KVR K c H us kvs)(k:Key):(us.any λkv=>decide (kv.1=k))=(kvs.any λkv=>decide (kv.1=k)):=by
 unfold KVR at r
 induction r with
 |nil=>rfl
 |@cons p q ps qs h t ih=>rw[uk9,uk9,ih,h.1]
theorem KVR.put{us:List (Key×V)}{kvs:List (Key×D)}(r:KVR K c H us kvs)(k:Key){v:V}{d:D}(rv:Rep K c H v d):KVR K c H (Ej us k v) (BJ kvs k d):=by
 unfold Ej BJ;rw[r.any k]
 by_cases q:(kvs.any λkv=>decide (kv.1=k))=true
 .rw[kQ q,kQ q];clear q;unfold KVR at r⊢
  induction r with
  |nil=>exact .nil
  |@cons p q ps qs h t ih=>
    rw[uk6,uk6];refine .cons ?_ ih
    by_cases e:p.1=k
    .rw[kQ e,kQ (h.1.symm.trans e)];exact⟨h.1,rv⟩
    .rw[kS e,kS (λz=>e (h.1.trans z))];exact h
 .rw[kS q,kS q];exact Paired.snoc r ⟨rfl,rv⟩
theorem KVR.length{us:List (Key×V)}{kvs:List (Key×D)}(r:KVR K c H us kvs):us.length=kvs.length:=Paired.length r
theorem KVR.mono{c':Cf}{H':Hp}{us:List (Key×V)}{kvs:List (Key×D)}(e:Ext c H c' H')(r:KVR K c H us kvs):KVR K c' H' us kvs:=Paired.mapP r λ_ _ z=>⟨z.1,z.2.mono e⟩
theorem KVR.merge:∀{ps:List (Key×D)}{us:List (Key×V)}{acc:List (Key×D)}{ua:List (Key×V)},KVR K c H us ps->KVR K c H ua acc->KVR K c H (Gq ua us) (ps.foldl (λacc kv=>BJ acc kv.1 kv.2) acc):=by
 intro ps us acc ua r;unfold KVR at r
 induction r generalizing acc ua with
 |nil=>intro q;exact q
 |@cons p q ps qs h t ih=>
   intro r0;refine ih ?_;show KVR K c H (Ej ua p.1 p.2) (BJ acc q.1 q.2);have:=KVR.put r0 p.1 h.2;rw[<-h.1];exact this
theorem Sg:BG K R8 Bh:=λ{Oo c t σ H x y dx dy r t' Q} f rx ry eq k=>by
 unfold Bh at eq
 split at eq
 .next n z=>
  cases ry
  cases rx with
  |@obj a kk hk=>
    split at eq
    .next kvs es=>
     clear 5(uc1.mp eq)d e1 e2
     cases e2
     clear 5(f.s.obs _ a _ hk es)us g1 g2;clear 5(g2.get _ e1)v e3 e4;exact⟨a,us,z,v,rfl,rfl,g1,e3,k _ H c f .refl e4⟩
    .cases eq
 .cases eq
end
section
variable{X:Cx}{pos:Pos}{e:Expr}
theorem QU{o i:Expr}{f g:M D}(ho:PE X o (RE X.K f))(hi:PE X i (RE X.K g))
 (ha:∀v,assign (.Subscript o i pos) X.env v=(do
   let ov <-holding [v] (eval o X.env)
   let iv <-holding [v,ov] (eval i X.env)
   standAt pos
   holding [v,ov,iv] (setItem ov iv v)
   release [v,ov,iv] []):=by intro _;rfl):PG X (.Subscript o i pos) (RG X.K (GJ f g)):=
 MA (Zm ho hi W8 ha) λv σ H Q z9=>by
  clear 5 z9 Oo c t d fi rv t' eq k;clear 5(Ai eq)d0 t1 e1 eq;clear 5(Ai eq)di t2 e2 eq;refine⟨Oo,c,t,fi,_,t1,e1,λx H1 c1 f1 s1 rx=>⟨Oo,c1,t1,f1,di,t2,e2,λy H2 c2 f2 s2 ry=>?_⟩⟩;unfold Hg at eq
  split at eq
  .next n z dd=>
   cases ry
   cases rx with
   |@obj a kk hk=>
     split at eq
     .next kvs es=>
      split at eq
      .next hl=>
       cases eq
       have hk2:=s2.ext.io _ _ hk;clear 5(f2.s.obs _ a _ hk2 es)us g1 g2;refine⟨a,us,z,rfl,rfl,g1,by rw[g2.length];exact Nat.lt_trans hl Xu,?_⟩;have rv2:=rv.mono (s1.trans s2).ext;obtain⟨f3,s3⟩:=f2.wrObj (o:=.dct (BJ kvs (.inr z) d)) (u:=.dK (Ej us (.inr z) v)) hk2 λc' H' ext hu=>⟨_,hu,(g2.put _ rv2).mono ext⟩;exact k σ _ c2 f3 ((s1.trans s2).trans s3)
      .cases eq
     .cases eq
  .cases eq
def RP(K:gd)(f:M (List (Key×D)))(σ:St)(H:Hp)(Q:List (V×V)->Hp->Prop):Prop:=
 ∃Oo c t,FInv K Oo c t σ H/\∃ps t',f t=some (ps,t')/\∀us H' c',FInv K Oo c' t' σ H'->Stp Oo c H c' H'->KVR K c' H' us ps->Q (us.map λkv=>(kV kv.1,kv.2)) H'
def PPf(X:Cx)(pos:Pos)(keys:List (Option Expr))(values:List Expr)(f:M (List (Key×D))):Prop:=
 ∃trs,PPs X pos keys values trs/\∀σ H Q,RP X.K f σ H Q->KP trs σ H Q
theorem VI:PPf X pos [] [] (Ep []):=⟨[],Wv,λσ H Q z9=>by
 clear 5 z9 Oo c t fi ps t' eq k
 cases eq
 exact k [] H c fi .refl .nil⟩
theorem Tp{k:Str}{j:Nat}{kp:Pos}{v:Expr}{ks:List (Option Expr)}{vs:List Expr}{f:M D}{r:List (Str×M D)}(hv:PE X v (RE X.K f))(hr:PPf X pos ks vs (Ep r)) :
 PPf X pos (some (.Constant (.str k) j kp)::ks) (v::vs) (Ep ((k,f)::r)):=by
 clear 5 hr trs h1 h2;refine⟨_,T9 R0 hv h1,λσ H Q z9=>?_⟩;clear 5 z9 Oo c t fi ps t' eq kk;clear 5(Ai eq)d t1 e1 eq;clear 5(Ai eq)qs t2 e2 eq
 cases eq
 refine⟨Oo,c,t,fi,d,t1,e1,λy H1 c1 f1 s1 ry=>?_⟩;refine h2 σ H1 _ ⟨Oo,c1,t1,f1,qs,_,e2,λus H2 c2 f2 s2 ru=>?_⟩;exact kk ((.inr k,y)::us) H2 c2 f2 (s1.trans s2) (.cons ⟨rfl,ry.mono s2.ext⟩ ru)
theorem Vv{keys:List (Option Expr)}{values:List Expr}{l:List (Str×M D)}(h:PPf X pos keys values (Ep l))(hall:keys.all (·.isSome)=true:=by rfl)(hl:keys.length=values.length:=by rfl)(h0:keys≠[]:=by exact List.cons_ne_nil _ _)
 (h15:keys.length<=15:=by exact ii rfl):PE X (.Dict keys values pos) (RE X.K (EU l)):=by
 clear 5 h trs h1 h2;refine A4 (Wk h1 hall hl h0 h15) λσ H Q z9=>?_;clear 5 z9 Oo c t fi r t' eq k;intro p hp;obtain⟨c1,f1,s1,e1⟩:=fi.newObj (o:=.dct []) (u:=.dK []) hp λc' H' ex hu=>⟨[],hu,.nil⟩;clear 5(Ai eq)ps t2 e2 eq;refine h2 σ _ _ ⟨Oo,c1,_,f1,ps,t2,e2,λus H2 c2 f2 s2 ru=>?_⟩;unfold F0 at eq
 split at eq
 .next es=>
  split at eq
  .next hl15=>
   cases eq
   have hk2:=s2.ext.io _ _ e1;clear 5(f2.s.obs _ p _ hk2 es)u0 g1 g2
   cases g2
   refine⟨g1,us,rfl,by rw[ru.length];exact hl15,?_⟩;obtain⟨f3,s3⟩:=f2.wrObj (o:=.dct (Bc ps)) (u:=.dK (Gq [] us)) hk2 λc' H' ext hu=>⟨_,hu,(KVR.merge ru .nil).mono ext⟩;exact k _ _ c2 f3 (s1.trans (s2.trans s3)) (.obj hk2)
  .cases eq
 .cases eq
end
section
variable{X:Cx}
end
section
variable{X:Cx}{pos:Pos}{e:Expr}{es:List Expr}
end
section
variable{prog:gi}{w:gj}{A:Around}{I:gg}{fp wr:List gg}{G:Array GenState->Array GenState->Prop}{n:Nat}{P:Nat->gf->Prop}{St:Nat->gh->Prop}
end
section
variable{X:Cx}
end
section
variable{X:Cx}{pos:Pos}{e:Expr}
end
noncomputable def DK(f:M Bool)(b:M Out):Nat->M Out
 |0=>λ_=>none
 |n+1=>λt=>match f t with
   |none=>none
   |some (false,t1)=>some (.next,t1)
   |some (true,t1)=>match b t1 with
     |some (.next,t2)=>DK f b n t2
     |some (.cont,t2)=>DK f b n t2
     |some (.brk,t2)=>some (.next,t2)
     |some (.ret x,t2)=>some (.ret x,t2)
     |none=>none
def Ka:Nat:=1000000
def KY(f:M Bool)(b:M Out):M Out:=DK f b Ka
theorem RS.while{μ:Cf->Hp->D->(V->Hp->Prop)->Prop}{K:gd}{f:M Bool}{b:M Out}{E:Ends}{σ:L2.St}{H:Hp}(q:RSg K μ (KY f b) E σ H):Sx (RT K f) (RSg K μ b) E σ H:=by
 clear 5 q Oo c t fi o t' eq k;refine⟨λm σ' H'=>∃c' t2,FInv K Oo c' t2 σ' H'/\Stp Oo c H c' H'/\DK f b m t2=some (o,t'),⟨Ka,c,t,fi,.refl,eq⟩,?_⟩;rintro m σ' H' ⟨c',t2,f2,s2,e2⟩
 cases m with
 |zero=>cases e2
 |succ m=>
 rw[DK] at e2;dsimp only at e2
 cases ef:f t2 with
 |none=>rw[ef] at e2;cases e2
 |some p=>
 clear 5 p r t3;rw[ef] at e2;refine⟨Oo,c',t2,f2,r,t3,ef,λH3 c3 f3 s3=>?_⟩
 cases r with
 |false=>
   cases e2
   exact k σ' H3 c3 f3 (s2.trans s3)
 |true=>
   rw[kQ rfl];dsimp only at e2;refine⟨λσ4 H4=>∃c4 t4,FInv K Oo c4 t4 σ4 H4/\Stp Oo c H c4 H4/\DK f b m t4=some (o,t'),λσ4 H4 h=>⟨m,ug7 m,h⟩,?_⟩
   cases eb:b t3 with
   |none=>rw[eb] at e2;cases e2
   |some p=>
   clear 5 p ob t4;rw[eb] at e2;refine⟨Oo,c3,t3,f3,ob,t4,eb,λσ4 H4 c4 f4 s4=>?_⟩
   cases ob with
   |next=>exact⟨c4,t4,f4,(s2.trans s3).trans s4,e2⟩
   |cont=>exact⟨c4,t4,f4,(s2.trans s3).trans s4,e2⟩
   |brk=>
     cases e2
     exact k σ4 H4 c4 f4 ((s2.trans s3).trans s4)
   |ret x=>
     cases e2
     exact k σ4 H4 c4 f4 ((s2.trans s3).trans s4)
section
variable{X:Cx}{pos:Pos}
theorem Tr{μ:Cf->Hp->D->(V->Hp->Prop)->Prop}{e:Expr}{body:List Stmt}{f:M Bool}{b:M Out}(hp:PassesOwn (model X.prog X.w) X.A X.env X.xe)(hc:PT X e (RT X.K f))(hb:PSs X body (RSg X.K μ b)):PS X (.While e body [] pos) (RSg X.K μ (KY f b)):=
 Bt (Uc hp hc hb) λ_ _ _ q=>RS.while q
end
section
variable{X:Cx}{tg:Expr}
end
section
variable{X:Cx}{pos:Pos}{e:Expr}{es:List Expr}
end
noncomputable def Fl(H:Hp)(a:gg):Hp:=λb=>if b=a then none else H b
theorem TY{H:Hp}{a:gg}{o:HO}(h:H a=some o):upd (Fl H a) a o=H:=by
 funext b
 by_cases e:b=a
 .subst e;rw[Bf];exact h.symm
 .rw[Az e];unfold Fl;rw[kS e]
section
variable{K:gd}{Oo:gg->Prop}{c:Cf}{t:T}{σ:L2.St}{H:Hp}
theorem FInv.out(f:FInv K Oo c t σ H){i:Nat}{ds:List D}(e:t.env[i]?=some (some (.own ds))){a:gg}(ha:σ[i]?=some (some (.ref a))) :
 FInv K Oo ⟨c.ι,λb=>c.O b/\b≠a⟩ {t with env:=t.env.set i none} σ (Fl H a)/\Stp Oo c H ⟨c.ι,λb=>c.O b/\b≠a⟩ (Fl H a):=by
 clear 5(f.own i ds e)a' vs g1 g2 g3 g4 g5;rw[ha] at g1;injection g1 with g1;injection g1 with g1;injection g1 with g1;subst g1
 have ni:a∉c.ι:=f.s.dis a g2;have ext:Ext c H ⟨c.ι,λb=>c.O b/\b≠a⟩ (Fl H a):=by
  refine⟨λb o hb hn=>?_,λb o hb z=>?_,λk b h=>h⟩
  .unfold Fl;rw[kS λz=>hn (by rw[z];exact .inr g2)];exact hb
  .rcases z with z|z
   .exact .inl z
   .exact .inr z.1
 have stp:Stp Oo c H ⟨c.ι,λb=>c.O b/\b≠a⟩ (Fl H a):=⟨ext,λb hb=>by unfold Fl;rw[kS λz=>g3 (by rw[<-z];exact hb)]⟩;have old:∀{j:Nat}{x:Sl},(t.env.set i none)[j]?=some (some x)->j≠i/\t.env[j]?=some (some x):=λ{j x} q=>by
  by_cases h:j=i
  .subst h;rw[ug1] at q
   split at q
   .split at q<;>simp at q
   .contradiction
  .exact⟨h,by rw[ud5 (Ne.symm h)] at q;exact q⟩
 refine⟨⟨⟨f.s.len,f.s.nd,λk b o e1 e2=>?_,λb hb=>?_,λb hb=>f.s.dis b hb.1⟩,by simpa using f.len,λb hb=>⟨f.sub b hb,λz=>g3 (by rw[<-z];exact hb)⟩,λj d q=>?_,λj es q=>?_,λj k es fs b q1 q2 q3 q4=>?_⟩,stp⟩
 .refine(f.s.obs k b o e1 e2).mono ext ?_;unfold Fl;rw[kS λz=>ni (by rw[<-z];exact ud6 e1)]
 .clear 5(f.s.trk b hb.1)o ho;exact⟨o,by unfold Fl;rw[kS hb.2];exact ho⟩
 .clear 5(f.val j d (old q).2)v h1 h2;exact⟨v,h1,h2.mono ext⟩
 .clear 5(old q)nj q';clear 5(f.own j es q')b us k1 k2 k3 k4 k5;have nb:b≠a:=λz=>nj (f.inj j i es ds a q' e (by rw[k1,z]) ha);exact⟨b,us,k1,⟨k2,nb⟩,k3,by unfold Fl;rw[kS nb];exact k4,k5.mono ext⟩
 .exact f.inj j k es fs b (old q1).2 (old q2).2 q3 q4
end
noncomputable def Hd(i:Nat):M Out:=λt=>match t.env[i]? with
 |some (some (.own xs))=>some (.ret (.lst xs),{t with env:=t.env.set i none})
 |_=>none
def HI(f:M (List D)):M Out:=bnd f λds=>ret (.ret (.lst ds))
section
variable{g:Fn}{fa:gg}{fd:gk}
section
variable{X:Cx}{pos:Pos}{e:Expr}{es:List Expr}
theorem OF{f:M (List D)}(h:PE X e (RF X.K f)):PS X (.Return (some e) pos) (RSg X.K (μF X.K) (HI f)):=
 Bt (IP h) λE σ H z9=>by
  clear 5 z9 Oo c t fi o t' eq k;clear 5(Ai eq)ds t1 e1 eq
  cases eq
  exact⟨Oo,c,t,fi,ds,_,e1,λp us H1 c1 f1 s1 ru hp=>k σ H1 c1 f1 s1 p us hp ru⟩
theorem Q5(i:Nat){x:Str}{px:Pos}(hN:X.N[i]?=some x:=by rfl)(hv:Vis X.env.scope x:=by walk_at"h")(hd:(x==("__debug__":Str))=false:=by decide)
 (hcd:(x==("__classdict__":Str))=false:=by decide):PS X (.Return (some (.Name x px)) pos) (RSg X.K (μF X.K) (Hd i)):=
 Bt (IP (KD hN hv hd hcd)) λE σ H z9=>by
  clear 5 z9 Oo c t fi o t' eq k;unfold Hd at eq
  split at eq
  .next xs ex=>
   cases eq
   clear 5(fi.own i xs ex)a vs h1 h2 h3 h4 h5;refine⟨.ref a,h1,?_⟩;clear 5(fi.out ex h1)f2 s2;have:=k σ (Fl H a) _ f2 s2 a vs (by unfold Fl;rw[kQ rfl]) (h5.mono s2.ext);rw[TY h4] at this;exact this
  .cases eq
inductive spFF(K:gd)(f:Fn)(vs:List V)(H:Hp)(Q:VK)(E:XK):Prop where
 |mk (c:Cf) (ds:List D) (S:List Ob) (si:SInv K c S H) (rp:Reps K c H vs ds) (rs:List D) (S':List Ob) (e:f ds S=some (.lst rs,S')) (k:∀p us H' c',SInv K c' S' H'->Stp c.O c H c' H'->(∀b,c'.O b↔c.O b)->Reps K c' H' us rs->H' p=none->Q (.ref p) (upd H' p (.lst us))):spFF K f vs H Q E
def Eo(g:Fn)(f:M (List D)):M (List D):=bnd f λds t=>match g ds t.S with
 |some (.lst rs,S')=>some (rs,{t with S:=S'})
 |_=>none
theorem Pq{ds:List D}{t:T}{rs:List D}{t':T}(h:(match g ds t.S with|some (.lst rs,S')=>some (rs,{t with S:=S'})|_=>none:Option (List D×T))=some (rs,t')):∃S',g ds t.S=some (.lst rs,S')/\t' = {t with S:=S'}:=by
 split at h
 .next rs' S' e=>cases h;exact⟨S',e,rfl⟩
 .cases h
theorem Tk{k:Nat}{ps:List Str}{f:M (List D)}{x:Str}{p:Pos}(F:FnOk X.prog X.w X.K X.mg X.base CX0 k fa fd ps (spFF X.K g))(hr:Room k X.A)(hg:Gl X x)(hm:X.mg x=some (.ref fa))(hk:PySem.W.keepIn X.K (.ref fa)=true)(hb:Binds X.K fd ps [])
 (ha:PA X (e::es) (RA X.K f)) (hdb:(x==("__debug__":Str))=false:=by decide) (h1:Bu e=false:=by rfl) (h2:Bw es=true:=by rfl) :
 PE X (.Call (.Name x p) (e::es) [] pos) (RF X.K (Eo g f)):=
 A4 (OU F hr hg hm hk hb .nil Jm ha hdb (BF h1) (Bm h2).1) λσ H Q z9=>by
  clear 5 z9 Oo c t fi rs t' eq kk;clear 5(Ai eq)ds t1 e1 eq;clear 5(Pq eq)S' e2 rfl;refine⟨Oo,c,t,fi,ds,t1,e1,λvs H1 c1 f1 s1 rvs=>?_⟩;show spFF X.K g (vs++[]) H1 Q E0;rw[ui5];refine⟨c1,ds,t1.S,f1.s,rvs,rs,S',e2,λp us H' c' si st ho ru hp=>?_⟩;clear 5(f1.after si st ho)f2 s2;exact kk p us H' c' f2 (s1.trans s2) ru hp
end
theorem VD{P:gi}{w:gj}{K:gd}{mg:Str->Option gf}{base:Heap}{x qual:Str}{st:Stmt}{N ps:List Str}{k n m:Nat}{g:M Out}(e1:ps.length=n)(e2:N.length=m)(F:Fun K x qual st fa fd)(S:FnScope N ps (AR st))
 (hb:∀(cdv:gf) (A:Around) (outer:List Env) (s:gh) (H:Hp) (E:XK),Room k (A.deeper (PyProof.Rows.envOfC qual (AR st) s.heap.objs.size fa cdv))->
   PSs (Fc CX0 P w K mg base N qual (AR st) fa cdv A outer s H E).nox (Dd st) (RSg K (μF K) g)):FnOk P w K mg base CX0 (k+1) fa fd ps (spFF K (fnOf n m g)):=by
 subst e1 e2;have hlen:∀{ds:List D}{S:List Ob}{z:D×List Ob},fnOf ps.length N.length g ds S=some z->ds.length=ps.length:=λ{ds S z} h=>by
  unfold fnOf at h
  split at h
  .next h1=>exact h1
  .cases h
 refine F.ok S (λvs H Q E h=>?_) (λcdv A outer s H vs Q E hr h=>?_)
 .obtain⟨c,ds,S,si,rs,r,S',e,_⟩:=h;rw[rs.length];exact hlen e
 clear 5 h c ds S0 si rs r S' e kk;refine⟨RSg K (μF K) g,hb cdv A outer s H E hr,?_⟩;have hl:=hlen e;unfold fnOf at e;rw[kQ hl] at e
 cases eg:g ⟨env0 N.length ds,S0⟩ with
 |none=>rw[eg] at e;cases e
 |some p=>
   clear 5 p o t;rw[eg] at e;refine⟨c.O,c,_,Hv si rs,o,t,eg,λσ' H' c' f' s'=>?_⟩;clear 5 f'.leave si' ext';have st':Stp c.O c H ⟨c'.ι,c.O⟩ H':=⟨s'.ext.trans ext',s'.oo⟩
   cases o with
   |next=>cases e
   |ret d=>
     cases e
     exact λp us hp ru=>kk p us H' _ si' st' (λ_=>kP) (ru.mono ext') hp
   |brk=>cases e
   |cont=>cases e
theorem WJ{P:gi}{w:gj}{K:gd}{mg:Str->Option gf}{base:Heap}{ps:List Str}{k:Nat}{f:Fn}(e:f=g)(h:FnOk P w K mg base CX0 k fa fd ps (spFF K g)):FnOk P w K mg base CX0 k fa fd ps (spFF K f):=by rw[e];exact h
end
section
variable{X:Cx}
theorem Wg{o:Expr}{to:TE}{apos cpos:Pos}(ho:PE X o to)(hbase:attributeBase o "bit_length" X.env (eval o X.env)=eval o X.env:=by rfl)(hline:(apos.endLine==cpos.line)=true:=by rfl) :
 PE X (.Call (.Attribute o "bit_length" apos) [] [] cpos) (λσ H Q=>to σ H λv H1=>∃i,v=.int i/\Q (.int (Builtin.Int.intBits i:Nat)) H1):=by
 intro ge s σ H Q I h;refine Call_method0 hbase hline (thn (ho ge s σ H _ I h) λu s1 z9=>?_);clear 5 z9 v H1 I1 rv i ex q;subst ex;clear 5 rv t rfl;exact⟨"int", "int.bit_length",PySem.F.plainAttrs_int,ua5,PySem.F.type_int_bit_length,kn _ _ _,(λ_ e=>nomatch e),
  method0_gives ua5 PySem.F.entry_int_bit_length (kn _ _ _) (PySem.F.args_int_bit_length_1 _) (PySem.AutoIntG2.int_bit_length_int_0 i t) ⟨.int (Builtin.Int.intBits i:Nat),H1,I1.tok _,⟨_,rfl⟩,q⟩⟩
end
def Ke:D->M D
 |.int i=>ret (.int (Builtin.Int.intBits i:Nat))
 |_=>fail
section
variable{X:Cx}{pos:Pos}{e:Expr}{es:List Expr}
theorem QP{o:Expr}{f:M D}{apos cpos:Pos}(ho:PE X o (RE X.K f))(hbase:attributeBase o "bit_length" X.env (eval o X.env)=eval o X.env:=by rfl)(hline:(apos.endLine==cpos.line)=true:=by rfl) :
 PE X (.Call (.Attribute o "bit_length" apos) [] [] cpos) (RE X.K (fUn f Ke)):=
 A4 (Wg ho hbase hline) λσ H Q z9=>by
  clear 5 z9 Oo c t fi r t' eq k;clear 5(Ai eq)d t1 e1 eq;refine⟨Oo,c,t,fi,d,t1,e1,λx H1 c1 f1 s1 rx=>?_⟩;unfold Ke at eq
  split at eq
  .next i=>
   cases eq
   cases rx
   exact⟨i,rfl,k _ H1 c1 f1 s1 (.int _)⟩
  .cases eq
end
section
variable{X:Cx}{b elt:Expr}{pos:Pos}
end
structure ItOk2(K:gd)(J:It)(c:Cf)(H:Hp)(ds:List D):Prop where
 go:∀c' H' (i:Nat),Ext c H c' H'->i<ds.length->J.go i H'
 yld:∀c' H' (i:Nat) x H'' d,Ext c H c' H'->ds[i]?=some d->J.yld i H' x H''->∃p vs es,x=.ref p/\H' p=none/\H''=upd H' p (.tup vs)/\d=.tup es/\Reps K c' H' vs es
 stop:∀c' H',Ext c H c' H'->J.stop ds.length H'
inductive RI2(K:gd)(f:M (List D))(σ:L2.St)(H:Hp)(R:It->Hp->Prop):Prop where
 |mk (Oo:gg->Prop) (c:Cf) (t:T) (fi:FInv K Oo c t σ H) (ds:List D) (t':T) (e:f t=some (ds,t')) (k:∀J H' c',FInv K Oo c' t' σ H'->Stp Oo c H c' H'->ItOk2 K J c' H' ds->R J H'):RI2 K f σ H R
section
variable{X:Cx}{pos:Pos}{e:Expr}
end
section
variable{X:Cx}
end
section
variable{X:Cx}{pos:Pos}{e:Expr}{es:List Expr}
end
section
variable{X:Cx}{e ek:Expr}{p2 pos:Pos}{te:TE}{tk:TO}
end
section
variable{X:Cx}
end
section
variable{X:Cx}
end
section
variable{X:Cx}{pos:Pos}
end
section
variable{X:Cx}
end
section
variable{X:Cx}
end
section
variable{X:Cx}
end
section
variable{X:Cx}
end
section
variable{X:Cx}{pos:Pos}{e:Expr}{es:List Expr}
end
section
variable{X:Cx}
end
def Jb:List (Int×M D)->M (List (Key×D))
 |[]=>ret []
 |(k,f)::r=>bnd f λd=>bnd (Jb r) λps=>ret ((.inl k,d)::ps)
def FB(l:List (Int×M D)):M D:=λt=>bnd (Jb l) (F0 t.S.length) {t with S:=t.S++[.dct []]}
noncomputable def PJ:List (Key×D)->Option (List Int)
 |[]=>some []
 |(.inl k,_)::r=>(PJ r).map (k :: ·)
 |_=>none
section
variable{K:gd}{c:Cf}{H:Hp}
theorem KVR.has{us:List (Key×V)}{kvs:List (Key×D)}(r:KVR K c H us kvs)(k:Key):(Em us k).isSome=(Ba kvs k).isSome:=by
 unfold KVR at r
 induction r with
 |nil=>rfl
 |@cons p q ps qs h t ih=>
   by_cases hk:p.1=k
   .have hq:q.1=k:=h.1.symm.trans hk;rw[HM hk];simp[Ba,uj0,hq]
   .have hq:¬q.1=k:=λz=>hk (h.1.trans z);have:Ba (q::qs) k=Ba qs k:=by simp[Ba,uj0,hq]
    rw[this,HL hk];exact ih
end
section
variable{X:Cx}{pos:Pos}{e b:Expr}
theorem QQ:PE X (.Dict [] [] pos) (RE X.K (FB [])):=
 A4 T3 λσ H Q z9=>by
  clear 5 z9 Oo c t fi r t' eq k;intro p hp;obtain⟨c1,f1,s1,e1⟩:=fi.newObj (o:=.dct []) (u:=.dK []) hp λc' H' ex hu=>⟨[],hu,.nil⟩;have e2:FB [] t=some (.obj t.S.length,{t with S:=t.S++[.dct []]}):=by
   simp[FB,Jb,bnd,L2.ret,F0,Bc]
  rw[e2] at eq
  cases eq
  exact k _ _ c1 f1 s1 (.obj e1)
end
noncomputable def tb(led:Bool)(pl:List Nat):SetTable:={mask:=7,place:=pl.toArray,dummies:=#[],finger:=0,led:=led,moves:=0,plain:=true}
noncomputable def pls:Nat->List (List Nat)
 |0=>[[]]
 |k+1=>(pls k).flatMap λl=>(List.range 8).filterMap λj=>if l.all (· < j) then some (l++[j]) else none
section
variable{P:gi}{w:gj}{A:Around}{E:gf->gh->Prop}{s:gh}
end
section
variable{P:gi}{w:gj}{A:Around}{I:gg}{fp wr:List gg}{G:Array GenState->Array GenState->Prop}{n:Nat}{Pr:Nat->gf->Prop}{St:Nat->gh->Prop}
end
section
variable{P:gi}{w:gj}{A:Around}{E:gf->gh->Prop}{s:gh}
end
section
variable{prog:gi}{w:gj}{A:Around}
end
section
variable{X:Cx}
end
section
variable{X:Cx}{pos:Pos}{e:Expr}
end
section
variable{P:gi}{w:gj}{A:Around}{E:gf->gh->Prop}{s:gh}
structure ZT(h:Heap)(z TI TO i1 i2 t1 t2:gg)(n:Nat):Prop where
 zz:IsZip h z TI TO .none
 ti:IsPair h TI (.ref i1) (.ref i2)
 ot:∃a b,IsPair h TO a b
 p1:h.IsTupleIter i1 t1 n
 p2:h.IsTupleIter i2 t2 n
end
section
variable{P:gi}{w:gj}{A:Around}{E:gf->gh->Prop}{s:gh}
end
def Itz(K:gd)(a b:gg):It:=
 ⟨λi H=>∃xs ys x y,SqT K H a xs/\SqT K H b ys/\xs[i]?=some x/\ys[i]?=some y,λi H v H'=>∃p x y,v=.ref p/\H p=none/\(∀xs,SqT K H a xs->xs[i]?=some x)/\(∀ys,SqT K H b ys->ys[i]?=some y)/\H'=upd H p (.tup [x,y]),λi H=>∃xs ys,SqT K H a xs/\SqT K H b ys/\(xs.length<=i\/ys.length<=i)⟩
noncomputable def eS:List D->List D->List D
 |x::xs,y::ys=>.tup [x,y]::eS xs ys
 |_,_=>[]
section
variable{X:Cx}{e a b tg iter elt:Expr}{ifs:List Expr}{pos:Pos}{scope:Scope}{N':List Str}{n:Nat}{fr:List Nat}{f:M (List D)}{st:D->M Unit}{tst:M Bool}{el:M D}
end
def E4(S:List Ob):D->D
 |.tup ds=>.tup (ds.map (DG S))
 |d=>DG S d
theorem L6{K:gd}{c:Cf}{S:List Ob}{H:Hp}(s:SInv K c S H):∀{vs:List V}{ds:List D},Reps K c H vs ds->Fo (ds.map (DG S))=true->Reps K c0 H vs (ds.map (DG S))
 |_,_,.nil,_=>.nil
 |_,_,.cons h t,p=>by
   simp only[uk6,Fo,uh0] at p;exact .cons (BV s h p.1) (L6 s t p.2)
theorem NO{K:gd}{c:Cf}{S:List Ob}{H:Hp}{v:V}{d:D}(s:SInv K c S H)(r:Rep K c H v d)(p:BM (E4 S d)=true):Rep K c0 H v (E4 S d):=by
 cases r with
 |tup h n q=>exact .tup h (La _) (L6 s q (by simpa[E4,BM] using p))
 |@obj a k hk=>exact BV s (.obj hk) p
 |non=>exact BV s .non p
 |bl b=>exact BV s (.bl b) p
 |int b=>exact BV s (.int b) p
 |str b=>exact BV s (.str b) p
 |ty b=>exact BV s (.ty b) p
 |lst h n q=>exact BV s (.lst h n q) p
 |scr h=>exact BV s (.scr h) p
 |dic h n=>exact BV s (.dic h n) p
 |exc a b n f q=>exact BV s (.exc a b n f q) p
 |gts h=>exact BV s (.gts h) p
def eqT(g:Bool->Bool)(x y:D):M D:=λt=>if (BM (E4 t.S x)&&BM (E4 t.S y))=true then(eqN EQD (E4 t.S x) (E4 t.S y)).map λb=>(.bl (g b),t) else none
theorem WP{K:gd}{g:Bool->Bool}:BG K (P8 K g) (eqT g):=λ{Oo c t σ H x y dx dy r t' Q} f rx ry eq k=>by
 unfold eqT at eq
 split at eq
 .next hp=>
  rw[uh0] at hp;clear 5(uc1.mp eq)b e1 e2
  cases e2
  exact⟨c0,_,_,b,NO f.s rx hp.1,NO f.s ry hp.2,e1,k _ H c f .refl (.bl (g b))⟩
 .cases eq
def fH:List D->M D
 |[.obj k,.ty m]=>λt=>match t.S[k]? with
   |some (.lst _)=>(Gg "list" m).map λb=>(.bl b,t)
   |_=>none
 |ds=>C6 ds
section
variable{X:Cx}{elt:Expr}{pos:Pos}{e:Expr}{es:List Expr}
theorem QR{o:Expr}{f:M D}{g:M (List D)}{apos cpos:Pos}(ho:PE X o (RE X.K f))(ha:PA X (e::es) (RA X.K g))
 (hbase:attributeBase o "extend" X.env (eval o X.env)=eval o X.env:=by rfl)
 (hfew:((backTo cpos (starEach (e::es) X.env)).all (λx=>!x.1)&&(backToKw cpos (keywordEach [] X.env)).all (λx=>x.1.isSome)&&decide ((e::es).length+([]:List Keyword).length+(if ([]:List Keyword).isEmpty then 0 else 1)<30))=true:=by rfl)
 (hline:(apos.endLine==cpos.line)=true:=by rfl) (hs:starEach (e::es) X.env=(false,eval e X.env)::starEach es X.env:=by rfl) (hplain:(backTo cpos (starEach es X.env)).any (·.1)=false:=by rfl) :
 PE X (.Call (.Attribute o "extend" apos) (e::es) [] cpos) (RE X.K (objM Eg f g)):=
 A4 (Ms ub5 gy gz OM ho ha hbase hfew hline hs hplain) λ_ _ _ q=>RE.objM O0 q
end
section
variable{X:Cx}{ge:List (gg×Obj)}{σ:St}{H:Hp}{s:gh}{a:gg}{kvs:List (Key×V)}{o:Obj}
end
section
variable{X:Cx}
end
section
variable{X:Cx}
end
open SeqAt
def Qs(K:gd)(H:Hp)(v w:V):Prop:=∃c dv dw,Rep K c H v dv/\Rep K c H w dw/\eqN EQD dv dw=some true
def Xs(K:gd)(H:Hp)(v w:V):Prop:=Qs K H v w\/∃a b us ts,v=.ref a/\w=.ref b/\H a=some (.dK us)/\H b=some (.dK ts)/\us.length=ts.length/\(∀kv∈us,∃n:Int,kv.1=Sum.inl n)/\(∀kv∈ts,∃n:Int,kv.1=Sum.inl n)/\∀kv∈us,∃z,Em ts kv.1=some z/\Qs K H kv.2 z
def fL(K:gd)(b:Bool):R2:=λx y H Q=>∃p q vs ws,x=.ref p/\y=.ref q/\H p=some (.lst vs)/\H q=some (.lst ws)/\vs.length=ws.length/\(∀(j:Nat) v w,vs[j]?=some v->ws[j]?=some w->Xs K H v w)/\Q (.bl b) H
def MJ(S:List Ob)(x y:D):Bool:=BM (DG S x)&&BM (DG S y)&&decide (eqN EQD (DG S x) (DG S y)=some true)
def eZ(S:List Ob)(x y:D):Bool:=match x,y with
 |.obj m,.obj n=>match S[m]?,S[n]? with
   |some (.dct kvs),some (.dct lvs)=>kvs.length==lvs.length&&(PJ kvs).isSome&&(PJ lvs).isSome&&kvs.all (λkv=>match Ba lvs kv.1 with|some e=>MJ S kv.2 e|none=>false)
   |_,_=>MJ S x y
 |_,_=>MJ S x y
section
variable{X:Cx}{pos:Pos}
end
structure ZL(h:Heap)(z TI TO i1 i2 t1 t2:gg)(n:Nat):Prop where
 zz:IsZip h z TI TO .none
 ti:IsPair h TI (.ref i1) (.ref i2)
 ot:∃a b,IsPair h TO a b
 p1:h.IsListIter i1 t1 n
 p2:h.IsListIter i2 t2 n
section
variable{X:Cx}{a b:Expr}{pos:Pos}
end
open PySem.W
section
variable{prog:gi}{w:gj}{A:Around}{h:Heap}{g:Array GenState}{d:Drawn}{t:Nat}{os:OsState}{R:Result->gh->Prop}
variable{nm q:Str}{C N fI:gg}{bs bm bmB:List gf}{hdct:Bool}{sn:List Str}{sub:List gf}{ab:Bool}{col:Option Bool}{dd:Option gg}{k0 k1 k2 k3 k5:Option gf}{B newId initId:String}{mN:Str->Option gf}
abbrev QM(C tp:gg):Obj:={cls:=.ref C,data:=.fields #[.ref tp,.none,.none,.none,.bool false,.none]}
abbrev KB(h:Heap)(C:gg)(us:List gf):Heap:=(h.push {cls:=.type "tuple",data:=.seq us.toArray}).push (QM C h.objs.size)
end
open PySem.Builtin PySem.Builtin.ObjectAttr
section
variable{prog:gi}{w:gj}{A:Around}{s:gh}{K:gd}{x C P tp:gg}{R:Result->gh->Prop}{name:Str}{v:gf}{tk:Tok}{cd:ClassData}
end
section
variable{qx:Bool}
def XRec(qx:Bool)(h:Heap)(x C:gg)(dx:Option gg)(tb:gf):Prop:=∃(o:Obj) (vs:Array gf),h.get? x=some o/\o.cls=.ref C/\o.dict=dx/\o.data=.fields vs/\vs[1]?=some tb/\(qx=true->vs[2]?=some .none/\4<vs.size)
theorem XU{qx:Bool}{vs:Array gf}{v:gf}(h:qx=true->vs[2]?=some .none/\4<vs.size):qx=true->(vs.setIfInBounds 1 v)[2]?=some .none/\4<(vs.setIfInBounds 1 v).size:=λz=>by
 rw[Array.getElem?_setIfInBounds_ne (by decide),Array.size_setIfInBounds];exact h z
theorem XRec.to{qx:Bool}{h:Heap}{x C:gg}{dx:Option gg}{tb:gf}(r:XRec true h x C dx tb):XRec qx h x C dx tb:=by
 clear 5 r o vs h1 h2 h3 h4 h5 h6;exact⟨o,vs,h1,h2,h3,h4,h5,λ_=>h6 rfl⟩
def XTb(h:Heap)(T:gg):Prop:=∃(o:Obj) (ts:Array gf),h.get? T=some o/\o.data=.fields ts/\ts[3]?=some .none
structure XKeep(fs ch:List gg)(h h':Heap):Prop where
 keep:∀b o,b∉ch->b∉fs->h.get? b=some o->h'.get? b=some o
 slot:∀b o,b∉ch->h.get? b=some o->∃sl,h'.get? b=some {o with slots:=sl}
section
variable{M:Model}{A:Around}{E:gf->gh->Prop}{s:gh}{env:Env}{outer:List Env}{base:Heap}{L x C:gg}{dx:Option gg}{tb:gf}{Q:Unit->gh->Prop}
theorem Np{o:Obj}{vs:Array gf}(hd:o.data=.fields vs)(f:Array gf->Array gf):(o.mapFields f).data=.fields (f vs)/\(o.mapFields f).cls=o.cls/\(o.mapFields f).dict=o.dict:=by
 clear 5 o c d dt sl
 cases hd
 exact⟨rfl,rfl,rfl⟩
end
end
section
variable{qx:Bool}
abbrev VE:List gf:=[.type "ValueError",.type "Exception",.type "BaseException",.type "object"]
structure XCl(K:gd)(C:gg)(bm:List gf):Prop where
 ex:∃cd dd k0 k1 k2 k3 k5,K.lookup C=some {cls:=.type "type",dict:=dd,data:=.cls cd,slots:=#[k0,k1,k2,k3,some (.builtin "ValueError.__new__"),k5]}/\cd.mro=.ref C::bm/\cd.hasDel=false/\cd.hasDict=true/\nsOkIn K cd.ns=true
 tl:tailIn K VE bm=true
noncomputable def Mw(K:gd)(C:gg)(bm:List gf):Bool:=tailIn K VE bm&&match K.lookup C with
 | some ⟨.type "type",_,.cls cd,sl⟩=>(match sl.toList with
   |[_,_,_,_,some (.builtin n),_]=>n == "ValueError.__new__" && cd.mro==.ref C::bm && !cd.hasDel&&cd.hasDict&&nsOkIn K cd.ns
   |_=>false)
 |_=>false
variable{K:gd}{C:gg}{bm:List gf}
theorem XCl.of_in(q:Mw K C bm=true):XCl K C bm:=by
 unfold Mw at q;rw[uh0] at q;refine⟨?_,q.1⟩;have q:=q.2
 split at q
 .rename_i dd cd sl ho
  split at q
  .rename_i k0 k1 k2 k3 n k5 hs;simp only[uh0,kl,Bool.not_eq_true'] at q;obtain⟨⟨⟨⟨rfl,h1⟩,h2⟩,h3⟩,h4⟩:=q;have hsl:sl=#[k0,k1,k2,k3,some (.builtin "ValueError.__new__"),k5]:=by
    cases sl
    exact kr Array.mk hs
   exact⟨cd,dd,k0,k1,k2,k3,k5,by rw[ho,hsl],h1,h2,h3,h4⟩
  .cases q
 .cases q
theorem XCl.obj{K:gd}{C:gg}{bm:List gf}{h:Heap}(c:XCl K C bm)(X:K.In h):∃nm q N bs sn sub ab col dd k0 k1 k2 k3 k5,h.get? C=some (excClassObj nm q C N bs bm true sn sub ab col dd k0 k1 k2 k3 k5 "ValueError.__new__")/\h.Ns N (h.nsMap N):=by
 obtain⟨⟨nm,bs,mro,ns,qn,hd,sn,sub,ab,col,del⟩,dd,k0,k1,k2,k3,k5,h1,h2,h3,h4,h5⟩:=c.ex;dsimp only at h2 h3 h4 h5;subst h2 h3 h4;exact⟨nm,qn,ns,bs,sn,sub,ab,col,dd,k0,k1,k2,k3,k5,X _ _ h1,.of_isNs (isNs_of_in X h5)⟩
variable{h:Heap}
theorem XCl.tail(c:XCl K C bm)(X:K.In h):OwnTail h VE bm:=tail_of_in X c.tl
theorem XCl.has(c:XCl K C bm)(X:K.In h):(Value.ref C::bm).contains (.type "BaseException")=true:=by
 rw[List.contains_cons,(c.tail X).hasType (b:=true) (by decide +kernel),Bool.or_true]
section
variable{M:Model}{A:Around}{E:gf->gh->Prop}{env:Env}{K:gd}{C:gg}{bm:List gf}{s:gh}
theorem Ui{t:Sem gf}{Q:Flow->gh->Prop}(c:XCl K C bm)(hh:A.handled=none)
 (h:wpAny M A t (λv s1=>∃x dx,v=.ref x/\K.In s1.heap/\XRec qx s1.heap x C dx .none/\E v s1) E s):wpAny M A (raiseStmt env (some t) none) Q E s:=by
 unfold raiseStmt;refine un2 (un4 h (λv s1 q=>?_) λ_ _ z=>z);obtain⟨x,dx,rfl,X,⟨o,vs,hx,hc,hd,hdt,h1,_⟩,hE⟩:=q;obtain⟨nm,q,N,bs,sn,sub,ab,col,dd,k0,k1,k2,k3,k5,hC,_⟩:=c.obj X;have hb:=c.has X;clear 5 s1 hp g d tk os
 repeat (first
  |(with_reducible refine jf hx ?_;rw[hc])
  |with_reducible refine jf hC ?_
  |(with_reducible refine iy hC ?_;rw[hb])
  |with_reducible refine un1 hx hdt h1 ?_
  |wp_step)
 exact wpAny_raiseNew_none hh hE
end
def CX1(qx:Bool)(P:gi)(w:gj):CXT:=λouter H s E e s'=>∃(x C:gg) (dx:Option gg) (T:gg) (H':Hp),e=.ref x/\s'.os=s.os/\AllBare s'.gens/\Un (frs outer) [] H H' s.heap s'.heap/\HOk P w H' s'.heap/\
 H' x=some (.ext (L2.XIs qx x C dx))/\s.heap.objs.size<=x/\s.heap.objs.size<=T/\T≠x/\H' T=none/\XRec qx s'.heap x C dx (.ref T)/\XTb s'.heap T/\E (.ref x) dx H'
variable{dx:Option gg}
theorem XRec.is{x:gg}{tb:gf}(r:XRec qx h x C dx tb):L2.XIs qx x C dx h:=by
 obtain⟨o,vs,h1,h2,h3,h4,_,h5⟩:=r;exact⟨o,vs,h1,h2,h3,h4,h5⟩
theorem XIs.stay{x:gg}{h1 h2:Heap}(r:L2.XIs qx x C dx h1)(k:∀o,h1.get? x=some o->h2.get? x=some o):L2.XIs qx x C dx h2:=by
 clear 5 r o vs e q;exact⟨o,vs,k o e,q⟩
theorem QN{P:gi}{w:gj}{H:Hp}{x:gg}(r:L2.XIs qx x C dx h):ObjOk P w H h x (.ext (L2.XIs qx x C dx)):=
 ⟨r,let ⟨o,_,e,_⟩:=r;⟨o,e⟩,λ_ _ q k=>XIs.stay q k⟩
section
variable{X:Cx}{ge:List (gg×Obj)}{σ:St}{H H':Hp}{s s':gh}{h':Heap}{x C T:gg}{dx:Option gg}{ch:List gg}
theorem UC(k:XKeep (frs X.stack) ch s.heap h')(hT:∀b∈ch,b=x\/b=T):Un (frs X.stack) (x::T::[]) H H s.heap h':=by
 have nch:∀b:gg,b∉(x::T::[])->b∉ch:=λb hb z=>hb (by rcases hT b z with rfl|rfl<;>simp);refine⟨λb o e n hb hx=>k.keep b o (nch b hx) hb e,λb o e n hb hx=>k.slot b o (nch b hx) e,λb o e n _=>n,λb o e hx=>?_,λ_ _ e=>e,λ_ _ _ e=>e,λb ps e=>⟨#[],by rw[e];simp⟩⟩;clear 5(k.slot b o (nch b hx) e)sl q;exact⟨_,q⟩
theorem Inv.left(I:Inv X ge σ H s)(hx:H x=some (.ext (L2.XIs qx x C dx)))(hT:H T=none)(nx:X.s₀.heap.objs.size<=x)(nT:X.s₀.heap.objs.size<=T)(k:XKeep (frs X.stack) ch s.heap h')(hc:∀b∈ch,b=x\/b=T)(r:L2.XIs qx x C dx h')
 (oT:∀y c,X.env.cells.lookup y=some c->c≠T) (lT:T≠X.env.locals) (pT:∀p∈X.pn++ge,p.1≠T):Inv X ge σ H {s with heap:=h'}:=by
 have nfr:∀b u,H b=some u->b∉frs X.stack:=λb u e z=>by rw[I.stkFree b z] at e;cases e
 refine I.call (g':=s.gens) (t':=s.toks) (d':=s.drawn) (ch:=[x,T]) (UC k hc) (λb u e=>?_) I.bare λb hb=>?_
 .by_cases hb:b=x
  .subst hb;rw[hx] at e;cases e;exact QN r
  .refine(I.hok b u e).stay (λc v hcc q=>k.keep c v ?_ ?_ q) (λ_ q=>q) λ_ _ q=>q
   .intro z;rcases hcc with rfl|hcc
    .rcases hc c z with q|q
     .exact hb q
     .rw[q,hT] at e;cases e
    .rcases hc c z with q|q
     .rw[q,hx] at hcc;cases hcc
     .rw[q,hT] at hcc;cases hcc
   .rcases hcc with rfl|hcc
    .exact nfr _ _ e
    .exact nfr _ _ hcc
 .have q:b=x\/b=T:=by simpa using hb
  rcases q with rfl|rfl
  .exact⟨.inr nx,(λz=>by rw[z,I.free] at hx;cases hx),(λy c e z=>by subst z;rw[I.freeC y c e] at hx;cases hx),λp hp z=>by rw[<-z,(I.pin p hp).2.1] at hx;cases hx⟩
  .exact⟨.inr nT,lT,oT,pT⟩
theorem Inv.raised(I:Inv X ge σ H s){E:XK}{e:gf}(q:CX1 qx X.prog X.w X.stack H s E e s'):∃(x C:gg) (dx:Option gg) (T:gg) (H':Hp),e=.ref x/\Inv X ge σ H' s'/\H' x=some (.ext (L2.XIs qx x C dx))/\s.heap.objs.size<=x/\s.heap.objs.size<=T/\T≠x/\H' T=none/\XRec qx s'.heap x C dx (.ref T)/\XTb s'.heap T/\E (.ref x) dx H':=by
 clear 5 q x C dx T H' he os bare un hok hx nx nT ne hT r tb q;clear 5 s' hh g d t os';obtain rfl:os'=s.os:=os;exact⟨x,C,dx,T,H',he,I.call (h':=hh) (g':=g) (d':=d) (t':=t) (ch:=[]) un hok bare (λb z=>absurd z (by simp)),hx,nx,nT,ne,hT,r,tb,q⟩
theorem Inv.newT(I:Inv X ge σ H s)(h:s.heap.objs.size<=T):T≠X.env.locals/\(∀y c,X.env.cells.lookup y=some c->c≠T)/\∀p∈X.pn++ge,p.1≠T:=by
 have far:∀b o,s.heap.get? b=some o->b≠T:=λb o e z=>absurd (ue4 (ul7 e) h) (by rw[z];exact uk4 _);refine⟨λz=>absurd I.lt (by rw[<-z];exact Nat.not_lt.mpr h),λy c e=>?_,λp hp=>far _ _ (I.pin p hp).1⟩;obtain⟨v,o,ho,_⟩:=I.cell y c e;exact far c o ho
end
section
variable{P:gi}{w:gj}{K:gd}{mg:Str->Option gf}{base:Heap}{N:List Str}{qual:Str}{scope:Scope}{f:gg}{cd:gf}{A:Around}{outer:List Env}{s₀:gh}{H₀:Hp}{E:XK}
end
end
structure XAt(K:gd)(C P:gg)(f:Str):Prop where
 cl:XCl K C (.ref P::VE)
 set:findIn K (.ref C) "__setattr__" = some (some (.builtin "object.__setattr__"))
 no:findIn K (.ref C) f=some none
section
variable{qx:Bool}
structure XMk(K:gd)(C P f:gg):Prop where
 cl:XCl K C (.ref P::VE)
 init:∃cd,clsIn K C=some cd/\nsIn K cd.ns "__init__" = some (some (.ref f))
 fn:isFn K (.ref f)=true
 kp:keepIn K (.ref C)=true
section
variable{X:Cx}{k:Nat}{f C P:gg}{fd:gk}{ge:List (gg×Obj)}{σ:St}{H:Hp}{s:gh}{Q:gf->gh->Prop}{us:List gf}{vs:List V}{a:Str}{ps:List Str}{v:V}{u:gf}
end
end
section
variable{qx:Bool}
section
variable{M:Model}{A:Around}{E:gf->gh->Prop}{K:gd}{s:gh}{x C C':gg}{bm bm':List gf}{dx:Option gg}{tb:gf}
theorem Nq{Q:Bool->gh->Prop}(c:XCl K C bm)(c':XCl K C' bm')(X:K.In s.heap)(hx:XRec qx s.heap x C dx tb)(h:Q ((Value.ref C::bm).contains (.ref C')) s):wpAny M A (excMatches (.ref x) (.ref C')) Q E s:=by
 obtain⟨nm,q,N,bs,sn,sub,ab,col,dd,k0,k1,k2,k3,k5,hC,_⟩:=c.obj X;obtain⟨nm',q',N',bs',sn',sub',ab',col',dd',k0',k1',k2',k3',k5',hC',_⟩:=c'.obj X;have hb:=c'.has X;clear 5 hx o vs ho hc hd hdt h1;clear 5 s hp g d tk os;have ty:(⟨hp,g,d,tk,os⟩:gh).TypeIs (.ref C') "type":=⟨_,hC',rfl⟩;have nt:=tc_notTuple
 cases hbb:(Value.ref C::bm).contains (.ref C')<;>(
  rw[hbb] at h;unfold excMatches
  repeat (first
   |(with_reducible refine jf ho ?_;rw[hc])
   |with_reducible refine jf hC' ?_
   |(with_reducible refine iy hC' ?_;rw[hb])
   |(with_reducible refine iy hC ?_;rw[hbb])
   |wp_step)
  exact h)
end
end
section
variable{qx:Bool}
def SN(h:Heap)(T:gg)(fl:gf):Prop:=∃(o:Obj) (ts:Array gf),h.get? T=some o/\o.data=.fields ts/\ts[3]?=some fl
section
variable{M:Model}{A:Around}{E:gf->gh->Prop}{s:gh}{env:Env}{outer:List Env}{base:Heap}{L x C:gg}{dx:Option gg}{tb:gf}{Q:Unit->gh->Prop}
theorem LX{hadNext:Bool}{hd:gf}(hfr:A.frames=some (env::outer))(hl:s.heap.FunFrames base (env::outer))(hf:env.frame=some L)(hx:XRec qx s.heap x C dx tb)
 (h:∀h' T,s.heap.objs.size<=T->T≠x->XRec qx h' x C dx (.ref T)->SN h' T (rawInt L)->XKeep (frs (env::outer)) [x] s.heap h'->Q () {s with heap:=h'}) :
 wpAny M A (do let fo <-frameOf env;let at' <-entryPlaceOf L hadNext;let en <-EntryCells.newEntry hd fo .none (rawInt L) .none at';setField (.ref x) 1 en) Q E s:=by
 clear 5 hx ox vs gx cx dxe dtx tbx xc;have v1:1<vs.size:=(ua7.mp tbx).1;have nfr:x∉frs (env::outer):=λz=>by
  obtain⟨_,o2,g2,n2⟩:=hl.mem z;rw[gx] at g2;cases g2
  exact n2 vs dtx
 refine un2 (wpAny_frameOf_fun hfr hl hf λh1 so=>?_);refine un2 (wpAny_entryPlaceOf λat' ip=>?_);unfold EntryCells.newEntry newFields;refine un2 (je ?_ (ip.sizeOk5 _ _ _ _ _));generalize hne:(Obj.mk (Value.type "traceback") none (Data.fields ([hd,Value.ref L,Value.none,rawInt L,Value.none]++if at'.isEmpty=true then List.replicate 6 Value.none else at').toArray) #[])=nob;have dn:nob.data=.fields ([hd,Value.ref L,Value.none,rawInt L,Value.none]++if at'.isEmpty=true then List.replicate 6 Value.none else at').toArray:=by rw[<-hne]
 have gx1:h1.get? x=some ox:=(so.2.1 x nfr).trans gx;have gx2:(h1.push nob).get? x=some ox:=ub9 _ gx1;have nex:h1.objs.size≠x:=um0 (ul7 gx1);refine jm gx2 dtx v1 ?_;clear 5(Np dtx (·.setIfInBounds 1 (Value.ref h1.objs.size)))m1 m2 m3;have gx3:=ud0 (Obj.mapFields (·.setIfInBounds 1 (Value.ref h1.objs.size))) gx2 (ij m1);have gT2:(h1.push nob).get? h1.objs.size=some nob:=ud9 h1 (ij dn);have gT3:=(uc0 (h1.push nob) (Obj.mapFields (·.setIfInBounds 1 (Value.ref h1.objs.size))) (Ne.symm nex)).trans gT2;have vx:(vs.setIfInBounds 1 (Value.ref h1.objs.size))[1]?=some (.ref h1.objs.size):=by simp[v1]
 have old:∀b o,b≠x->h1.get? b=some o->((h1.push nob).update x (Obj.mapFields (·.setIfInBounds 1 (Value.ref h1.objs.size)))).get? b=some o:=λb o hb e=>by
  rw[uc0 _ _ (Ne.symm hb)];exact ub9 _ e
 refine h _ h1.objs.size (kc so.1.symm) nex ⟨_,_,gx3,m2.trans cx,m3.trans dxe,m1,vx,XU xc⟩ ⟨_,_,gT3,dn,?_⟩ ⟨λb o hb hbf e=>old b o (λz=>hb (by simp[z])) ((so.2.1 b hbf).trans e),λb o hb e=>?_⟩
 .rw[List.getElem?_toArray];rfl
 .clear 5(so.2.2 b o e)sl e1;exact⟨sl,old b _ (λz=>hb (by simp[z])) e1⟩
end
structure XOn(qx:Bool)(X:Cx)(ge:List (gg×Obj))(H:Hp)(s:gh)(x C:gg)(dx:Option gg)(T:Option gg)(fl:gf):Prop where
 hx:H x=some (.ext (L2.XIs qx x C dx))
 nx:X.s₀.heap.objs.size<=x
 rc:XRec qx s.heap x C dx (match T with|some a=>.ref a|none=>.none)
 tb:∀a,T=some a->a≠x/\H a=none/\X.s₀.heap.objs.size<=a/\(a≠X.env.locals/\(∀y c,X.env.cells.lookup y=some c->c≠a)/\∀p∈X.pn++ge,p.1≠a)/\SN s.heap a fl
 fo:fl=.none\/fl=rawInt X.env.locals
section
variable{M:Model}{A:Around}{Er:gf->gh->Prop}{X:Cx}{ge:List (gg×Obj)}{σ:St}{H:Hp}{s:gh}{x C:gg}{dx T:Option gg}{fl:gf}{Q:Unit->gh->Prop}
theorem He(fr:Option gg)(I:Inv X ge σ H s){a:gg}(o:XOn qx X ge H s x C dx (some a) fl)(hfr:fr=none\/fr=some X.env.locals)
 (k:∀h',Inv X ge σ H {s with heap:=h'}->XOn qx X ge H {s with heap:=h'} x C dx (some a) (fr.elim Value.none λf=>rawInt f)->Q () {s with heap:=h'}):wpAny M A (setFlight (.ref x) fr) Q Er s:=by
 clear 5(id o.rc)ox vs gx cx dxe dtx tbx xc;clear 5(o.tb a rfl)ne hT nT oT ot ts gT dT t3;unfold setFlight;refine un2 (un1 gx dtx tbx ?_);rw[kQ (show(Value.ref a != Value.none)=true from rfl)];refine jm gT dT (ua7.mp t3).1 ?_;clear 5(Np dT (·.setIfInBounds 3 (fr.elim Value.none λf=>rawInt f)))m1 m2 m3;have gT2:=ud0 (Obj.mapFields (·.setIfInBounds 3 (fr.elim Value.none λf=>rawInt f))) gT (ij m1);have oth:∀b,b≠a->(s.heap.update a (Obj.mapFields (·.setIfInBounds 3 (fr.elim Value.none λf=>rawInt f)))).get? b=s.heap.get? b:=λb z=>uc0 _ _ (Ne.symm z);have rc':XRec qx (s.heap.update a (Obj.mapFields (·.setIfInBounds 3 (fr.elim Value.none λf=>rawInt f)))) x C dx (.ref a):=⟨ox,vs,(oth x (Ne.symm ne)).trans gx,cx,dxe,dtx,tbx,xc⟩;refine k _ (I.left o.hx hT o.nx nT (ch:=[a]) ⟨λb u hb _ e=>(oth b (by simpa using hb)).trans e,λb u hb e=>⟨u.slots,(oth b (by simpa using hb)).trans e⟩⟩ (λb hb=>.inr (by simpa using hb)) rc'.is oT.2.1 oT.1 oT.2.2) ⟨o.hx,o.nx,rc',λa' e=>?_,?_⟩
 .cases e
  exact⟨ne,hT,nT,oT,_,_,gT2,m1,by rw[Array.getElem?_setIfInBounds_self,kQ (ua7.mp t3).1]⟩
 .rcases hfr with rfl|rfl
  .exact .inl rfl
  .exact .inr rfl
theorem JT(hA:A.frames=some X.stack)(I:Inv X ge σ H s)(hs:X.stack=X.env::X.outer)(hf:X.env.frame=some X.env.locals)(o:XOn qx X ge H s x C dx T fl)
 (k:∀h' a,Inv X ge σ H {s with heap:=h'}->XOn qx X ge H {s with heap:=h'} x C dx (some a) (rawInt X.env.locals)->Q () {s with heap:=h'}):wpAny M A (noteFrame (.ref x) X.env) Q Er s:=by
 clear 5(id o.rc)ox vs gx cx dxe dtx tbx xc;have fin:∀(s1:gh) (hh:∃h1,s1 = {s with heap:=h1}) (ch:List gg) (h':Heap) (a:gg),Inv X ge σ H s1->s1.heap.objs.size<=a->a≠x->XRec qx h' x C dx (.ref a)->SN h' a (rawInt X.env.locals)->XKeep (frs (X.env::X.outer)) [x] s1.heap h'->Q () {s1 with heap:=h'}:=by
  rintro s1 ⟨h1,rfl⟩ ch h' a I1 l1 l2 l3 l4 l5;clear 5(I1.newT l1)o1 o2 o3;have J:=I1.left o.hx (I1.hok.fresh l1) o.nx (ul9 I1.sz l1) (ch:=[x]) (hs ▸ l5) (λb hb=>.inl (by simpa using hb)) l3.is o2 o1 o3;exact k h' a J ⟨o.hx,o.nx,l3,λa' e=>by cases e;exact⟨l2,I1.hok.fresh l1,ul9 I1.sz l1,⟨o1,o2,o3⟩,l4⟩,.inr rfl⟩
 unfold noteFrame;simp only[hf];refine un2 (un1 gx dtx tbx ?_)
 cases T with
 |none=>
   rw[kS (by decide)];exact LX (hA.trans (kr some hs)) (hs ▸ I.stack) hf o.rc λh' a l1 l2 l3 l4 l5=>fin s ⟨s.heap,rfl⟩ [] h' a I l1 l2 l3 l4 l5
 |some T₀=>
   clear 5(o.tb T₀ rfl)ne hT nT oT ot ts gT dT t3;rw[kQ (show(Value.ref T₀ != Value.none)=true from rfl)];refine un2 (un1 gT dT t3 ?_);rcases o.fo with rfl|rfl
   .rw[kS (show ¬((Value.none==rawInt X.env.locals)=true) from by simp[rawInt])];refine un2 (jm gT dT (ua7.mp t3).1 ?_);have oth:∀b,b≠T₀->(s.heap.update T₀ (Obj.mapFields (·.setIfInBounds 3 Value.none))).get? b=s.heap.get? b:=λb z=>uc0 _ _ (Ne.symm z);have rc':XRec qx (s.heap.update T₀ (Obj.mapFields (·.setIfInBounds 3 Value.none))) x C dx (.ref T₀):=⟨ox,vs,(oth x (Ne.symm ne)).trans gx,cx,dxe,dtx,tbx,xc⟩;have J:=I.left o.hx hT o.nx nT (ch:=[T₀]) ⟨λb u hb _ e=>(oth b (by simpa using hb)).trans e,λb u hb e=>⟨u.slots,(oth b (by simpa using hb)).trans e⟩⟩ (λb hb=>.inr (by simpa using hb)) rc'.is oT.2.1 oT.1 oT.2.2;exact LX (s:={s with heap:=s.heap.update T₀ (Obj.mapFields (·.setIfInBounds 3 Value.none))}) (hA.trans (kr some hs)) (hs ▸ J.stack) hf rc' λh' a l1 l2 l3 l4 l5=>fin _ ⟨_,rfl⟩ [] h' a J l1 l2 l3 l4 l5
   .rw[kQ (show(rawInt X.env.locals==rawInt X.env.locals)=true from by first|(simp;done)|exact ui0 _)];exact un3 (k s.heap T₀ I ⟨o.hx,o.nx,o.rc,o.tb,.inr rfl⟩)
end
def XE(qx:Bool)(X:Cx)(E:St->XK):gf->gh->Prop:=λe s=>∃ge σ H x C dx T fl,e=.ref x/\Inv X ge σ H s/\XOn qx X ge H s x C dx T fl/\E σ (.ref x) dx H
def EH(CX:CXT)(X:Cx)(E:St->XK):Prop:=∀(ge:List (gg×Obj)) (σ:St) (H:Hp) (s:gh) (e:gf) (s':gh),Inv X ge σ H s->CX X.stack H s (E σ) e s'->X.xe e s'
section
variable{M:Model}{X:Cx}{E:St->XK}
theorem XE.own(hs:X.stack=X.env::X.outer)(hf:X.env.frame=some X.env.locals):PassesOwn M X.A X.env (XE qx X E):=by
 rintro e s ⟨ge,σ,H,x,C,dx,T,fl,rfl,I,o,q⟩;refine JT I.ok.frames I hs hf o λh' a I' o'=>?_;clear 5(id o'.rc)ox vs gx cx dxe dtx tbx xc;unfold cameBackBy;refine un2 (un1 gx dtx tbx ?_);rw[kS (show ¬((Value.ref a==Value.none)=true) from by intro z;cases z)]
 rw[hf];exact He _ I' o' (.inr rfl) λh'' I'' o''=>⟨ge,σ,H,x,C,dx,some a,_,rfl,I'',o'',q⟩
theorem XE.pass:EH (CX1 qx X.prog X.w) (X.wish (XE qx X E)) E:=by
 intro ge σ H s e s' I q;clear 5(I.unwish.raised q)x C dx T H' rfl J hx nx nT ne hT r tb q;exact⟨ge,σ,H',x,C,dx,some T,.none,rfl,J,⟨hx,ul9 I.sz nx,r,λa e=>by cases e;exact⟨ne,hT,ul9 I.sz nT,I.unwish.newT nT,tb⟩,.inl rfl⟩,q⟩
end
section
variable{P:gi}{w:gj}{K:gd}{mg:Str->Option gf}{base:Heap}
abbrev cxX(qx:Bool)(P:gi)(w:gj)(K:gd)(mg:Str->Option gf)(base:Heap)(N:List Str)(qual:Str)(scope:Scope)(f:gg)(cd:gf)(A:Around)(outer:List Env)(s:gh)(H:Hp)(E:XK):Cx:=
 (Fc (CX1 qx P w) P w K mg base N qual scope f cd A outer s H E).wish (XE qx (Fc (CX1 qx P w) P w K mg base N qual scope f cd A outer s H E) λ_=>E)
theorem XE.leaves{N:List Str}{qual:Str}{scope:Scope}{f:gg}{cd:gf}{A:Around}{outer:List Env}{s₀:gh}{H₀:Hp}{E:XK}{e:gf}{s:gh}
 (h:XE qx (Fc (CX1 qx P w) P w K mg base N qual scope f cd A outer s₀ H₀ E) (λ_=>E) e s):(Fc (CX1 qx P w) P w K mg base N qual scope f cd A outer s₀ H₀ E).xe e s:=by
 clear 5 h ge σ H x C dx T fl rfl I o q;refine un2 (JT I.ok.frames I rfl rfl o λh' a I' o'=>?_);refine He none I' o' (.inl rfl) λh'' I'' o''=>?_;clear 5(o''.tb a rfl)ne hT nT oT tb;exact⟨x,C,dx,a,H,rfl,I''.os,I''.bare,I''.base,I''.hok,o''.hx,o''.nx,nT,ne,hT,o''.rc,tb,q⟩
theorem Fun.okX{x qual:Str}{st:Stmt}{f:gg}{fd:gk}{N ps:List Str}{k:Nat}{sp:Sp}(F:Fun K x qual st f fd)(S:FnScope N ps (AR st))(len:∀vs H Q E,sp vs H Q E->vs.length=ps.length)
 (hbody:∀(cdv:gf) (A:Around) (outer:List Env) (s:gh) (H:Hp) (vs:List V) (Q:VK) (E:XK),Room k (A.deeper (envOfC qual (AR st) s.heap.objs.size f cdv))->sp vs H Q E->
   ∃t,PSs (cxX qx P w K mg base N qual (AR st) f cdv A outer s H E) (Dd st) t/\t {nx:=λ_ H'=>Q .non H',rt:=Q} (start N vs) H):FnOk P w K mg base (CX1 qx P w) (k+1) f fd ps sp:=by
 clear 5 F.ex oc od kV doc pm an cdv ct osl rfl lk hcd;refine UV lk hcd S len λA outer s H vs Q E hr hsp=>?_;clear 5(hbody cdv A outer s H vs Q E hr hsp)t h q;exact⟨t,λge s1 σ H1 D I hw=>un4 (h ge s1 σ H1 D (I.wish _) hw) (λ_ _ q=>q.unwish) λ_ _ z=>z.leaves,q⟩
end
section
variable{X:Cx}{CX:CXT}{k:Nat}{f:gg}{fd:gk}{ps:List Str}{sp:Sp}{E:St->XK}{x:Str}{p pos:Pos}{e:Expr}{es:List Expr}{t:TA}
def Sv(sp:Sp)(E:St->XK)(t:TA):TE:=λσ H Q=>t σ H λvs H1=>sp vs H1 Q (E σ)
theorem T1(F:FnOk X.prog X.w X.K X.mg X.base CX k f fd ps sp)(hr:Room k X.A)(hg:Gl X x)(hm:X.mg x=some (.ref f))(hk:PySem.W.keepIn X.K (.ref f)=true)(hb:Binds X.K fd ps [])(hx:EH CX X E)
 (ha:PA X (e::es) t) (hdb:(x==("__debug__":Str))=false:=by decide) (he:starEach (e::es) X.env=(false,eval e X.env)::starEach es X.env:=by rfl) (hpl:(backTo pos (starEach es X.env)).any (·.1)=false:=by rfl) :
 PE X (.Call (.Name x p) (e::es) [] pos) (Sv sp E t):=by
 intro ge s σ H Q I h;refine ja (EK I hg hm ?_ hdb);refine ue7 (h₀:=X.base) I.ok.mod.kin hk (thn (ha pos ge s σ H _ I h) λus s1 z9=>?_) he hpl;clear 5 z9 vs H1 I1 r q;refine⟨I1.kIn,?_⟩;have hl:(us++[]).length=ps.length:=by rw[ui5,<-r.length];exact F.len _ _ _ _ q
 refine km (ke (F.run X.A X.stack s1 H1 ⟨us,[]⟩ us vs Q (E σ) hr I1.env0 (by have:=hb s1 us I1.kIn hl;rwa [ui5] at this) r q) λr s' hq=>?_)
 cases r with
 |error e=>exact hx ge σ H1 s1 e s' I1 hq
 |ok fl=>
   cases fl with
   |ret u=>exact I1.after hq
   |next=>exact False.elim hq
   |brk=>exact False.elim hq
   |cont=>exact False.elim hq
end
end
section
variable{qx:Bool}
def PM(qx:Bool)(X:Cx)(e:Expr)(C:gg)(t:St->Hp->(gg->Option gg->Hp->Prop)->Prop):Prop:=
 ∀(ge:List (gg×Obj)) (s:gh) (σ:St) (H:Hp) (Q:gg->Option gg->Hp->Prop),Inv X ge σ H s->t σ H Q->
  wpAny (model X.prog X.w) X.A (eval e X.env) (λv s1=>∃x dx H1,v=.ref x/\Inv X ge σ H1 s1/\H1 x=some (.ext (L2.XIs qx x C dx))/\X.s₀.heap.objs.size<=x/\XRec true s1.heap x C dx .none/\Q x dx H1) X.xe s
def J7(qx:Bool)(X:Cx)(E:St->XK):Prop:=∀(ge:List (gg×Obj)) (σ:St) (H:Hp) (s:gh) (x C:gg) (dx:Option gg),Inv X ge σ H s->XOn qx X ge H s x C dx none .none->E σ (.ref x) dx H->X.xe (.ref x) s
theorem XE.raises{X:Cx}{E:St->XK}:J7 qx (X.wish (XE qx X E)) E:=λge σ H s x C dx I o q=>⟨ge,σ,H,x,C,dx,none,.none,rfl,I.unwish,⟨o.hx,o.nx,o.rc,o.tb,o.fo⟩,q⟩
theorem Ub{X:Cx}{e:Expr}{C:gg}{bm:List gf}{t:St->Hp->(gg->Option gg->Hp->Prop)->Prop}{E:St->XK}{pos:Pos}(hc:X.calm=true)(c:XCl X.K C bm)(hx:J7 qx X E)(h:PM qx X e C t)
 (ho:evalOpt (some e) X.env=some (eval e X.env):=by rfl):PS X (.Raise (some e) none pos) (λ_ σ H=>t σ H λx dx H1=>E σ (.ref x) dx H1):=by
 intro ge s σ H D I q;rw[arm_exec_Raise,ho];refine un2 (jn ?_);refine Ui (qx:=true) c (I.ok.hd hc) ?_;refine un2 (un4 (h ge s σ H _ I q) (λv s1 z9=>?_) λ_ _ z=>z);clear 5 z9 x dx H1 e1 I1 hx1 nx r q1;subst e1;refine un2 (jn (un3 ⟨x,dx,rfl,I1.kIn,r,hx ge σ H1 s1 x C dx I1 ⟨hx1,nx,r.to,(λa e=>by cases e),.inl rfl⟩ q1⟩))
theorem PU{K:gd}{h:Heap}{N:gg}{m:Str->Option gf}{n:Str}(X:K.In h)(G:h.Ns N m)(e:nsIn K N n=some none):m n=none:=by
 obtain⟨o,es,ep,ho,hd,_,hf⟩:=G;unfold nsIn at e
 split at e
 .next c d es' n' sl q=>
  have z:=X _ _ q;rw[ho] at z
  cases z
  cases hd
  split at e
  .cases e
  .next he=>rw[<-hf];unfold nsFind findBy;rw[<-Array.find?_toList,he];rfl
 .cases e
section
variable{prog:gi}{w:gj}{A:Around}{E:gf->gh->Prop}{h:Heap}{g:Array GenState}{d:Drawn}{t:Nat}{os:OsState}{Q:gf->gh->Prop}
variable{nm q:Str}{C N:gg}{bs bm bmB:List gf}{hdct:Bool}{sn:List Str}{sub:List gf}{ab:Bool}{col:Option Bool}{dd:Option gg}{k0 k1 k2 k3 k5:Option gf}{B newId initId:String}{mN:Str->Option gf}
theorem Rw(F:ExcBaseFacts B newId initId bmB)(T:OwnTail h bmB bm){us:List gf}(hC:h.get? C=some (excClassObj nm q C N bs bm hdct sn sub ab col dd k0 k1 k2 k3 k5 newId))(hn:h.Ns N mN)(hni:mN "__init__" = none)(hus:us.length<=sizeLine)
 (hq:∀h' tp,(∀b o,h.get? b=some o->h'.get? b=some o)->h'.get? (h.objs.size+1)=some (QM C tp)->Q (.ref (h.objs.size+1)) ⟨h',g,d,t,os⟩) :
 wpAny (model prog w) A (call (.ref C) us) Q E ⟨h,g,d,t,os⟩:=by
 have c1:=tc_lookup;have c2:=tc_bind (.ref C);have ty:(⟨h,g,d,t,os⟩:gh).TypeIs (.ref C) "type":=⟨_,hC,rfl⟩;refine km (codeAny_of_tree ?_);show wpAny _ _ (callAny (.ref C) _) _ _ _
 repeat (any_goals (first
  |assumption
  |with_reducible refine jf hC ?_
  |wp_step))
 refine⟨rfl,codeAny_call_builtin_at (Code.quiet_builtin _ (by decide +kernel)) entry_typeCall (wpAny_check_type_call_sub hC ?_)⟩
 repeat (first
  |with_reducible refine jf hC ?_
  |with_reducible refine wpAny_madeBy_exc hC ?_
  |wp_step)
 refine codeAny_call_builtin_code (Code.quiet_builtin _ F.quiet) (wpAny_check_new_subT F T hC (codeAny_exc_new_subT F T hC ?_ hus))
 change wpAny _ _ _ _ _ (Shared.mk (KB h C us) g d t os)
 have kp:∀b o,h.get? b=some o->(KB h C us).get? b=some o:=λb o e=>ub9 _ (ub9 _ e);have he:(KB h C us).get? (h.objs.size+1)=some {cls:=.ref C,data:=.fields #[.ref h.objs.size,.none,.none,.none,.bool false,.none]}:=by heap_get
 have n1:(KB h C us).Ns N mN:=hn.keeps kp;have cC:(Value.ref C::bm).contains (.ref C)=true:=by simp
 unfold isInstance
 repeat (first
  |with_reducible refine jf he ?_
  |(with_reducible refine iy (kp _ _ hC) ?_;rw[cC])
  |wp_step)
 show wpAny _ _ (typeLookup (.ref C) _) _ _ _;refine wpAny_typeLookup_tail (kp _ _ hC) n1 (T.keeps kp) F.mroIs F.init.lookup ?_;rw[hni];refine ul6 (un2 (wpAny_of_eq (F.init.bind _) (un2 (km (codeAny_call_builtin F.init.plain F.initEntry (wpAny_check_init_subT F (T.keeps kp) (kp _ _ hC) he rfl ?_))))))
 wp_walk
 refine hq _ ((KB h C us).objs.size) (λb o hb=>?_) ?_
 .rw[uc0 _ _ (um0 (Nat.lt_succ_of_lt (ul7 hb)))];exact ub9 _ (kp b o hb)
 .rw[ud0 _ (ub9 _ he) rfl];rfl
end
section
variable{X:Cx}{k:Nat}{f C P:gg}{fd:gk}{a:Str}{ps:List Str}{n:Str}{p pos:Pos}{e:Expr}{es:List Expr}
theorem Ws{t:TA}{bm:List gf}{cd:ClassData}(c:XCl X.K C bm)(hk:keepIn X.K (.ref C)=true)(hcd:clsIn X.K C=some cd)(hni:nsIn X.K cd.ns "__init__" = some none)(hg:Gl X n)(hm:X.mg n=some (.ref C))(ha:PA X (e::es) t)
 (hdb:(n==("__debug__":Str))=false:=by decide) (h1:starEach (e::es) X.env=(false,eval e X.env)::starEach es X.env:=by rfl) (hpl:(backTo pos (starEach es X.env)).any (·.1)=false:=by rfl) :
 PM qx X (.Call (.Name n p) (e::es) [] pos) C (λσ H Q=>t σ H λvs H1=>vs.length<=1000/\∀x,H1 x=none->Q x none (upd H1 x (.ext (L2.XIs qx x C none)))):=by
 intro ge s σ H Q I h;refine ja (EK I hg hm ?_ hdb);refine ue7 (h₀:=X.base) I.ok.mod.kin hk (thn (ha pos ge s σ H _ I h) λus s1 z9=>?_) h1 hpl;clear 5 z9 vs H1 I1 r hl q;refine⟨I1.kIn,?_⟩;clear 5(c.obj I1.kIn)nm q' N bs sn sub ab col dd k0 k1 k2 k3 k5 hC hN;have hni':s1.heap.nsMap N "__init__" = none:=by
  unfold clsIn at hcd
  split at hcd
  .next l=>
   cases hcd
   have z:=I1.kIn _ _ l;rw[hC] at z
   cases z
   exact PU I1.kIn hN hni
  .cases hcd
 clear 5 s1 hh g d tk os;refine Rw PySem.F.excBase_ValueError (c.tail I1.kIn) hC hN hni' (by show us.length<=sizeLine;rw[<-r.length];exact ul9 hl (by decide)) λh' tp kp ht=>?_;have xr:XRec true h' (hh.objs.size+1) C none .none:=⟨_,_,ht,rfl,rfl,rfl,rfl,λ_=>⟨rfl,by show 4<6;decide⟩⟩;exact⟨_,none,_,rfl,I1.laid (h':=h') (t':=tk) kp (un0 _) (QN xr.to.is),Bf,ul9 I1.sz (un0 _),xr,q _ (I1.hok.fresh (un0 _))⟩
end
end
section
variable{qx:Bool}
abbrev Cx.mark(X:Cx)(x:gg):Cx:={X with A:=X.A.mark (some (.ref x)),calm:=false,xe:=λ_ _=>False}
section
variable{X:Cx}{ge:List (gg×Obj)}{σ:St}{H:Hp}{s:gh}{D:Ends}
theorem Inv.mark(I:Inv X ge σ H s)(x:gg):Inv (X.mark x) ge σ H s:=
 ⟨⟨I.ok.mod,I.ok.kind,I.ok.glob,I.ok.blt,I.ok.above,I.ok.inj,I.ok.has,I.ok.cab,(λz=>by cases z),I.ok.frames,I.ok.stk,I.ok.exf,I.ok.bs,I.ok.bsz,I.ok.noex,I.ok.exfs,I.ok.funs,I.ok.frf⟩,I.os,I.bare,I.base,I.loc,I.cell,I.free,I.freeC,I.pin,I.hok,I.len⟩
theorem Inv.unmark{x:gg}(J:X.Ok)(I:Inv (X.mark x) ge σ H s):Inv X ge σ H s:=⟨J,I.os,I.bare,I.base,I.loc,I.cell,I.free,I.freeC,I.pin,I.hok,I.len⟩
theorem Inv.repin{pn' pins':List (gg×Obj)}{xe:gf->gh->Prop}(I:Inv X ge σ H s)(h:∀p∈pn'++pins',p∈X.pn++ge):Inv {X with pn:=pn',xe:=xe} pins' σ H s:=
 ⟨⟨I.ok.mod,I.ok.kind,I.ok.glob,I.ok.blt,I.ok.above,I.ok.inj,I.ok.has,I.ok.cab,I.ok.hd,I.ok.frames,I.ok.stk,I.ok.exf,I.ok.bs,I.ok.bsz,I.ok.noex,I.ok.exfs,I.ok.funs,I.ok.frf⟩,I.os,I.bare,I.base,I.loc,I.cell,I.free,I.freeC,λp hp=>I.pin p (h p hp),I.hok,I.len⟩
theorem SP.unmark{x:gg}(J:X.Ok){f:Flow}(h:SP (X.mark x) ge D f s):SP X ge D f s:=by
 cases f with
 |next=>clear 5 h σ' H' I q;exact⟨σ',H',I.unmark J,q⟩
 |brk=>clear 5 h σ' H' I q;exact⟨σ',H',I.unmark J,q⟩
 |cont=>clear 5 h σ' H' I q;exact⟨σ',H',I.unmark J,q⟩
 |ret u=>clear 5 h v σ' H' I r q;exact⟨v,σ',H',I.unmark J,r,q⟩
theorem HK{M:Model}{A:Around}{E:gf->gh->Prop}{i:Nat}{n:Str}{pos:Pos}{Q:Unit->gh->Prop}(I:Inv X ge σ H s)(hN:X.N.Nodup)(hi:X.N[i]?=some n)(hk:X.env.scope.names.lookup n=some .local)
 (h:∀s',Inv X ge (σ.set i none) H s'->Q () s'):wpAny M A (do bindName X.env n .none;unbindBehindTheSuite X.env n pos) Q E s:=by
 refine un2 (jk (Fs (v:=.non) I hN hi (.inl hk) rfl (λs1 I1=>?_) (.inr hk)));unfold unbindBehindTheSuite;have hiσ:i < σ.length:=by rw[I.len];exact(ua9.mp hi).1
 clear 5(id I1.loc)m hn hl;have hcls:(X.env.scope.kind==.class||(X.env.scope.kind==.module&&X.env.locals != X.env.globals))=false:=by rw[I.ok.kind];rfl
 obtain⟨u0,_,lk⟩:=hl i n .non hi (by rw[ub8 hiσ]) (.inl hk);have hv:m n=some u0:=by
  rcases lk with⟨_,e⟩|⟨k,_⟩
  .exact e
  .have k:X.env.scope.names.lookup n=some .cell\/X.env.scope.names.lookup n=some .free:=k;rw[hk] at k;rcases k with k|k<;>cases k
 refine wpAny_onRaise (wpAny_unbindName_local hk hn hv hcls λh' u hn' hs=>?_);have cne:=I1.cne;have tracked:HOk X.prog X.w H h':=λb ob e=>by
  refine(I1.hok b ob e).stay (λc w' hc q=>(hs.2 c ?_).trans q) (λ_ q=>q) λ_ _ q=>q;rintro rfl;rcases hc with rfl|hc
  .rw[I1.free] at e;cases e
  .rw[I1.free] at hc;cases hc
 have far:∀b o,X.s₀.heap.get? b=some o->b≠X.env.locals:=λb o e=>ul8 (ue4 (ul7 e) I1.ok.above);refine h _ ⟨I1.ok,I1.os,I1.bare,⟨λb o e n hb hx=>?_,λb o e n hb hx=>?_,I1.base.free,λb o e hx=>?_,I1.base.tups,I1.base.frzs,I1.base.tbls⟩,⟨_,hn',λj y v' e1 e2 e3=>?_⟩,λy c e=>?_,I1.free,I1.freeC,λp hp=>?_,tracked,by simpa using I.len⟩
 .exact(hs.2 b (far b o e)).trans (I1.base.keep b o e n hb hx)
 .clear 5(I1.base.slot b o e n hb hx)sl e1;exact⟨sl,(hs.2 b (far b o e)).trans e1⟩
 .clear 5(I1.base.there b o e hx)o' e1;exact⟨o',(hs.2 b (far b o e)).trans e1⟩
 .by_cases hj:j=i
  .subst hj;rw[ub8 hiσ] at e2
   cases e2
  .rw[ud5 (Ne.symm hj)] at e2;clear 5(hl j y v' e1 (by rw[ud5 (Ne.symm hj)];exact e2) e3)u' r' q;refine⟨u',r',?_⟩;rcases q with⟨k,e⟩|⟨k,c,e,z⟩
   .refine .inl ⟨k,?_⟩;have:y≠n:=λe=>hj (JS hN e1 (e ▸ hi));simp[this,e]
   .exact .inr ⟨k,c,e,z.sameBut hs (cne y c e)⟩
 .clear 5(I1.cell y c e)w' z;exact⟨w',z.sameBut hs (cne y c e)⟩
 .clear 5(I1.pin p hp)e n ne nf d;exact⟨(hs.2 p.1 ne).trans e,n,ne,nf,d⟩
end
def PH(qx:Bool)(X:Cx)(hs:List ExceptHandler)(th:gg->gg->Option gg->TS):Prop:=∀(ge:List (gg×Obj)) (s:gh) (σ:St) (H:Hp) (x C:gg) (dx:Option gg) (T:gg) (D:Ends),Inv X ge σ H s->XOn qx X ge H s x C dx (some T) .none->th x C dx D σ H->
 wpAny (model X.prog X.w) X.A (handleBy (.ref x) X.env hs) (SP X ge D) X.xe s
noncomputable def Ends.unset(D:Ends)(i:Nat):Ends:={nx:=λσ H=>D.nx (σ.set i none) H,rt:=D.rt,bk:=λσ H=>D.bk (σ.set i none) H,ct:=λσ H=>D.ct (σ.set i none) H}
section
variable{X:Cx}{n v:Str}{C':gg}{bm':List gf}{p pos:Pos}{b₀:Stmt}{suite:List Stmt}{rest:List ExceptHandler}{ts:gg->TS}{tr:gg->gg->Option gg->TS}{i:Nat}
def dm(K:gd)(C':gg)(i:Nat)(ts:gg->TS)(tr:gg->gg->Option gg->TS):gg->gg->Option gg->TS:=λx C dx D σ H=>∃bm,XCl K C bm/\
 if (Value.ref C::bm).contains (.ref C')=true then ts x (D.unset i) (σ.set i (some (.ref x))) H else tr x C dx D σ H
theorem a7(hg:Gl X n)(hm:X.mg n=some (.ref C'))(c':XCl X.K C' bm')(hN:X.N.Nodup)(hi:X.N[i]?=some v)(hl:X.env.scope.names.lookup v=some .local)(hb:∀x,PSs (X.mark x) (b₀::suite) (ts x))(hr:PH qx X rest tr)
 (hdb:(n==("__debug__":Str))=false:=by decide):PH qx X (.ExceptHandler (some (.Name n p)) (some v) (b₀::suite) pos::rest) (dm X.K C' i ts tr):=by
 intro ge s σ H x C dx T D I o ⟨bm,c,q⟩;have Im:=I.mark x;refine wpAny_handleBy_cons (codeAny_handlers_test (EK Im hg hm ?_ hdb)) (by intro z;cases z)
 refine Nq c c' I.kIn o.rc ?_
 cases hc:(Value.ref C::bm).contains (.ref C') with
 |false=>
   rw[hc,kS (by decide)] at q;exact hr ge s σ H x C dx T D I o q
 |true=>
   rw[hc,kQ rfl] at q;refine codeAny_handlers_suite_as ?_;refine He none I o (.inl rfl) λh1 I1 o1=>?_;refine Fs (v:=.ref x) I1 hN hi (.inl hl) rfl (λs2 I2=>?_) (.inr hl);refine un4 (hb x ge s2 _ H _ (I2.mark x) q) (λf s3 z=>?_) λ_ _ z=>z.elim;show wpAny _ _ _ _ _ _;have J:=I.ok
   cases f with
   |next=>clear 5 z σ' H' I' q';exact HK (I'.unmark J) hN hi hl λs4 I4=>⟨_,H',I4,q'⟩
   |brk=>clear 5 z σ' H' I' q';exact HK (I'.unmark J) hN hi hl λs4 I4=>⟨_,H',I4,q'⟩
   |cont=>clear 5 z σ' H' I' q';exact HK (I'.unmark J) hN hi hl λs4 I4=>⟨_,H',I4,q'⟩
   |ret u=>clear 5 z w σ' H' I' r q';exact HK (I'.unmark J) hN hi hl λs4 I4=>⟨w,_,H',I4,r,q'⟩
def dq(K:gd)(C':gg)(ts:TS)(tr:gg->gg->Option gg->TS):gg->gg->Option gg->TS:=λx C dx D σ H=>∃bm,XCl K C bm/\
 if (Value.ref C::bm).contains (.ref C')=true then ts D σ H else tr x C dx D σ H
theorem a8{ts:TS}(hg:Gl X n)(hm:X.mg n=some (.ref C'))(c':XCl X.K C' bm')(hb:∀x,PSs (X.mark x) (b₀::suite) ts)(hr:PH qx X rest tr)
 (hdb:(n==("__debug__":Str))=false:=by decide):PH qx X (.ExceptHandler (some (.Name n p)) none (b₀::suite) pos::rest) (dq X.K C' ts tr):=by
 intro ge s σ H x C dx T D I o ⟨bm,c,q⟩;have Im:=I.mark x;refine wpAny_handleBy_cons (codeAny_handlers_test (EK Im hg hm ?_ hdb)) (by intro z;cases z)
 refine Nq c c' I.kIn o.rc ?_
 cases hc:(Value.ref C::bm).contains (.ref C') with
 |false=>
   rw[hc,kS (by decide)] at q;exact hr ge s σ H x C dx T D I o q
 |true=>
   rw[hc,kQ rfl] at q;refine codeAny_handlers_suite ?_;refine He none I o (.inl rfl) λh1 I1 o1=>?_;exact un4 (hb x ge _ _ H _ (I1.mark x) q) (λf s3 z=>z.unmark I.ok) λ_ _ z=>z.elim
theorem Zu{body:List Stmt}{h₀:ExceptHandler}{hs:List ExceptHandler}{tb:(St->XK)->TS}{th:gg->gg->Option gg->TS}(h1:X.stack=X.env::X.outer)(h2:X.env.frame=some X.env.locals)
 (hb:∀(pn:List (gg×Obj)) (E:St->XK),PSs {X with pn:=pn,xe:=XE qx {X with pn:=pn} E} body (tb E)) (hh:PH qx X (h₀::hs) th) :
 PS X (.Try body (h₀::hs) [] [] pos) (λD σ H=>tb (λσ' v dx H'=>∀x C,v=.ref x->H' x=some (.ext (L2.XIs qx x C dx))->(∃h,L2.XIs qx x C dx h)->th x C dx D σ' H') D σ H):=by
 intro ge s σ H D I q;refine wpAny_Try_except ?_;refine un4 (hb (X.pn++ge) _ [] s σ H D (I.repin λp hp=>by simpa using hp) q) (λf s1 z=>?_) λe s1 z=>?_
 .have back:∀{σ':St}{H':Hp},Inv {X with pn:=X.pn++ge,xe:=XE qx {X with pn:=X.pn++ge} (λσ' v dx H'=>∀x C,v=.ref x->H' x=some (.ext (L2.XIs qx x C dx))->(∃h,L2.XIs qx x C dx h)->th x C dx D σ' H')} [] σ' H' s1->Inv X ge σ' H' s1:=λJ=>J.repin (X:={X with pn:=X.pn++ge,xe:=_}) (pn':=X.pn) (pins':=ge) (xe:=X.xe) λp hp=>by simpa using hp
  cases f with
  |next=>clear 5 z σ' H' J q';exact jh ⟨σ',H',back J,q'⟩
  |brk=>clear 5 z σ' H' J q';exact⟨σ',H',back J,q'⟩
  |cont=>clear 5 z σ' H' J q';exact⟨σ',H',back J,q'⟩
  |ret u=>clear 5 z w σ' H' J r q';exact⟨w,σ',H',back J,r,q'⟩
 .clear 5 z pins' σ' H' x C dx T fl rfl J o q';have J1:Inv X ge σ' H' s1:=J.repin (X:={X with pn:=X.pn++ge}) (pn':=X.pn) (pins':=ge) (xe:=X.xe) λp hp=>by
   simp only[ui1] at hp⊢;exact .inl hp
  have o1:XOn qx X ge H' s1 x C dx T fl:=⟨o.hx,o.nx,o.rc,λa e=>by
   obtain⟨z1,z2,z3,⟨y1,y2,y3⟩,z5⟩:=o.tb a e;exact⟨z1,z2,z3,⟨y1,y2,λp hp=>y3 p (by simp only[ui1] at hp⊢;exact .inl hp)⟩,z5⟩,o.fo⟩
  refine JT J1.ok.frames J1 h1 h2 o1 λh' a I' o'=>He none I' o' (.inl rfl) λh'' I'' o''=>?_;exact hh ge _ σ' H' x C dx a D I'' o'' (q' x C rfl o.hx ⟨_,o.rc.is⟩)
end
end
section
variable{qx:Bool}
noncomputable def BI:D->Bool
 |.exc _ _=>true
 |_=>false
def exE(E:XK)(v:V)(H:Hp):Prop:=∀x dx,v=.ref x->E (.ref x) dx H
section
variable(K:gd)
inductive RX(E:L2.St->XK)(f:M D)(σ:L2.St)(H:Hp)(Q:VK):Prop where
 |mk (Oo:gg->Prop) (c:Cf) (t:T) (fi:FInv K Oo c t σ H) (r:D) (t':T) (e:f t=some (r,t')) (k:∀v H' c',FInv K Oo c' t' σ H'->Stp Oo c H c' H'->Rep K c' H' v r->if BI r=true then exE (E σ) v H' else Q v H'):RX E f σ H Q
def μX(E:XK):Cf->Hp->D->(V->Hp->Prop)->Prop:=λc H r rt=>∀v,Rep K c H v r->if BI r=true then exE E v H else rt v H
inductive RSX(E:L2.St->XK)(f:M Out)(D:Ends)(σ:L2.St)(H:Hp):Prop where
 |mk (Oo:gg->Prop) (c:Cf) (t:T) (fi:FInv K Oo c t σ H) (o:Out) (t':T) (e:f t=some (o,t')) (k:∀σ' H' c',FInv K Oo c' t' σ' H'->Stp Oo c H c' H'->
 match (generalizing:=false) o with
 |.next=>D.nx σ' H'
 |.brk=>D.bk σ' H'
 |.cont=>D.ct σ' H'
 |.ret r=>∀v,Rep K c' H' v r->if BI r=true then exE (E σ') v H' else D.rt v H'):RSX E f D σ H
inductive spX(f:Fn)(vs:List V)(H:Hp)(Q:VK)(E:XK):Prop where
 |mk (c:Cf) (ds:List D) (S:List Ob) (si:SInv K c S H) (rs:Reps K c H vs ds) (r:D) (S':List Ob) (e:f ds S=some (r,S')) (k:∀v H' c',SInv K c' S' H'->Stp c.O c H c' H'->(∀b,c'.O b↔c.O b)->Rep K c' H' v r->if BI r=true then exE E v H' else Q v H'):spX f vs H Q E
end
def fK(g:Fn):Fn:=λds S=>match g ds S with
 |some (r,S')=>if BI r=true then none else some (r,S')
 |none=>none
variable{fa:gg}{fd:gk}
section
variable{P:gi}{w:gj}{K:gd}{mg:Str->Option gf}{base:Heap}
theorem VF{x qual:Str}{st:Stmt}{N ps:List Str}{k n m:Nat}{g:M Out}(e1:ps.length=n)(e2:N.length=m)(F:Fun K x qual st fa fd)(S:FnScope N ps (AR st))
 (hb:∀(cdv:gf) (A:Around) (outer:List Env) (s:gh) (H:Hp) (E:XK),Room k (A.deeper (PyProof.Rows.envOfC qual (AR st) s.heap.objs.size fa cdv))->
   EH (CX1 qx P w) (cxX qx P w K mg base N qual (AR st) fa cdv A outer s H E) (λ_=>E)->J7 qx (cxX qx P w K mg base N qual (AR st) fa cdv A outer s H E) (λ_=>E)->
   PassesOwn (model P w) (cxX qx P w K mg base N qual (AR st) fa cdv A outer s H E).A (cxX qx P w K mg base N qual (AR st) fa cdv A outer s H E).env (cxX qx P w K mg base N qual (AR st) fa cdv A outer s H E).xe->
   PSs (cxX qx P w K mg base N qual (AR st) fa cdv A outer s H E) (Dd st) (RSg K (μX K E) g)):FnOk P w K mg base (CX1 qx P w) (k+1) fa fd ps (spX K (fnOf n m g)):=by
 subst e1 e2;have hlen:∀{ds:List D}{S:List Ob}{z:D×List Ob},fnOf ps.length N.length g ds S=some z->ds.length=ps.length:=λ{ds S z} h=>by
  unfold fnOf at h
  split at h
  .next h1=>exact h1
  .cases h
 refine F.okX S (λvs H Q E h=>?_) (λcdv A outer s H vs Q E hr h=>?_)
 .obtain⟨c,ds,S,si,rs,r,S',e,_⟩:=h;rw[rs.length];exact hlen e
 clear 5 h c ds S0 si rs r S' e kk;refine⟨RSg K (μX K E) g,hb cdv A outer s H E hr XE.pass XE.raises (XE.own rfl rfl),?_⟩;have hl:=hlen e;unfold fnOf at e;rw[kQ hl] at e
 cases eg:g ⟨env0 N.length ds,S0⟩ with
 |none=>rw[eg] at e;cases e
 |some p=>
   clear 5 p o t;rw[eg] at e;refine⟨c.O,c,_,Hv si rs,o,t,eg,λσ' H' c' f' s'=>?_⟩;clear 5 f'.leave si' ext';have st':Stp c.O c H ⟨c'.ι,c.O⟩ H':=⟨s'.ext.trans ext',s'.oo⟩
   cases o with
   |next=>cases e;exact kk .non H' _ si' st' (λ_=>kP) .non
   |ret d=>cases e;exact λv rv=>kk v H' _ si' st' (λ_=>kP) (rv.mono ext')
   |brk=>cases e
   |cont=>cases e
theorem WK{ps:List Str}{k:Nat}{f g:Fn}(e:f=g)(h:FnOk P w K mg base (CX1 qx P w) k fa fd ps (spX K g)):FnOk P w K mg base (CX1 qx P w) k fa fd ps (spX K f):=by rw[e];exact h
end
variable{f g:M D}{r:D}
section
variable{X:Cx}{e a b:Expr}{es:List Expr}{pos:Pos}{E:L2.St->XK}{st:Stmt}
theorem Mt{E:XK}{f:M Out}(h:PS X st (RSX X.K (λ_=>E) f)):PS X st (RSg X.K (μX X.K E) f):=Bt h λD σ H z9=>by
 clear 5 z9 Oo c t fi o t' eq k;refine⟨Oo,c,t,fi,o,t',eq,λσ' H' c' f' s'=>?_⟩;have q:=k σ' H' c' f' s'
 cases o<;>exact q
theorem VN{k:Nat}{ps:List Str}{g:Fn}{f:M (List D)}{x:Str}{p:Pos}(F:FnOk X.prog X.w X.K X.mg X.base (CX1 qx X.prog X.w) k fa fd ps (spX X.K g))(hr:Room k X.A)(hg:Gl X x)(hm:X.mg x=some (.ref fa))(hk:PySem.W.keepIn X.K (.ref fa)=true)(hb:Binds X.K fd ps [])
 (hx:EH (CX1 qx X.prog X.w) X E) (ha:PA X (e::es) (RA X.K f)) (hdb:(x==("__debug__":Str))=false:=by decide) (h1:Bu e=false:=by rfl) (h2:Bw es=true:=by rfl) :
 PE X (.Call (.Name x p) (e::es) [] pos) (RX X.K E (Am g f)):=
 A4 (T1 F hr hg hm hk hb hx ha hdb (BF h1) (Bm h2).1) λσ H Q z9=>by
  clear 5 z9 Oo c t fi r t' eq kk;clear 5(Ai eq)ds t1 e1 eq;clear 5(GA eq)S' e2 rfl;refine⟨Oo,c,t,fi,ds,t1,e1,λvs H1 c1 f1 s1 rvs=>?_⟩;refine⟨c1,ds,t1.S,f1.s,rvs,r,S',e2,λv H' c' si st ho rv=>?_⟩;clear 5(f1.after si st ho)f2 s2;exact kk v H' c' f2 (s1.trans s2) rv
def nxD(f:M D):M D:=bnd f λd=>if BI d=true then fail else ret d
theorem NB{t t':T}(h:nxD f t=some (r,t')):f t=some (r,t')/\BI r=false:=by
 clear 5(Ai h)d t1 e1 h
 by_cases hx:BI d=true
 .rw[kQ hx] at h;cases h
 .rw[kS hx] at h;cases h;exact⟨e1,by simpa using hx⟩
theorem Re{A B:Prop}(h:BI r=false)(q:if BI r=true then A else B):B:=by rw[kS (by rw[h];decide)] at q;exact q
def K9(g:M D)(h:D->M D):M D:=bnd g λy=>if BI y=true then ret y else nxD (h y)
theorem RX.bind{K:gd}{h:D->M D}{σ:L2.St}{H:Hp}{Q:VK}{Oo:gg->Prop}{c:Cf}{t t':T}(fi:FInv K Oo c t σ H)(eq:K9 g h t=some (r,t'))
 (k:∀v H' c',FInv K Oo c' t' σ H'->Stp Oo c H c' H'->Rep K c' H' v r->if BI r=true then exE (E σ) v H' else Q v H'){R:V->Hp->Prop}
 (s:∀y dy t1 H1 c1,FInv K Oo c1 t1 σ H1->Stp Oo c H c1 H1->Rep K c1 H1 y dy->h dy t1=some (r,t')->(∀v H' c',FInv K Oo c' t' σ H'->Stp Oo c1 H1 c' H'->Rep K c' H' v r->Q v H')->R y H1):RX K E g σ H R:=by
 clear 5(Ai eq)dy t1 e1 eq;refine⟨Oo,c,t,fi,dy,t1,e1,λy H1 c1 f1 s1 ry=>?_⟩
 by_cases hx:BI dy=true
 .rw[kQ hx] at eq⊢
  cases eq
  have:=k y H1 c1 f1 s1 ry;rw[kQ hx] at this;exact this
 .rw[kS hx] at eq⊢;clear 5(NB eq)e2 e3;exact s y dy t1 H1 c1 f1 s1 ry e2 λv H' c' f' s' rv=>Re e3 (k v H' c' f' (s1.trans s') rv)
def I9(f g:M D)(h:D->D->M D):M D:=bnd f λx=>K9 g λy=>h x y
theorem RX.two{K:gd}{h:D->D->M D}{R:R2}(s:BG K R h){σ:L2.St}{H:Hp}{Q:VK}(q:RX K E (I9 f g h) σ H Q):tOp R (RE K f) (RX K E g) σ H Q:=by
 clear 5 q Oo c t fi r t' eq k;clear 5(Ai eq)dx t1 e1 eq;refine⟨Oo,c,t,fi,dx,t1,e1,λx H1 c1 f1 s1 rx=>?_⟩;exact RX.bind f1 eq (λv H' c' f' s' rv=>k v H' c' f' (s1.trans s') rv) λy dy t2 H2 c2 f2 s2 ry e2 kk=>s f2 (rx.mono s2.ext) ry e2 kk
theorem aP{op:Operator}{R:R2}{h:D->D->M D}(ho:OpR X (binaryOp op) R)(s:BG X.K R h)(ha:PE X a (RE X.K f))(hb:PE X b (RX X.K E g)):PE X (.BinOp a op b pos) (RX X.K E (I9 f g h)):=
 A4 (PY ho ha hb) λ_ _ _ q=>RX.two s q
def fu(f g:M D)(h:D->D->M D):M D:=K9 f λx=>bnd g λy=>h x y
def fb(g:Fn)(f:M D):M D:=K9 f λd t=>match g [d] t.S with
 |some (r,S')=>some (r,{t with S:=S'})
 |none=>none
theorem OH(h:PE X e (RX X.K E f)):PS X (.Return (some e) pos) (RSX X.K E (An f)):=
 Bt (IP h) λD σ H z9=>by
  clear 5 z9 Oo c t fi o t' eq k;clear 5(Ai eq)d t1 e1 eq
  cases eq
  exact⟨Oo,c,t,fi,d,_,e1,λv H1 c1 f1 s1 rv=>k σ H1 c1 f1 s1 v rv⟩
def El(i:Nat)(f:M D):M Out:=bnd f λd=>if BI d=true then ret (.ret d) else bnd (AS i d) λ_=>ret .next
theorem OI{i:Nat}{x:Str}{pos':Pos}(hN:X.N.Nodup)(hi:X.N[i]?=some x)(hx:Loc X.env.scope x)(he:PE X e (RX X.K E f))(hs:swapsWith e (some (.Name x pos')) pos.line X.env=pure false:=by rfl)(hf:X.fn x=true\/X.env.scope.names.lookup x=some .local:=by walk_at"h") :
 PS X (.Assign [.Name x pos'] e pos) (RSX X.K E (El i f)):=Bt (NI hN hi hx he hs hf) λD σ H z9=>by
 clear 5 z9 Oo c t fi o t' eq k;clear 5(Ai eq)d t1 e1 eq;refine⟨Oo,c,t,fi,d,t1,e1,λv H1 c1 f1 s1 rv=>?_⟩
 by_cases hx:BI d=true
 .rw[kQ hx] at eq⊢
  cases eq
  have:=k σ H1 c1 f1 s1 v rv;rw[kQ hx] at this;exact this
 .rw[kS hx] at eq⊢
  cases eq
  exact k _ H1 c1 (f1.set rv) s1
def ft(f:M D):M Out:=bnd f λd=>if BI d=true then ret (.ret d) else ret .next
def fD(f:M D)(g:D->M Unit):M Out:=bnd f λd=>if BI d=true then ret (.ret d) else bnd (g d) λ_=>ret .next
theorem Tt{f:M Out}(h:PS X st (RSX X.K E f)):PSs X [st] (RSX X.K E f):=OV h
end
end
structure XGet(K:gd)(C:gg):Prop where
 ga:findIn K (.ref C) "__getattribute__" = some (some (.builtin "BaseException.__getattribute__"))
 gt:findIn K (.ref C) "__getattr__" = some none
 mb:mroIn K C (.type "BaseException")=some true
 mo:mroIn K C (.type "object")=some true
 hd:hasDictIn K C=true
section
variable{prog:gi}{w:gj}{A:Around}{E:gf->gh->Prop}{s:gh}{K:gd}{x C:gg}{ox:Obj}{od:Option Obj}{name:Str}{tk:Tok}{Q:gf->gh->Prop}{R:Result->gh->Prop}
end
section
variable{qx:Bool}
abbrev B4:List Str:=["Short", "Broken"]
structure XM(K:gd)(mg:Str->Option gf)(P:gg)(ca:Str->gg):Prop where
 pm:mg "ParleyError" = some (.ref P)
 pc:XCl K P VE
 ns:∀n∈B4,nsIn K mainGlobals n=some (some (.ref (ca n)))
 ms:∀n∈B4,mg n=some (.ref (ca n))
 cl:∀n∈B4,XCl K (ca n) (.ref P::VE)
 inj:∀n∈B4,∀m∈B4,ca n=ca m->n=m
 np:∀n∈B4,ca n≠P
 kp:∀n∈B4,keepIn K (.ref (ca n))=true
 gt:∀n∈B4,XGet K (ca n)
 gc:∀n∈B4,findIn K (.ref (ca n)) "__class__" = some (some (.builtin "object.__class__"))
 na:∀n∈B4,findIn K (.ref (ca n)) "at" = some none
 nd:∀n∈B4,findIn K (.ref (ca n)) "side" = some none
noncomputable def GW(n m:Str):Bool:=m == "ParleyError" || m == "ValueError" || n==m
theorem Io{a b:gg}{r:List gf}:(Value.ref a::r).contains (.ref b)=(a==b||r.contains (.ref b)):=by
 rw[List.contains_cons]
 congr 1
 by_cases h:a=b
 .subst h;simp
 .rw[ir.mpr h,ir.mpr (λz:Value.ref b=Value.ref a=>h (Value.ref.inj z).symm)]
theorem Xz{b:gg}:VE.contains (.ref b)=false:=rfl
section
variable{K:gd}{mg:Str->Option gf}{P:gg}{ca:Str->gg}
theorem XM.subE(x:XM K mg P ca){n m:Str}(hn:n∈B4)(hm:m∈B4):(Value.ref (ca n)::.ref P::VE).contains (.ref (ca m))=GW n m:=by
 rw[Io,Io,Xz,ir.mpr (Ne.symm (x.np m hm)),uk7,uk7];have h1:(m==("ParleyError":Str))=false/\(m==("ValueError":Str))=false:=by
  simp only[B4,uk5,uh5,ky] at hm;rcases hm with rfl|rfl<;>exact⟨by decide,by decide⟩
 unfold GW;rw[h1.1,h1.2,jr,jr]
 by_cases h:n=m
 .subst h;rw[ui0,ui0]
 .rw[ir.mpr h,ir.mpr λz=>h (x.inj n hn m hm z)]
theorem XM.of(x:XM K mg P ca){n:Str}{C:gg}(hn:n∈B4)(h:nsIn K mainGlobals n=some (some (.ref C))):C=ca n:=by
 rw[x.ns n hn] at h;injection h with h;injection h with h;injection h with h
 exact h.symm
end
theorem Xr{q1 q2:Bool}{x C C':gg}{dx dx':Option gg}(h:XIs q1 x C dx=XIs q2 x C' dx')(e:∃h,XIs q1 x C dx h):C=C'/\dx=dx':=by
 clear 5 e hh o vs e1 e2 e3 e4;have q:XIs q2 x C' dx' hh:=by rw[<-h];exact⟨o,vs,e1,e2,e3,e4⟩
 clear 5 q o' vs' q1 q2 q3 q4;rw[e1] at q1;cases q1
 rw[e2] at q2;cases q2
 exact⟨rfl,e3.symm.trans q3⟩
section
variable{X:Cx}{e:Expr}{es:List Expr}{pos p pos2:Pos}{E:L2.St->XK}{P:gg}{ca:Str->gg}
def ff(n:Str)(f:M (List D)):M Out:=bnd f λds=>match ds with
 |[d]=>ret (.ret (.exc n [d]))
 |_=>fail
def XN0(K:gd)(C:gg):Prop:=∃cd,clsIn K C=some cd/\nsIn K cd.ns "__init__" = some none
def IQ(n:Str)(f:M (List D)):M Out:=bnd f λds=>if ds.length<=1000 then ret (.ret (.exc n [])) else fail
theorem Q0{n:Str}{f:M (List D)}(x:XM X.K X.mg P ca)(hn:n∈B4)(hf:To n=[])(xn:XN0 X.K (ca n))(hc:X.calm=true)(hx:J7 qx X E)(hg:Gl X n)(ha:PA X (e::es) (RA X.K f))
 (hdb:(n==("__debug__":Str))=false:=by decide) (h1:Bu e=false:=by rfl) (h2:Bw es=true:=by rfl):PS X (.Raise (some (.Call (.Name n p) (e::es) [] pos)) none pos2) (RSX X.K E (IQ n f)):=by
 clear 5 xn cd hcd hni;refine Bt (Ub hc (x.cl n hn) hx (Ws (x.cl n hn) (x.kp n hn) hcd hni hg (x.ms _ hn) ha hdb (BF h1) (Bm h2).1)) λD σ H z9=>?_;clear 5 z9 Oo c t fi o t' eq k;clear 5(Ai eq)ds t1 e1 eq;refine⟨Oo,c,t,fi,ds,t1,e1,λvs H1 c1 f1 s1 rvs=>?_⟩
 split at eq
 .next hl=>
  cases eq
  refine⟨by rw[rvs.length];exact hl,λy hy=>?_⟩;have f3:=f1.laid (o:=.ext (XIs qx y (ca n) none)) hy;exact k σ _ c1 f3 (s1.trans (f1.stp_laid hy)) (.ref y) (.exc (x.ns _ hn) Bf (f1.s.free hy) (vs:=[]) rfl .nil) y none rfl
 .cases eq
end
section
variable{X:Cx}{pos p:Pos}{P:gg}{ca:Str->gg}{μ:Cf->Hp->D->(V->Hp->Prop)->Prop}
inductive RH(K:gd)(ca:Str->gg)(μ:Cf->Hp->D->(V->Hp->Prop)->Prop)(h:D->M Out)(x C:gg)(dx:Option gg)(E:Ends)(σ:L2.St)(H:Hp):Prop where
 | mk (Oo:gg->Prop) (c:Cf) (t:T) (n:Str) (ds:List D) (fi:FInv K Oo c t σ H) (hn:n∈B4) (hC:C=ca n) (rp:Rep K c H (.ref x) (.exc n ds)) (o:Out) (t':T) (e:h (.exc n ds) t=some (o,t')) (k:∀σ' H' c',FInv K Oo c' t' σ' H'->Stp Oo c H c' H'->
   match (generalizing:=false) o with
   |.next=>E.nx σ' H'
   |.brk=>E.bk σ' H'
   |.cont=>E.ct σ' H'
   |.ret r=>μ c' H' r E.rt):RH K ca μ h x C dx E σ H
noncomputable def unE(i:Nat)(t:T):T:={t with env:=t.env.set i none}
theorem FInv.unset{K:gd}{Oo:gg->Prop}{c:Cf}{t:T}{σ:L2.St}{H:Hp}(f:FInv K Oo c t σ H)(i:Nat):FInv K Oo c (unE i t) (σ.set i none) H:=by
 have neq:∀{j:Nat}{x:Sl},(t.env.set i none)[j]?=some (some x)->j≠i/\t.env[j]?=some (some x):=λ{j x} q=>by
  by_cases h:j=i
  .subst h;rw[ug1] at q
   split at q
   .split at q
    .injection q with q;cases q
    .cases q
   .next h1=>exact absurd rfl h1
  .rw[ud5 (Ne.symm h)] at q;exact⟨h,q⟩
 refine⟨f.s,by simp[unE,f.len],f.sub,λj e q=>?_,λj ds q=>?_,λj k ds es a q1 q2 q3 q4=>?_⟩
 .clear 5(neq q)h q;clear 5(f.val j e q)u h1 h2;exact⟨u,by rw[ud5 (Ne.symm h)];exact h1,h2⟩
 .clear 5(neq q)h q;clear 5(f.own j ds q)a vs h1 h2;exact⟨a,vs,by rw[ud5 (Ne.symm h)];exact h1,h2⟩
 .clear 5(neq q1)h q1;clear 5(neq q2)h' q2;rw[ud5 (Ne.symm h)] at q3;rw[ud5 (Ne.symm h')] at q4;exact f.inj j k ds es a q1 q2 q3 q4
def hAs(n':Str)(i:Nat)(s:M Out)(r:D->M Out):D->M Out:=λe t=>match e with
 | .exc n ds=>if GW n n'=true then (match s { t with env:=t.env.set i (some (.val (.exc n ds))) } with
   |some (o,t2)=>some (o,unE i t2)
   |none=>none) else r (.exc n ds) t
 |_=>none
def hNo(n':Str)(s:M Out)(r:D->M Out):D->M Out:=λe t=>match e with
 |.exc n ds=>if GW n n'=true then s t else r (.exc n ds) t
 |_=>none
noncomputable def Yz:D->M Out:=λ_ _=>none
theorem Yk:PH qx X [] (RH X.K ca μ Yz):=by
 rintro _ _ _ _ _ _ _ _ _ _ _ ⟨_,_,_,_,_,_,_,_,_,_,_,e,_⟩
 cases e
theorem aJ{n' v:Str}{C':gg}{bm':List gf}{i:Nat}{b₀:Stmt}{suite:List Stmt}{rest:List ExceptHandler}{s:M Out}{r:D->M Out}(x:XM X.K X.mg P ca)(hg:Gl X n')(hm:X.mg n'=some (.ref C'))(c':XCl X.K C' bm')(hs:∀n∈B4,(Value.ref (ca n)::.ref P::VE).contains (.ref C')=GW n n')
 (hN:X.N.Nodup) (hi:X.N[i]?=some v) (hl:X.env.scope.names.lookup v=some .local) (hb:∀x,PSs (X.mark x) (b₀::suite) (RSg X.K μ s)) (hr:PH qx X rest (RH X.K ca μ r)) (hdb:(n'==("__debug__":Str))=false:=by decide) :
 PH qx X (.ExceptHandler (some (.Name n' p)) (some v) (b₀::suite) pos::rest) (RH X.K ca μ (hAs n' i s r)):=by
 intro ge s0 σ H y C dx T D I o q;refine a7 hg hm c' hN hi hl hb hr hdb ge s0 σ H y C dx T D I o ?_;clear 5 q Oo c t n ds fi hn rfl rv o1 t' eq k;refine⟨_,x.cl n hn,?_⟩;rw[hs n hn];unfold hAs at eq;dsimp only at eq
 by_cases hb':GW n n'=true
 .rw[kQ hb'] at eq⊢
  cases e1:s {t with env:=t.env.set i (some (.val (.exc n ds)))} with
  |none=>rw[e1] at eq;cases eq
  |some z=>
    clear 5 z o2 t2;rw[e1] at eq
    cases eq
    refine⟨Oo,c,_,fi.set rv,o1,t2,e1,λσ' H' c2 f2 s2=>?_⟩;have:=k _ H' c2 (f2.unset i) s2
    cases o1<;>exact this
 .rw[kS hb'] at eq⊢;exact⟨Oo,c,t,n,ds,fi,hn,rfl,rv,o1,t',eq,k⟩
theorem aK{n':Str}{C':gg}{bm':List gf}{b₀:Stmt}{suite:List Stmt}{rest:List ExceptHandler}{s:M Out}{r:D->M Out}(x:XM X.K X.mg P ca)(hg:Gl X n')(hm:X.mg n'=some (.ref C'))(c':XCl X.K C' bm')(hs:∀n∈B4,(Value.ref (ca n)::.ref P::VE).contains (.ref C')=GW n n')
 (hb:∀x,PSs (X.mark x) (b₀::suite) (RSg X.K μ s)) (hr:PH qx X rest (RH X.K ca μ r)) (hdb:(n'==("__debug__":Str))=false:=by decide) :
 PH qx X (.ExceptHandler (some (.Name n' p)) none (b₀::suite) pos::rest) (RH X.K ca μ (hNo n' s r)):=by
 intro ge s0 σ H y C dx T D I o q;refine a8 hg hm c' hb hr hdb ge s0 σ H y C dx T D I o ?_;clear 5 q Oo c t n ds fi hn rfl rv o1 t' eq k;refine⟨_,x.cl n hn,?_⟩;rw[hs n hn];unfold hNo at eq;dsimp only at eq
 by_cases hb':GW n n'=true
 .rw [kQ hb'] at eq ⊢;exact ⟨Oo,c,t,fi,o1,t',eq,λσ' H' c2 f2 s2=>by
   have:=k _ H' c2 f2 s2
   cases o1<;>exact this⟩
 .rw[kS hb'] at eq⊢;exact⟨Oo,c,t,n,ds,fi,hn,rfl,rv,o1,t',eq,k⟩
noncomputable def Gy(b:M Out)(h:D->M Out):M Out:=λt=>match b t with
 |some (.ret (.exc n ds),t1)=>if n∈B4 then h (.exc n ds) t1 else none
 |z=>z
theorem Yt{body:List Stmt}{h₀:ExceptHandler}{hs:List ExceptHandler}{b:M Out}{h:D->M Out}(x:XM X.K X.mg P ca)(hμ:∀c H r rt,BI r=false->(∀v,Rep X.K c H v r->rt v H)=μ c H r rt)(h1:X.stack=X.env::X.outer)(h2:X.env.frame=some X.env.locals)
 (hb:∀(pn:List (gg×Obj)) (E:L2.St->XK),EH (CX1 qx X.prog X.w) {X with pn:=pn,xe:=XE qx {X with pn:=pn} E} E->PSs {X with pn:=pn,xe:=XE qx {X with pn:=pn} E} body (RSX X.K E b)) (hh:PH qx X (h₀::hs) (RH X.K ca μ h)):PS X (.Try body (h₀::hs) [] [] pos) (RSg X.K μ (Gy b h)):=
 Bt (Zu h1 h2 (λpn E=>hb pn E (XE.pass (X:={X with pn:=pn}))) hh) λD σ H z9=>by
  clear 5 z9 Oo c t fi o t' eq k;unfold Gy at eq
  cases e1:b t with
  |none=>rw[e1] at eq;cases eq
  |some z=>
    clear 5 z o1 t1;rw[e1] at eq;refine⟨Oo,c,t,fi,o1,t1,e1,λσ1 H1 c1 f1 s1=>?_⟩
    cases o1 with
    |next=>cases eq;exact k σ1 H1 c1 f1 s1
    |brk=>cases eq;exact k σ1 H1 c1 f1 s1
    |cont=>cases eq;exact k σ1 H1 c1 f1 s1
    |ret r=>
      intro v rv
      cases hx:BI r with
      |false=>
        rw[kS (by decide)];have eq':some (Out.ret r,t1)=some (o,t'):=by cases r<;>first|exact eq|cases hx
        cases eq'
        have q:=k σ1 H1 c1 f1 s1;have q:μ c1 H1 r D.rt:=q;rw[<-hμ _ _ _ _ hx] at q;exact q v rv
      |true=>
        rw[kQ rfl];intro y dx hv y' C hy' hC hex
        cases rv with
        |@exc q0 x0 C0 dx0 n vs ds g hx0 hA fl rs=>
          cases hv
          cases hy'
          dsimp only at eq
          split at eq
          .next hn=>
           rw[hx0] at hC;injection hC with hC;injection hC with hC
           clear 5(Xr hC.symm hex)e2 e3;have:=x.of hn g;exact⟨Oo,c1,t1,n,ds,f1,hn,e2.trans this,.exc g hx0 hA fl rs,o,t',eq,λσ' H' c' f' s'=>k σ' H' c' f' (s1.trans s')⟩
          .cases eq
        |_=>cases hx
end
end
section
variable{qx:Bool}
def fJ(n:Str):D->M D
 |.exc m _=>if m∈B4 then ret (.bl (GW m n)) else fail
 |.non=>ret (.bl false)
 |.bl _=>ret (.bl false)
 |.int _=>ret (.bl false)
 |.str _=>ret (.bl false)
 |.lst _=>ret (.bl false)
 |.tup _=>ret (.bl false)
 |.dic=>ret (.bl false)
 |_=>fail
section
variable{X:Cx}{P:gg}{ca:Str->gg}{a:Expr}{f:M D}{p pos q:Pos}
def fE(nm:Str):D->M D
 | .exc n ds=>if n∈B4 then (match ((To n).zip ds).lookup nm with
   |some d=>ret d
   |none=>fail) else fail
 |_=>fail
end
end
section
variable{qx:Bool}
def Qr(K:gd)(P c:gg):Bool:=Mw K c (.ref P::VE)&&keepIn K (.ref c)&&findIn K (.ref c) "__getattribute__" == some (some (.builtin "BaseException.__getattribute__"))&&findIn K (.ref c) "__getattr__" == some none&&mroIn K c (.type "BaseException")==some true
 && mroIn K c (.type "object")==some true&&hasDictIn K c&&findIn K (.ref c) "__class__" == some (some (.builtin "object.__class__"))&&findIn K (.ref c) "at" == some none&&findIn K (.ref c) "side" == some none
structure XOne(K:gd)(P c:gg):Prop where
 cl:XCl K c (.ref P::VE)
 kp:keepIn K (.ref c)=true
 gt:XGet K c
 gc:findIn K (.ref c) "__class__" = some (some (.builtin "object.__class__"))
 na:findIn K (.ref c) "at" = some none
 nd:findIn K (.ref c) "side" = some none
variable{K:gd}
theorem Pb{P c:gg}(h:Qr K P c=true):XOne K P c:=by
 unfold Qr at h;simp only[uh0,kl] at h;obtain⟨⟨⟨⟨⟨⟨⟨⟨⟨h1,h2⟩,h3⟩,h4⟩,h5⟩,h6⟩,h7⟩,h8⟩,h9⟩,h10⟩:=h;exact⟨.of_in h1,h2,⟨h3,h4,h5,h6,h7⟩,h8,h9,h10⟩
noncomputable def MZ(c1 c2:gg):Str->gg:=λn=>if n = "Short" then c1 else c2
theorem Db{Q:Str->Prop}(h1:Q "Short")(h2:Q "Broken"):∀n∈B4,Q n:=by
 intro n hn;simp only[B4,uk5,uh5,ky] at hn;rcases hn with rfl|rfl<;>assumption
def Qq(K:gd)(P:gg)(cs:List gg):Bool:=Mw K P VE&&cs.all (Qr K P)
theorem ck{h:Heap}{mg:Str->Option gf}{P c1 c2:gg}(X:K.In h)(G:h.Ns mainGlobals mg)(p:nsIn K mainGlobals "ParleyError" = some (some (.ref P)))(a1:nsIn K mainGlobals "Short" = some (some (.ref c1)))(a2:nsIn K mainGlobals "Broken" = some (some (.ref c2)))(q:Qq K P [c1,c2]=true)(nd:[P,c1,c2].Nodup):XM K mg P (MZ c1 c2):=by
 unfold Qq at q;simp only[uk8,List.all_nil,ul1,uh0] at q;clear 5 q q0 q1 q2;have o1:=Pb q1;have o2:=Pb q2;have inj:∀n∈B4,∀m∈B4,MZ c1 c2 n=MZ c1 c2 m->n=m:=by
  simp only[ui6,uk5,uh5,ky,kT,List.nodup_nil,and_true] at nd;obtain⟨⟨n1,n2⟩,m12,_⟩:=nd;have h1:MZ c1 c2 "Short" = c1:=rfl;have h2:MZ c1 c2 "Broken" = c2:=rfl;refine Db ?_ ?_<;>refine Db ?_ ?_<;>intro e<;>first|rfl|(exfalso;rw[h1] at e)|(exfalso;rw[h2] at e)
  all_goals (first|rw[h1] at e|rw[h2] at e)
  all_goals (first|contradiction|(have e:=e.symm;contradiction))
 refine⟨mg_of X G p,.of_in q0,Db a1 a2,Db (mg_of X G a1) (mg_of X G a2),Db o1.cl o2.cl,inj,?_,
  Db o1.kp o2.kp,Db o1.gt o2.gt,Db o1.gc o2.gc,Db o1.na o2.na,Db o1.nd o2.nd⟩
 simp only[ui6,uk5,uh5,ky,kT] at nd;obtain⟨⟨n1,n2⟩,_⟩:=nd;exact Db (Ne.symm n1) (Ne.symm n2)
noncomputable def Bq(s:Stmt)(k:Nat):Stmt:=match s with
 |.ClassDef _ _ _ body _ _ _ _ _ _ _=>body.getD k (.Pass ⟨0,0,0,0⟩)
 |_=>.Pass ⟨0,0,0,0⟩
noncomputable def Ny(K:gd)(C:gg):Bool:=match clsIn K C with
 |some cd=>nsIn K cd.ns "__init__" == some none
 |none=>false
theorem ap{C:gg}(h:Ny K C=true):XN0 K C:=by
 unfold Ny at h
 split at h
 .next cd e=>exact⟨cd,e,kl.mp h⟩
 .cases h
end
inductive Kd where
 |pl|fr|ex|er
abbrev okK(k:Kd)(P:gi)(w:gj)(K:gd)(mg:Str->Option gf)(base:Heap)(n:Nat)(fa:gg)(fd:gk)(ps:List Str)(f:Fn):Prop:=match k with
 |.pl=>FnOk P w K mg base CX0 n fa fd ps (spF K f)
 |.fr=>FnOk P w K mg base CX0 n fa fd ps (spFF K f)
 |.ex=>FnOk P w K mg base (CX1 true P w) n fa fd ps (spX K f)
 |.er=>FnOk P w K mg base (CX1 false P w) n fa fd ps (spX K f)
section
variable{X:Cx}{e a b:Expr}{pos:Pos}{f g:M D}
theorem OG{E:XK}(h:PE X e (RE X.K f)):PS X (.Return (some e) pos) (RSg X.K (μX X.K E) (An (nxD f))):=
 Bt (IP h) λD σ H z9=>by
  clear 5 z9 Oo c t fi o t' eq k;clear 5(Ai eq)d t1 e1 eq
  cases eq
  clear 5(NB e1)e2 e3;exact⟨Oo,c,t,fi,d,_,e2,λv H1 c1 f1 s1 rv=>Re e3 (k σ H1 c1 f1 s1 v rv)⟩
end
theorem YR{K:gd}:∀(c:Cf) (H:Hp) (r:D) (rt:V->Hp->Prop),BI r=false->(∀v,Rep K c H v r->rt v H)=μR K c H r rt:=λ_ _ _ _ _=>rfl
section
variable{qx:Bool}
section
variable{X:Cx}{P:gg}{ca:Str->gg}{a:Expr}{es:List Expr}{f:M D}{p pos q:Pos}{i:Nat}{ns:List Str}
end
end
section
variable{qx:Bool}
section
variable{prog:gi}{w:gj}{A:Around}{s:gh}{K:gd}{x C P dx:gg}{ox:Obj}{od:Option Obj}{R:Result->gh->Prop}{name:Str}{v:gf}{tk:Tok}{cd:ClassData}
end
section
variable{X:Cx}{k:Nat}{f C P:gg}{fd:gk}{ge:List (gg×Obj)}{σ:St}{H:Hp}{s:gh}{Q:gf->gh->Prop}{us:List gf}{vs:List V}{a b:Str}{ps:List Str}{v v2:V}{u u2:gf}
end
section
variable{X:Cx}{k:Nat}{f C P:gg}{fd:gk}{a b:Str}{ps:List Str}{n:Str}{p pos:Pos}{e e':Expr}
end
end
section
variable{qx:Bool}
section
variable{X:Cx}{e e':Expr}{pos p pos2:Pos}{E:L2.St->XK}{P:gg}{ca:Str->gg}
def fg(n:Str)(f:M (List D)):M Out:=bnd f λds=>match ds with
 |[d,d']=>ret (.ret (.exc n [d,d']))
 |_=>fail
end
end
section
variable{X:Cx}{a b:Expr}{pos:Pos}
end
section
variable{prog:gi}{w:gj}{A:Around}{E:gf->gh->Prop}{env:Env}{K:gd}{C:gg}{bm:List gf}{s:gh}
end
section
variable{X:Cx}{ge:List (gg×Obj)}{σ:St}{H:Hp}{s s':gh}{qx:Bool}{x C:gg}{dx T:Option gg}{fl:gf}
end
section
variable{X:Cx}{n v:Str}{C' C2:gg}{bm' bm2:List gf}{p pos p2:Pos}{e cN:Expr}{rest:List ExceptHandler}{t:St->Hp->(gg->Option gg->Hp->Prop)->Prop}{tr:gg->gg->Option gg->TS}{i:Nat}{E:St->XK}
end
structure FnOkH(P:gi)(w:gj)(K:gd)(mg:Str->Option gf)(base:Heap)(CX:CXT)(k:Nat)(f:gg)(fd:gk)(ps:List Str)(sp:Sp):Prop where
 len:∀vs H Q E,sp vs H Q E->vs.length=ps.length
 run:∀(z:gg) (A:Around) (outer:List Env) (s:gh) (H:Hp) (args:Args) (us:List gf) (vs:List V) (Q:VK) (E:XK),Room k A->Env0 P w K mg base A outer s H->BindsTo s fd args (ps.zip us)->Vals vs us->sp vs H Q E->
  codeAny (model P w) (A.mark (some (.ref z))) (.call (.ref f) args) (CR CX outer P w H s Q E) s
section
variable{qx:Bool}{X:Cx}{k:Nat}{f C P:gg}{fd:gk}{ge:List (gg×Obj)}{σ:St}{H:Hp}{s:gh}{Q:gf->gh->Prop}{us:List gf}{vs:List V}{a b:Str}{ps:List Str}{v v2:V}{u u2:gf}{n:Str}{p pos:Pos}{e e':Expr}
end
section
variable{X:Cx}{pos p p2 p3 p4:Pos}{P:gg}{ca:Str->gg}{E:XK}{e e' cN:Expr}
end
section
variable{prog:gi}{w:gj}{A:Around}{E:gf->gh->Prop}{s:gh}
variable{I:gg}{fp wr:List gg}{G:Array GenState->Array GenState->Prop}{n:Nat}{P:Nat->gf->Prop}{St:Nat->gh->Prop}
def eV(prog:gi)(w:gj)(h:Heap)(no:List gg)(k:Key)(x v:gf):Prop:=∃(p:gg) (o:Obj) (kv:gf) (q:Nat),v=.ref p/\p∉no/\h.get? p=some o/\o.cls=.type "tuple"/\o.data=.seq #[kv,x] q/\(Ca prog w).is k kv=true
end
section
variable{X:Cx}
end
section
variable{X:Cx}{pos:Pos}{e:Expr}
end
def ZA(neg:Bool):R2:=λx y H Q=>∃a kvs k,x=.str k/\y=.ref a/\H a=some (.dK kvs)/\Q (.bl (if neg then !(Em kvs (Sum.inr k:Key)).isSome else(Em kvs (Sum.inr k:Key)).isSome)) H
section
variable{X:Cx}
theorem Y2(hu:X.A.units+64<cLine):OpR X (compareOp .In) (ZA false):=by
 intro ge s σ H x y v u Q I rx ry h;clear 5 h a kvs k rfl rfl e q
 cases ry
 exact cM (by lia) I (DGet.k (k:=(Sum.inr k:Key)) e) rx λs' I'=>⟨.bl _,H,I',rfl,q⟩
theorem Ps:C9 X (.type "dict") (λxs H Q=>∃(p:gg) (kvs:List (Key×V)),xs=[.ref p]/\H p=some (.dK kvs)/\∀l,H l=none->Q (.ref l) (upd H l (.dK kvs))):=by
 intro ge s σ H xs us0 Q I r h;clear 5 h p kvs rfl e q;clear 5(Jt r)u rfl rx
 cases rx
 clear 5(Mp I.hok e)hz hp vs rel dd;refine kt_call_dict hp dd (by rw[<-rel.length];exact hz) λh' hD sb=>?_;have nm:(s.heap.objs.size==sysModules)=false:=by
  have:=I.big;rw[ir];exact um0 this
 have hk:∀b o,s.heap.get? b=some o->h'.get? b=some o:=λb o eb=>by
  rw[sb.2 b (ul8 (ul7 eb))];exact ub9 _ eb
 exact⟨.ref s.heap.objs.size,_,I.laid (t':=s.toks) hk (um8 _) (M5 hz nm rel hD),rfl,q _ (I.hok.fresh (um8 _))⟩
end
def inS(neg:Bool):D->D->M D
 |.str k,.obj n=>λt=>match t.S[n]? with
   |some (.dct kvs)=>some (.bl (if neg then !(Ba kvs (.inr k)).isSome else(Ba kvs (.inr k)).isSome),t)
   |_=>none
 |_,_=>fail
def IZ:List D->M D
 |[.obj n]=>λt=>match t.S[n]? with
   |some (.dct kvs)=>some (.obj t.S.length,{t with S:=t.S++[.dct kvs]})
   |_=>none
 |_=>fail
section
variable{K:gd}
theorem WS{neg:Bool}:BG K (ZA neg) (inS neg):=λ{Oo c t σ H x y dx dy r t' Q} f rx ry eq k=>by
 unfold inS at eq
 split at eq
 .next z n=>
  cases rx
  cases ry with
  |@obj a kk hk=>
    split at eq
    .next kvs es=>
     cases eq
     clear 5(f.s.obs _ a _ hk es)us g1 g2;refine⟨a,us,z,rfl,rfl,g1,?_⟩;rw[g2.has];exact k _ H c f .refl (.bl _)
    .cases eq
 .cases eq
end
section
variable{X:Cx}{pos:Pos}{e:Expr}
theorem Tg{f:M (List D)}{p:Pos}(hg:Gl X "dict")(hm:X.mg "dict" = none)(ha:PA X [e] (RA X.K f))(h1:Bu e=false:=by rfl) :
 PE X (.Call (.Name "dict" p) [e] [] pos) (RE X.K (fB f IZ)):=
 A4 (IM Ps hg hm (by decide +kernel) ha (by decide) (by decide) (BF h1) rfl) λσ H Q z9=>by
  clear 5 z9 Oo c t fi r t' eq k;clear 5(Ai eq)as t1 e1 eq;unfold IZ at eq
  split at eq
  .next n=>
   split at eq
   .next kvs es=>
    cases eq
    refine⟨Oo,c,t,fi,_,_,e1,λvs H1 c1 f1 s1 rv=>?_⟩;clear 5(GH rv)v rfl rw1
    cases rw1 with
    |@obj a kk hk=>
    clear 5(f1.s.obs _ a _ hk es)us g1 g2;refine⟨a,us,rfl,g1,λl hnl=>?_⟩;obtain⟨c2,f2,s2,eo⟩:=f1.newObj (o:=.dct kvs) (u:=.dK us) hnl λc' H' ex hu=>⟨_,hu,g2.mono ex⟩;exact k _ _ c2 f2 (s1.trans s2) (.obj eo)
   .cases eq
  .cases eq
end
section
variable{X:Cx}
end
def CM(K:gd):Prop:=∀n∈Li,∀C,nsIn K mainGlobals n=some (some (.ref C))->Cls K C/\∀f∈atN,NoAttr K C f
noncomputable def Gs(f:Str)(v:D):List (Str×D)->List (Str×D)
 |[]=>[(f,v)]
 |(g,x)::r=>if g=f then(g,v)::r else(g,x)::Gs f v r
section
variable{K:gd}{c:Cf}{H:Hp}
theorem FldR.len:∀{us:List (Str×V)}{fs:List (Str×D)},FldR K c H us fs->us.length=fs.length
 |_,_,.nil=>rfl
 |_,_,.cons _ t=>by rw[ug6,ug6,FldR.len t]
theorem FldR.look{f:Str}{d:D}:∀{us:List (Str×V)}{fs:List (Str×D)},FldR K c H us fs->fs.lookup f=some d->∃v,us.lookup f=some v/\Rep K c H v d
 |_,_,.nil,e=>by cases e
 |(g,x)::us,(g',y)::fs,.cons ⟨h1,h2⟩ t,e=>by
   have h1:g=g':=h1;subst h1
   by_cases q:(f==g)=true
   .simp only[List.lookup,q] at e⊢
    cases e
    exact⟨_,rfl,h2⟩
   .have q:(f==g)=false:=by simpa using q
    simp only[List.lookup,q] at e⊢;exact FldR.look t e
theorem FldR.none{f:Str}:∀{us:List (Str×V)}{fs:List (Str×D)},FldR K c H us fs->(∀p∈fs,p.1≠f)->us.lookup f=none
 |_,_,.nil,_=>rfl
 |(g,x)::us,(g',y)::fs,.cons ⟨h1,h2⟩ t,e=>by
   have h1:g=g':=h1;subst h1;have q:(f==g)=false:=by
    have:=e (g,y) (.head _);simpa using λz:f=g=>this z.symm
   simp only[List.lookup,q];exact FldR.none t λp hp=>e p (.tail _ hp)
theorem FldR.put{f:Str}{v:V}{d:D}(r:Rep K c H v d):∀{us:List (Str×V)}{fs:List (Str×D)},FldR K c H us fs->FldR K c H (DB f v us) (Gs f d fs)
 |_,_,.nil=>.cons ⟨rfl,r⟩ .nil
 |(g,x)::us,(g',y)::fs,.cons ⟨h1,h2⟩ t=>by
   have h1:g=g':=h1;subst h1;show FldR K c H (if g=f then(g,v)::us else(g,x)::DB f v us) (if g=f then(g,d)::fs else(g,y)::Gs f d fs)
   by_cases q:g=f
   .rw[kQ q,kQ q];exact .cons ⟨rfl,r⟩ t
   .rw[kS q,kS q];exact .cons ⟨rfl,h2⟩ (FldR.put r t)
theorem FldR.mono{c':Cf}{H':Hp}(e:Ext c H c' H'){us:List (Str×V)}{fs:List (Str×D)}(h:FldR K c H us fs):FldR K c' H' us fs:=Paired.mapP h λ_ _ z=>⟨z.1,z.2.mono e⟩
theorem OW{f:Str}{v:D}(hf:f∈atN):∀{fs:List (Str×D)},(∀p∈fs,p.1∈atN)->∀p∈Gs f v fs,p.1∈atN
 |[],_=>λp hp=>by rw[show Gs f v []=[(f,v)] from rfl,uf0] at hp;subst hp;exact hf
 |(g,x)::r,h=>λp hp=>by
   rw[show Gs f v ((g,x)::r)=(if g=f then(g,v)::r else(g,x)::Gs f v r) from rfl] at hp
   split at hp
   .rcases uk5.mp hp with e|e
    .subst e;exact h (g,x) (.head _)
    .exact h p (.tail _ e)
   .rcases uk5.mp hp with e|e
    .subst e;exact h (g,x) (.head _)
    .exact OW hf (λp hp=>h p (.tail _ hp)) p e
end
noncomputable def Ge{α:Type}(d:D)(h:Nat->Str->List (Str×D)->M α):M α:=λt=>match d with
 |.obj k=>match t.S[k]? with
   |some (.ins n fs)=>h k n fs t
   |_=>none
 |_=>none
theorem Ix{α:Type}{d:D}{h:Nat->Str->List (Str×D)->M α}{t:T}{z:α×T}(e:Ge d h t=some z):∃k n fs,d=.obj k/\t.S[k]?=some (.ins n fs)/\h k n fs t=some z:=by
 cases d with
 |obj k=>
   rw[show Ge (.obj k) h t=(match t.S[k]? with|some (.ins n fs)=>h k n fs t|_=>none) from rfl] at e
   cases es:t.S[k]? with
   |none=>rw[es] at e;cases e
   |some o=>
     rw[es] at e
     cases o with
     |ins n fs=>exact⟨k,n,fs,rfl,es,e⟩
     |_=>cases e
 |_=>cases e
def Br(f:Str)(a:M D):M D:=bnd a λd=>Ge d λ_ _ fs t=>(fs.lookup f).map λv=>(v,t)
def CY(f:Str)(gv ga:M D):M Out:=bnd gv λv=>bnd ga λd=>Ge d λk n fs t=>if fs.length<1000 then some (.next,{t with S:=t.S.set k (.ins n (Gs f v fs))}) else none
def FV(n:Str)(g:Fn)(f:M (List D)):M D:=bnd f λds t=>match g (.obj t.S.length::ds) (t.S++[.ins n []]) with
 |some (.non,S')=>some (.obj t.S.length,{t with S:=S'})
 |_=>none
def AF(n:Str)(g:Fn)(o:M D)(f:M (List D)):M D:=bnd o λd=>Ge d λ_ n' _=>if n'=n then bnd f λds t=>match g (d::ds) t.S with
 |some (r,S')=>some (r,{t with S:=S'})
 |none=>none else fail
theorem Jn{K:gd}{c:Cf}{H:Hp}{v:V}{k:Nat}(h:Rep K c H v (.obj k)):∃a,v=.ref a/\c.ι[k]?=some a:=by
 cases h with
 |obj e=>exact⟨_,rfl,e⟩
section
variable{X:Cx}{CX:CXT}{k:Nat}{f C:gg}{fd:gk}{ps:List Str}{sp:Sp}{E:St->XK}{x m:Str}{p pos apos:Pos}{e o:Expr}{es:List Expr}{ta:TE}{t:TA}
theorem WL{ge:List (gg×Obj)}{σ:St}{H:Hp}{s:gh}{Q:VK}{us:List gf}{vs:List V}(F:FnOk X.prog X.w X.K X.mg X.base CX k f fd ps sp)(hr:Room k X.A)(hb:Binds X.K fd ps [])(hx:EH CX X E)
 (I:Inv X ge σ H s) (r:Vals vs us) (h:sp vs H Q (E σ)):wpAny (model X.prog X.w) X.A (call (.ref f) us) (EP X ge σ Q) X.xe s:=by
 have hl:(us++[]).length=ps.length:=by rw[ui5,<-r.length];exact F.len _ _ _ _ h
 refine km (ke (F.run X.A X.stack s H ⟨us,[]⟩ us vs Q (E σ) hr I.env0 (by have:=hb s us I.kIn hl;rwa [ui5] at this) r h) λr s' hq=>?_)
 cases r with
 |error e=>exact hx ge σ H s e s' I hq
 |ok fl=>
   cases fl with
   |ret u=>exact I.after hq
   |next=>exact False.elim hq
   |brk=>exact False.elim hq
   |cont=>exact False.elim hq
abbrev Hk(X:Cx)(o:Expr)(m:Str)(es:List Expr)(apos pos:Pos)(pl:Sem Bool):Prop:=eval (.Call (.Attribute o m apos) es [] pos) X.env=(do
 let ov <-eval o X.env
 standAt apos.atName
 let (f,first) <-holding [ov] (getMethod ov m pl)
 callWith pos f first (backTo pos (starEach es X.env)) (backToKw pos (keywordEach [] X.env)))
structure ByCls(K:gd)(C:gg)(m:Str)(f:gg):Prop where
 ga:specialIn K (.ref C) "__getattribute__" = some (some (.builtin "type.__getattribute__"))
 rd:readsIn K C (.type "type")=true
 at_:(match findCls K (.ref C) (.type "type") m with|some (.val (.ref g))=>g==f|_=>false)=true
 kp:keepIn K (.ref f)=true
theorem ByCls.found{K:gd}{C f:gg}{m:Str}(b:ByCls K C m f):findCls K (.ref C) (.type "type") m=some (.val (.ref f)):=by
 have q:=b.at_
 split at q
 .next e=>rw[e];rw[kl.mp q]
 .cases q
theorem TZ{pl:Sem Bool}(F:FnOk X.prog X.w X.K X.mg X.base CX k f fd ps sp)(hr:Room k X.A)(hg:Gl X x)(hm:X.mg x=some (.ref C))(bc:ByCls X.K C m f)(hb:Binds X.K fd ps [])(hx:EH CX X E)(ha:PA X (e::es) t)
 (hdb:(x==("__debug__":Str))=false) (hst:starEach (e::es) X.env=(false,eval e X.env)::starEach es X.env) (hpl:(backTo pos (starEach es X.env)).any (·.1)=false) (ht:Hk X (.Name x p) m (e::es) apos pos pl) :
 PE X (.Call (.Attribute (.Name x p) m apos) (e::es) [] pos) (Sv sp E t):=by
 intro ge s σ H Q I h;refine uc7 (pl:=pl) (EK I hg hm ?_ hdb) ht;refine method_cls I.kIn bc.ga (cls_value I.kIn bc.rd bc.found rfl ?_);have I0:=I.tok (s.toks+1);refine ue7 (first:=[]) (h₀:=X.base) I.ok.mod.kin bc.kp (thn (ha pos ge _ σ H _ I0 h) λus s2 z9=>?_) hst hpl;clear 5 z9 vs H2 I2 r q2;refine⟨I2.kIn,?_⟩;exact WL (us:=us) (vs:=vs) F hr hb hx I2 r q2
end
section
variable{n:Str}{h:Fn}{pl:Sem Bool}
section
variable{X:Cx}{e o a value:Expr}{es:List Expr}{pos pos' apos p:Pos}{f:Str}{g gv ga:M D}{fl:M (List D)}{C:gg}
theorem X9(cm:CM X.K)(hf:f∈atN)(he:PE X e (RE X.K g))(hb:attributeBase e f X.env (eval e X.env)=eval e X.env):PE X (.Attribute e f pos) (RE X.K (Br f g)):=
 A4 (Zf he hb) λσ H Q z9=>by
  clear 5 z9 Oo c t fi r t' eq kk;clear 5(Ai eq)d t1 e1 eq;clear 5(Ix eq)k n fs rfl es eq;clear 5(uc1.mp eq)y e2 e3
  cases e3
  refine⟨Oo,c,t,fi,.obj k,_,e1,λv H1 c1 f1 s1 rv=>?_⟩;clear 5(Jn rv)b rfl hk;obtain⟨⟨hn,hat⟩,C,dx,us,g1,g2,g3⟩:=f1.s.obs k b _ hk es;clear 5(g3.look e2)w l1 l2;exact⟨b,C,dx,us,w,rfl,g2,(cm n hn C g1).1,(cm n hn C g1).2 f hf,l1,kk w H1 c1 f1 s1 l2⟩
theorem Yp{μ:Cf->Hp->D->(V->Hp->Prop)->Prop}(cm:CM X.K)(hf:f∈atN)(ha:PE X o (RE X.K ga))(hv:PE X value (RE X.K gv))(hs:swapsWith value (some (.Attribute o f pos')) pos.line X.env=pure false:=by rfl) :
 PS X (.Assign [.Attribute o f pos'] value pos) (RSg X.K μ (CY f gv ga)):=
 Bt (Zr ha hv hs) λD σ H z9=>by
  clear 5 z9 Oo c t fi r t' eq kk;clear 5(Ai eq)d t1 e1 eq;clear 5(Ai eq)d2 t2 e2 eq;clear 5(Ix eq)k n fs rfl es eq
  split at eq
  .next hl=>
   cases eq
   refine⟨Oo,c,t,fi,d,t1,e1,λv H1 c1 f1 s1 rv=>⟨Oo,c1,t1,f1,.obj k,t2,e2,λx H2 c2 f2 s2 rx=>?_⟩⟩;clear 5(Jn rx)b rfl hk;obtain⟨⟨hn,hat⟩,C,dx,us,g1,g2,g3⟩:=f2.s.obs k b _ hk es;refine⟨b,C,dx,us,rfl,g2,(cm n hn C g1).1,(cm n hn C g1).2 f hf,by rw[g3.len];exact hl,?_⟩;obtain⟨f3,s3⟩:=f2.wrObj (o:=.ins n (Gs f d fs)) (u:=.ins C dx (DB f v us)) hk λc' H' ext hu=>⟨⟨hn,OW hf hat⟩,C,dx,_,g1,hu,(FldR.put (rv.mono s2.ext) g3).mono ext⟩;exact kk σ _ c2 f3 ((s1.trans s2).trans s3)
  .cases eq
theorem Rx{ds:List D}{t:T}{r:D}{t':T}(e:(match h (.obj t.S.length::ds) (t.S++[.ins n []]) with|some (.non,S')=>some (.obj t.S.length,{t with S:=S'})|_=>none:Option (D×T))=some (r,t')) :
 ∃S',h (.obj t.S.length::ds) (t.S++[.ins n []])=some (.non,S')/\r=.obj t.S.length/\t' = {t with S:=S'}:=by
 split at e
 .next S' q=>cases e;exact⟨S',q,rfl,rfl⟩
 .cases e
theorem Ll{k:Nat}{fa:gg}{fd:gk}{ps:List Str}(hn:n∈Li)(hC:nsIn X.K mainGlobals n=some (some (.ref C)))(M:Mk X.K C fa)(F:FnOk X.prog X.w X.K X.mg X.base CX0 k fa fd ps (spF X.K h))(hr:Room (k+1) X.A)(hg:Gl X n)(hm:X.mg n=some (.ref C))(hb:Binds X.K fd ps [])
 (ha:PA X (e::es) (RA X.K fl)) (hdb:(n==("__debug__":Str))=false:=by decide) (h1:Bu e=false:=by rfl) (h2:Bw es=true:=by rfl):PE X (.Call (.Name n p) (e::es) [] pos) (RE X.K (FV n h fl)):=
 A4 (Wl M F hr hg hm hb .nil Jm ha hdb (BF h1) (Bm h2).1) λσ H Q z9=>by
  clear 5 z9 Oo c t fi r t' eq kk;clear 5(Ai eq)ds t1 e1 eq;clear 5(Rx eq)S' e2 rfl rfl;refine⟨Oo,c,t,fi,ds,t1,e1,λvs H1 c1 f1 s1 rvs x dx hx hdx ne=>?_⟩;rw[ui5];have f2:=f1.laid (p:=dx) (o:=.own x) hdx;have s2:=f1.stp_laid (p:=dx) (o:=.own x) hdx;have hx2:upd H1 dx (.own x) x=none:=by rw[Az (Ne.symm ne)];exact hx
  obtain⟨c3,f3,s3,e3⟩:=f2.newObj (o:=.ins n []) (u:=.ins C dx []) hx2 λc' H' ext hu=>⟨⟨hn,λp hp=>by cases hp⟩,C,dx,[],hC,hu,.nil⟩;refine⟨c3,.obj t1.S.length::ds,_,f3.s,.cons (.obj e3) ((rvs.mono s2.ext).mono s3.ext),.non,S',e2,λv H' c' si st ho rv=>?_⟩;clear 5(f3.after si st ho)f4 s4
  cases rv
  exact⟨rfl,kk _ H' c' f4 ((s1.trans s2).trans (s3.trans s4)) (.obj (st.ext.io _ _ e3))⟩
structure MAt(K:gd)(n m:Str)(C fa:gg):Prop where
 cl:n∈Li
 at_:nsIn K mainGlobals n=some (some (.ref C))
 me:Meth K C m fa
 na:m∉atN
theorem L3{d:D}{t:T}{r:D}{t':T}(e:Ge d (λ_ n' _=>if n'=n then bnd fl λds t=>match h (d::ds) t.S with|some (r,S')=>some (r,{t with S:=S'})|none=>none else fail) t=some (r,t')) :
 ∃k fs ds t1 S',d=.obj k/\t.S[k]?=some (.ins n fs)/\fl t=some (ds,t1)/\h (d::ds) t1.S=some (r,S')/\t' = {t1 with S:=S'}:=by
 clear 5(Ix e)k n' fs rfl es q
 by_cases hn:n'=n
 .subst hn;rw[kQ rfl] at q;clear 5(Ai q)ds t1 e1 q;clear 5(GA q)S' e2 rfl;exact⟨k,fs,ds,t1,S',rfl,es,e1,e2,rfl⟩
 .rw[kS hn] at q;cases q
section
variable{k:Nat}{fa:gg}{fd:gk}{ps:List Str}{h:Fn}{n m:Str}{qx:Bool}{E:L2.St->XK}
theorem CJ(cm:CM X.K)(ma:MAt X.K n m C fa)(F:FnOk X.prog X.w X.K X.mg X.base CX0 k fa fd ps (spF X.K h))(hr:Room k X.A)(hb:Binds X.K fd ps [])(he:PE X o (RE X.K g))(ha:PA X (e::es) (RA X.K fl))
 (h1:Bu e=false:=by rfl) (h2:Bw es=true:=by rfl) (ht:Hk X o m (e::es) apos pos pl:=by rfl):PE X (.Call (.Attribute o m apos) (e::es) [] pos) (RE X.K (AF n h g fl)):=
 A4 (Wm (pl:=pl) he (cm n ma.cl C ma.at_).1 ma.me F hr hb .nil Jm ha (BF h1) (Bm h2).1 ht) λσ H Q z9=>by
  clear 5 z9 Oo c t fi r t' eq kk;clear 5(Ai eq)d t1 e1 eq;clear 5(L3 eq)j fs ds t2 S' rfl es e2 e3 rfl;refine⟨Oo,c,t,fi,.obj j,t1,e1,λv H1 c1 f1 s1 rv=>?_⟩;clear 5(Jn rv)b rfl hk;obtain⟨⟨_,hat⟩,C',dx,us,g1,g2,g3⟩:=f1.s.obs j b _ hk es;rw[ma.at_] at g1
  cases g1
  refine⟨b,dx,us,rfl,g2,g3.none λp hp z=>ma.na (z ▸ hat p hp),Oo,c1,t1,f1,ds,t2,e2,λvs H2 c2 f2 s2 rvs=>?_⟩;show spF X.K h (V.ref b::(vs++[])) H2 Q E0;rw[ui5];refine⟨c2,.obj j::ds,t2.S,f2.s,.cons (.obj (s2.ext.io _ _ hk)) rvs,r,S',e3,λv H' c' si st ho rv=>?_⟩;clear 5(f2.after si st ho)f3 s3;exact kk v H' c' f3 ((s1.trans s2).trans s3) rv
theorem Ds(cm:CM X.K)(ma:MAt X.K n m C fa)(F:FnOk X.prog X.w X.K X.mg X.base CX0 k fa fd ps (spF X.K h))(hr:Room k X.A)(hb:Binds X.K fd ps [])(he:PE X o (RE X.K g))(ht:Hk X o m [] apos pos pl:=by rfl) :
 PE X (.Call (.Attribute o m apos) [] [] pos) (RE X.K (AF n h g (ret []))):=
 A4 (T5 (pl:=pl) he (cm n ma.cl C ma.at_).1 ma.me F hr hb .nil Jm ht) λσ H Q z9=>by
  clear 5 z9 Oo c t fi r t' eq kk;clear 5(Ai eq)d t1 e1 eq;clear 5(L3 eq)j fs ds t2 S' rfl es e2 e3 rfl
  cases e2
  refine⟨Oo,c,t,fi,.obj j,t1,e1,λv H1 c1 f1 s1 rv=>?_⟩;clear 5(Jn rv)b rfl hk;obtain⟨⟨_,hat⟩,C',dx,us,g1,g2,g3⟩:=f1.s.obs j b _ hk es;rw[ma.at_] at g1
  cases g1
  refine⟨b,dx,us,rfl,g2,g3.none λp hp z=>ma.na (z ▸ hat p hp),?_⟩;refine⟨c1,[.obj j],t1.S,f1.s,.cons (.obj hk) .nil,r,S',e3,λv H' c' si st ho rv=>?_⟩;clear 5(f1.after si st ho)f3 s3;exact kk v H' c' f3 (s1.trans s3) rv
theorem Td{x:Str}(F:FnOk X.prog X.w X.K X.mg X.base CX0 k fa fd ps (spF X.K h))(hr:Room k X.A)(hg:Gl X x)(hm:X.mg x=some (.ref C))(bc:ByCls X.K C m fa)(hb:Binds X.K fd ps [])(ha:PA X (e::es) (RA X.K fl))
 (hdb:(x==("__debug__":Str))=false:=by decide) (h1:Bu e=false:=by rfl) (h2:Bw es=true:=by rfl) (ht:Hk X (.Name x p) m (e::es) apos pos pl:=by rfl):PE X (.Call (.Attribute (.Name x p) m apos) (e::es) [] pos) (RE X.K (Am h fl)):=
 A4 (TZ (pl:=pl) (E:=λ_=>E0) F hr hg hm bc hb (λge σ H s e s'=>Jm ge σ H s e s') ha hdb (BF h1) (Bm h2).1 ht) λσ H Q z9=>by
  clear 5 z9 Oo c t fi r t' eq kk;clear 5(Ai eq)ds t1 e1 eq;clear 5(GA eq)S' e2 rfl;refine⟨Oo,c,t,fi,ds,t1,e1,λvs H1 c1 f1 s1 rvs=>?_⟩;refine⟨c1,ds,t1.S,f1.s,rvs,r,S',e2,λv H' c' si st ho rv=>?_⟩;clear 5(f1.after si st ho)f2 s2;exact kk v H' c' f2 (s1.trans s2) rv
end
end
variable{K:gd}
theorem YV{k:Kd}{P:gi}{w:gj}{mg:Str->Option gf}{base:Heap}{n:Nat}{fa:gg}{fd:gk}{ps:List Str}{f:Fn}(h:okK k P w K mg base n fa fd ps f):okK k P w K mg base (n+1) fa fd ps f:=by
 cases k<;>exact FnOk.mono h (un0 _)
def Lh(K:gd)(C:gg):Bool:=plainGet K C Str.empty&&hasDictIn K C&&plainOver K C&&findIn K (.ref C) "__setattr__" == some (some (.builtin "object.__setattr__"))&&atN.all λf=>findIn K (.ref C) f==some none
variable{C:gg}
theorem Vl(h:Lh K C=true):Cls K C/\∀f∈atN,NoAttr K C f:=by
 unfold Lh at h;simp only[uh0,kl,uh4] at h;obtain⟨⟨⟨⟨a,b⟩,c⟩,d⟩,e⟩:=h;exact⟨⟨a,b,c,d⟩,λf hf=>e f hf⟩
theorem az(h:∀n∈Li,nsIn K mainGlobals n=some none\/∃C,nsIn K mainGlobals n=some (some (.ref C))/\Lh K C=true):CM K:=λn hn C e=>by
 rcases h n hn with q|⟨C',q,b⟩
 .rw[e] at q;cases q
 .rw[e] at q;cases q;exact Vl b
noncomputable def KC(K:gd)(C:gg):Bool:=makesIn K C&&keepIn K (.ref C)
theorem PQ{f:gg}(h:KC K C=true)(i:findIn K (.ref C) "__init__" = some (some (.ref f)))(hf:isFn K (.ref f)=true):Mk K C f:=by
 unfold KC at h;simp only[uh0] at h;exact⟨h.1,i,hf,h.2⟩
noncomputable def byB(K:gd)(C:gg)(m:Str):Bool:=specialIn K (.ref C) "__getattribute__" == some (some (.builtin "type.__getattribute__"))&&readsIn K C (.type "type")&&match findCls K (.ref C) (.type "type") m,findIn K (.ref C) m with|some (.val (.ref g)),some (some (.ref f))=>g==f|_,_=>false
theorem ay{f:gg}{m:Str}(h:byB K C m=true)(i:findIn K (.ref C) m=some (some (.ref f)))(k:keepIn K (.ref f)=true):ByCls K C m f:=by
 unfold byB at h;simp only[uh0,kl] at h;obtain⟨⟨a,b⟩,c⟩:=h;refine⟨a,b,?_,k⟩;rw[i] at c
 split at c
 .next g f' e1 e2=>
  cases e2
  rw[e1];exact c
 .cases c
end
section
variable{K:gd}
def LG:D->Option Int->Option Int->M D
 |.obj k,lo,hi=>λt=>match t.S[k]? with
   |some (.lst ds)=>some (.lst (B3 ds lo hi),t)
   |_=>none
 |x,lo,hi=>Gv x lo hi
theorem Uo:Pj K (Uh K) LG:=λ{Oo c t σ H x dx r lo hi t' Q} f rx eq k=>by
 unfold LG at eq
 split at eq
 .next kk=>
  cases rx with
  |@obj a kk h1=>
    split at eq
    .next ds es=>
     cases eq
     clear 5(f.s.obs kk a _ h1 es)vs g1 g2;exact .inl (.inl ⟨a,vs,rfl,SqL.of g1,λq hq=>k _ _ c (f.laid hq) (f.stp_laid hq) (.lst Bf (f.s.free hq) ((Fq g2 lo hi).mono (Ext.laid f.s hq)))⟩)
    .cases eq
 .exact O3 f rx eq k
end
abbrev Gd:=Option (Nat×List D)
def Gon(g:Gd)(S:List Ob):Prop:=∀k xs,g=some (k,xs)->S[k]?=some (.lst xs)
structure ItOk3(K:gd)(J:It)(g:Gd)(c:Cf)(H:Hp)(ds:List D):Prop where
 go:∀c' H' S' (i:Nat),Ext c H c' H'->SInv K c' S' H'->Gon g S'->i<ds.length->J.go i H'
 yld:∀c' H' S' (i:Nat) x H'' d,Ext c H c' H'->SInv K c' S' H'->Gon g S'->ds[i]?=some d->J.yld i H' x H''->∃p vs es,x=.ref p/\H' p=none/\H''=upd H' p (.tup vs)/\d=.tup es/\Reps K c' H' vs es
 stop:∀c' H' S',Ext c H c' H'->SInv K c' S' H'->Gon g S'->J.stop ds.length H'
inductive RI3(K:gd)(f:M (Gd×List D))(σ:L2.St)(H:Hp)(R:It->Hp->Prop):Prop where
 |mk (Oo:gg->Prop) (c:Cf) (t:T) (fi:FInv K Oo c t σ H) (p:Gd×List D) (t':T) (e:f t=some (p,t')) (k:∀J H' c',FInv K Oo c' t' σ H'->Stp Oo c H c' H'->ItOk3 K J p.1 c' H' p.2->R J H'):RI3 K f σ H R
section
variable{X:Cx}{e a b tg iter elt:Expr}{ifs:List Expr}{pos:Pos}{scope:Scope}{N':List Str}{n:Nat}{fr:List Nat}{st:D->M Unit}{tst:M Bool}{el:M D}
end
structure ItOkG(K:gd)(J:It)(g:Gd)(c:Cf)(H:Hp)(ds:List D):Prop where
 go:∀c' H' S' (i:Nat),Ext c H c' H'->SInv K c' S' H'->Gon g S'->i<ds.length->J.go i H'
 yld:∀c' H' S' (i:Nat) x H'' d,Ext c H c' H'->SInv K c' S' H'->Gon g S'->ds[i]?=some d->J.yld i H' x H''->H''=H'/\Rep K c' H' x d
 stop:∀c' H' S',Ext c H c' H'->SInv K c' S' H'->Gon g S'->J.stop ds.length H'
section
variable{X:Cx}{e a b tg iter elt:Expr}{ifs:List Expr}{pos:Pos}{scope:Scope}{N':List Str}{n:Nat}{fr:List Nat}{st:D->M Unit}{tst:M Bool}{el:M D}
end
def fG:List D->M D
 |[d,.tup [.ty m1,.ty m2]]=>λt=>match d with
   |.obj k=>match t.S[k]? with
     |some (.lst _)=>match Gg "list" m1,Gg "list" m2 with
       |some b1,some b2=>some (.bl (b1||b2),t)
       |_,_=>none
     |_=>none
   |d=>match tyD d with
     |some n=>match Gg n m1,Gg n m2 with
       |some b1,some b2=>some (.bl (b1||b2),t)
       |_,_=>none
     |none=>none
 |_=>fail
section
variable{X:Cx}{k:Nat}{f l I S:gg}{fd:gk}{ps:List Str}{sp:Sp}{ge:List (gg×Obj)}{σ:St}{H:Hp}{s:gh}{Q:VK}{oS oI oS' oI':Obj}{h':Heap}{t':Nat}
end
section
variable{K:gd}{g:Fn}
end
section
variable{X:Cx}{e:Expr}{pos:Pos}
def slF:D->Option Int->Option Int->M (List D)
 |.lst ds,lo,hi=>ret (B3 ds lo hi)
 |.scr ns,lo,hi=>ret ((B3 ns lo hi).map .int)
 |.obj k,lo,hi=>λt=>match t.S[k]? with
   |some (.lst ds)=>some (B3 ds lo hi,t)
   |_=>none
 |_,_,_=>fail
def Pu(f:M D)(l u:M (Option Int)):M (List D):=bnd f λd=>bnd l λa=>bnd u λb=>slF d a b
theorem Tl{f:M D}{l u:M (Option Int)}{lo hi:Option Expr}{p2:Pos}(he:PE X e (RE X.K f))(hl:PO X lo (RO X.K l))(hu:PO X hi (RO X.K u)):PE X (.Subscript e (.Slice lo hi none p2) pos) (RF X.K (Pu f l u)):=
 A4 (NF sl2 he hl hu) λσ H Q z9=>by
  clear 5 z9 Oo c t fi r t' eq k;clear 5(Ai eq)d t1 e1 eq;clear 5(Ai eq)ol t2 e2 eq;clear 5(Ai eq)oh t3 e3 eq;refine⟨Oo,c,t,fi,d,t1,e1,λv H1 c1 f1 s1 rv=>⟨Oo,c1,t1,f1,ol,t2,e2,λH2 c2 f2 s2=>⟨Oo,c2,t2,f2,oh,t3,e3,λH3 c3 f3 s3=>?_⟩⟩⟩;have rv3:=rv.mono (s2.trans s3).ext;have st:=(s1.trans s2).trans s3
  cases rv3 with
  |@lst p vs ds h1 h2 h3=>
    cases eq
    exact .inl ⟨p,vs,rfl,SqL.of h1,λq hq=>k q _ _ c3 f3 st (Fq h3 ol oh) hq⟩
  |@scr p ns h1=>
    cases eq
    refine .inl ⟨p,_,rfl,h1.sq,λq hq=>k q _ _ c3 f3 st ?_ hq⟩;rw[LV];exact Reps.ints _
  |@obj a kk h1=>
    unfold slF at eq;dsimp only at eq
    split at eq
    .next ds es=>
     cases eq
     clear 5(f3.s.obs kk a _ h1 es)vs g1 g2;exact .inl ⟨a,vs,rfl,SqL.of g1,λq hq=>k q _ _ c3 f3 st (Fq g2 ol oh) hq⟩
    .cases eq
  |_=>cases eq
end
section
variable{X:Cx}{e elt tg iter:Expr}{pos:Pos}{scope:Scope}{N':List Str}{ifs:List Expr}{n:Nat}{fr:List Nat}{f:M (List D)}{st:D->M Unit}{tst:M Bool}{el:M D}
end
section
variable{X:Cx}{e:Expr}
end
section
variable{X:Cx}{e el eu ek:Expr}{p2 pos:Pos}{te:TE}{tl tu tk:TO}
end
section
variable{X:Cx}{elt tg iter:Expr}{pos:Pos}{scope:Scope}{N':List Str}{ifs:List Expr}{n:Nat}{fr:List Nat}{st:D->M Unit}{tst:M Bool}{el:M D}
end
abbrev EnO(h:Heap)(e it:gg)(i:Int)(x:gf)(a:gg)(q:Bool):Prop:=h.get? e=some {cls:=.type "enumerate",dict:=none,data:=.fields #[rawInt a,.bool q,.ref it,rawInt i,.none,x],slots:=#[]}
section
variable{prog:gi}{w:gj}{A:Around}{E:gf->gh->Prop}{s:gh}
end
inductive EnS(h:Heap)(e it:gg)(i:Nat):Prop where
 |new (old:gf) (z:i=0) (h1:IsEnum h e it i old)
 |out (old:gf) (a0:gg) (q:Bool) (h1:EnO h e it i old a0 q)
section
variable{A:Around}{s:gh}
end
end L2
namespace PySem
open Sem (wp)
section
variable{prog:gi}{w:gj}{A:Around}{E:gf->gh->Prop}{s:gh}
end
end PySem
namespace L2
open PySem PySem.Spec PyProof.Rows
section
variable{X:Cx}{e:Expr}{ta:TA}{p p2 pos2 pos:Pos}
end
section
variable{X:Cx}{K:gd}{e:Expr}{p p2 pos2 pos:Pos}
end
section
variable{X:Cx}{a b:Expr}{pos:Pos}{f:M Bool}{u v:M D}
end
section
variable{X:Cx}{a b:Expr}{pos:Pos}
def NE(i j:Nat)(f:M (List D)):M Out:=bnd f λds t=>match ds with
 |[d,e]=>some (.next,{t with env:=(t.env.set i (some (.val d))).set j (some (.val e))})
 |_=>none
theorem Yr{μ:Cf->Hp->D->(V->Hp->Prop)->Prop}{i j:Nat}{x y:Str}{f:M (List D)}{px py pt:Pos}{kt k2 pt2}(hc:X.calm=true)(hN:X.N.Nodup)(hi:X.N[i]?=some x)(hj:X.N[j]?=some y)(hij:i≠j)
 (hx:X.env.scope.names.lookup x=some .local) (hy:X.env.scope.names.lookup y=some .local) (ha:PA X [a,b] (RA X.K f))
 (hw:swappedStores [.Tuple [.Name x px,.Name y py] kt pt] (.Tuple [a,b] k2 pt2) X.env=pure (some [x,y]))
 (hs:swapsWithSole [.Tuple [.Name x px,.Name y py] kt pt] (.Tuple [a,b] k2 pt2) pos.line X.env=pure false:=by rfl) :
 PS X (.Assign [.Tuple [.Name x px,.Name y py] kt pt] (.Tuple [a,b] k2 pt2) pos) (RSg X.K μ (NE i j f)):=
 Bt (Zt hc hN hi hj hij hx hy ha hw hs) λE σ H z9=>by
  clear 5 z9 Oo c t fi o t' eq k;clear 5(Ai eq)ds t1 e1 eq
  match ds,e1,eq with
  |[d,e],e1,eq=>
    cases eq
    refine⟨Oo,c,t,fi,[d,e],t1,e1,λvs H1 c1 f1 s1 rv=>?_⟩
    cases rv with
    |cons r1 r2=>
      cases r2 with
      |cons r2 r3=>
        cases r3
        exact⟨_,_,rfl,k _ H1 c1 ((f1.set r1).set r2) s1⟩
end
abbrev vw(d:L2.D):Option L2.Sl:=some (.val d)
abbrev gb(i:Int):L2.M L2.D:=L2.fC (.int i)
end L2
namespace LW
open PySem L2
def GV:M Out:=
 (An (Dp (fB (Ab (Aa 0) (Ab (fC (.ty "int")) Ad)) C6) (Ja (fB (Ab (Aa 0) (Ab (fC (.ty "bool")) Ad)) C6))))
def D2(MV:Fn):M Out:=
 (An (Dp (Am MV (Ab (Aa 0) Ad)) (FA (Aa 1) (Aa 0) (Aa 2) leA leA)))
def No(Ld MT MS MU B7:Fn):M Out:=
 (Ah (Ax 2 (Ac (Aa 0) (gb 0) ixD))
 (Ah (ifS (Ao (Ac (Aa 2) (fC (.str "nothing")) (eqS id)))
   (An (Ac (Aa 1) (fC .non) isC))
   Aq)
 (Ah (ifS (Ao (Ac (Aa 2) (fC (.str "number")) (eqS id)))
   (An (Am B7 (Ab (Aa 1) (Ab (Ac (Aa 0) (gb 1) ixD) (Ab (Ac (Aa 0) (gb 2) ixD) Ad)))))
   Aq)
 (Ah (ifS (Ao (Ac (Aa 2) (fC (.str "text")) (eqS id)))
   (An (Am MU (Ab (Aa 0) (Ab (Aa 1) Ad))))
   Aq)
 (Ah (ifS (Ao (Ac (Aa 2) (fC (.str "list")) (eqS id)))
   (An (Am MS (Ab (Aa 0) (Ab (Aa 1) Ad))))
   Aq)
 (Ah (ifS (Ao (Ac (Aa 2) (fC (.str "pair")) (eqS id)))
   (An (Am MT (Ab (Aa 0) (Ab (Aa 1) Ad))))
   Aq)
 (An (Am Ld (Ab (Aa 0) (Ab (Aa 1) Ad))))))))))
def GU(Ho:Fn):M Out:=
 (Ah (ifS (fOr (CD (Ao (fB (Ab (Aa 1) (Ab (fC (.ty "str")) Ad)) C6))) (Ao (Ac (fB (Ab (Aa 1) Ad) A6) (Ac (Aa 0) (gb 1) ixD) gtA)))
   (An (fC (.bl false)))
   Aq)
 (Ah (Cn (Ey (Aa 1)) (AS 2)
   (ifS (CD (Ao (Am Ho (Ab (fB (Ab (Aa 2) Ad) JU) Ad))))
   (An (fC (.bl false)))
   Aq))
 (An (fC (.bl true)))))
def ID:M Out:=
 (An (Dp (FA (gb 32) (Aa 0) (gb 126) leA leA) (Ac (Aa 0) (gb 37) (eqS λb=>!b))))
def GQ(EI:Fn):M Out:=
 (Ah (ifS (fOr (CD (Ao (fB (Ab (Aa 1) (Ab (fC (.ty "list")) Ad)) C6))) (Ao (Ac (fB (Ab (Aa 1) Ad) A6) (Ac (Aa 0) (gb 2) ixD) gtA)))
   (An (fC (.bl false)))
   Aq)
 (Ah (Cn (Ey (Aa 1)) (AS 2)
   (ifS (CD (Ao (Am EI (Ab (Ac (Aa 0) (gb 1) ixD) (Ab (Aa 2) Ad)))))
   (An (fC (.bl false)))
   Aq))
 (An (fC (.bl true)))))
def GR(EI:Fn):M Out:=
 (Ah (ifS (fOr (CD (Ao (fB (Ab (Aa 1) (Ab (fC (.ty "tuple")) Ad)) C6))) (Ao (Ac (fB (Ab (Aa 1) Ad) A6) (gb 2) (eqS λb=>!b))))
   (An (fC (.bl false)))
   Aq)
 (An (Dp (Am EI (Ab (Ac (Aa 0) (gb 1) ixD) (Ab (Ac (Aa 1) (gb 0) ixD) Ad))) (Am EI (Ab (Ac (Aa 0) (gb 2) ixD) (Ab (Ac (Aa 1) (gb 1) ixD) Ad))))))
def FO(EI B7:Fn):M Out:=
 (Ah (ifS (fOr (CD (Ao (fB (Ab (Aa 1) (Ab (fC (.ty "tuple")) Ad)) C6))) (Ao (Ac (fB (Ab (Aa 1) Ad) A6) (gb 3) (eqS λb=>!b))))
   (An (fC (.bl false)))
   Aq)
 (Ah (ifS (fOr (CD (Ao (fB (Ab (Ac (Aa 1) (gb 0) ixD) (Ab (fC (.ty "str")) Ad)) C6))) (Ao (Ac (Ac (Aa 1) (gb 0) ixD) (fC (.str "of")) (eqS λb=>!b))))
   (An (fC (.bl false)))
   Aq)
 (Ah (ifS (CD (Ao (Am B7 (Ab (Ac (Aa 1) (gb 1) ixD) (Ab (gb 0) (Ab (Ac (fB (Ab (Ac (Aa 0) (gb 1) ixD) Ad) A6) (gb 1) DH) Ad))))))
   (An (fC (.bl false)))
   Aq)
 (An (Am EI (Ab (Ac (Ac (Aa 0) (gb 1) ixD) (Ac (Aa 1) (gb 1) ixD) ixD) (Ab (Ac (Aa 1) (gb 2) ixD) Ad)))))))
def Fk(DJ GM:Fn):M Out:=
 (Ah (Ax 2 (Am GM (Ab (Aa 0) (Ab (Aa 1) Ad))))
 (Ah (ifS (Ao (Ac (fB (Ab (Aa 2) Ad) A6) (gb 0) (eqS id)))
   (An (gb 0))
   Aq)
 (An (Am DJ (Ab (Aa 0) (Ab (Ac (Aa 2) (fUn (gb 1) Nx) ixD) Ad))))))
def HB(DJ FH:Fn):M Out:=
 (Ah (Ax 2 (gb 0))
 (Ah (Fm 3 (Bn Ad))
 (Ah (Cn (Da (Ab (fB (Ab (Aa 1) Ad) A6) Ad)) (AS 4)
   (Ah (Ax 5 (Am FH (Ab (Ac (Aa 0) (Aa 2) ixD) (Ab (Ac (Aa 1) (Aa 4) ixD) Ad))))
 (Ah (ifS (Ao (Ac (Aa 5) (fC .non) isC))
   fail
   Aq)
 (Ah (Ax 6 (AT (Ab (Aa 2) (Ab (Aa 5) Ad))))
 (Ah (ownM 3 Do (Ab (Aa 6) Ad))
 (Ax 2 (Am DJ (Ab (Aa 0) (Ab (Aa 6) Ad)))))))))
 (An (Aa 3)))))
def Go:M Out:=
 (An (Ac (Ac (Ac (Ac (Aa 0) (Ac (Aa 1) (gb 0) ixD) ixD) (gb 1) ixD) (Ac (Aa 1) (gb 1) ixD) ixD) (gb 2) ixD))
def Gm(EI Le:Fn):M Out:=
 (Ah (ifS (fOr (CD (Ao (fB (Ab (Aa 1) (Ab (fC (.ty "tuple")) Ad)) C6))) (Ao (Ac (fB (Ab (Aa 1) Ad) A6) (gb 3) (eqS λb=>!b))))
   (An (fC .non))
   Aq)
 (Ah (ifS (fOr (CD (Ao (fB (Ab (Ac (Aa 1) (gb 0) ixD) (Ab (fC (.ty "str")) Ad)) C6))) (Ao (Ac (Ac (Aa 1) (gb 0) ixD) (Ac (Aa 0) (gb 0) ixD) (eqS λb=>!b))))
   (An (fC .non))
   Aq)
 (Ah (Ax 2 (Am Le (Ab (Aa 0) (Ab (Ac (Aa 1) (gb 1) ixD) Ad))))
 (Ah (ifS (fOr (Ao (Ac (Aa 2) (fC .non) isC)) (CD (Ao (Am EI (Ab (Ac (Ac (Ac (Aa 0) (gb 1) ixD) (Aa 2) ixD) (gb 1) ixD) (Ab (Ac (Aa 1) (gb 2) ixD) Ad))))))
   (An (fC .non))
   Aq)
 (An (Aa 2))))))
def FP(Oc:Fn):M Out:=
 (Ah (ifS (CD (Ao (fB (Ab (Aa 1) (Ab (fC (.ty "str")) Ad)) C6)))
   (An (fC .non))
   Aq)
 (Ah (Ax 2 (Am Oc (Ab (Aa 0) Ad)))
 (Ah (Cn (Da (Ab (fB (Ab (Aa 2) Ad) A6) Ad)) (AS 3)
   (ifS (Ao (Ac (Ac (Ac (Aa 2) (Aa 3) ixD) (gb 0) ixD) (Aa 1) (eqS id)))
   (An (Aa 3))
   Aq))
 (An (fC .non)))))
def HD(DU:Fn):M Out:=
 (An (fIf (Ao (Am DU (Ab (Aa 0) Ad))) (AT Ad) (Ac (Aa 0) (gb 1) ixD)))
def JO:M Out:=
 (An (Ac (Ac (Aa 0) (gb 0) ixD) (fC (.str "end")) (eqS id)))
def HA(ET DU:Fn):M Out:=
 (An (Am DU (Ab (Ac (Aa 0) (Am ET (Ab (Aa 0) (Ab (Aa 1) Ad))) ixD) Ad)))
def E1(B9 Fb Kj:Fn):M Out:=
 (Ah (Ax 2 (Ac (Aa 0) (gb 0) ixD))
 (Ah (ifS (Ao (Ac (Aa 2) (fC (.str "nothing")) (eqS id)))
   (HI (Bn Ad))
   Aq)
 (Ah (ifS (Ao (Ac (Aa 2) (fC (.str "number")) (eqS id)))
   (HI (Eo Kj (Ab (Ac (Aa 1) (Ac (Aa 0) (gb 1) ixD) DH) (Ab (Am Fb (Ab (Ac (Ac (Aa 0) (gb 2) ixD) (Ac (Aa 0) (gb 1) ixD) DH) Ad)) Ad))))
   Aq)
 (Ah (ifS (Ao (Ac (Aa 2) (fC (.str "text")) (eqS id)))
   (HI (bnd (AK (Bn (Ab (fB (Ab (Aa 1) Ad) A6) Ad))) λx=>bnd (AK (CO 1 [] (Ey (Aa 1)) (AS 0) JV (fB (Ab (Aa 0) Ad) JU))) λy=>JK x y))
   Aq)
 (Ah (ifS (Ao (Ac (Aa 2) (fC (.str "list")) (eqS id)))
   (Ah (Fm 3 (Bn (Ab (fB (Ab (Aa 1) Ad) A6) Ad)))
 (Ah (Cn (Ey (Aa 1)) (AS 4)
   (ownM 3 Eg (Ab (AK (Eo B9 (Ab (Ac (Aa 0) (gb 1) ixD) (Ab (Aa 4) Ad)))) Ad)))
 (Hd 3)))
   Aq)
 (Ah (ifS (Ao (Ac (Aa 2) (fC (.str "pair")) (eqS id)))
   (HI (bnd (AK (Eo B9 (Ab (Ac (Aa 0) (gb 1) ixD) (Ab (Ac (Aa 1) (gb 0) ixD) Ad)))) λx=>bnd (AK (Eo B9 (Ab (Ac (Aa 0) (gb 2) ixD) (Ab (Ac (Aa 1) (gb 1) ixD) Ad)))) λy=>JK x y))
   Aq)
 (HI (bnd (AK (Bn (Ab (Ac (Aa 1) (gb 1) ixD) Ad))) λx=>bnd (AK (Eo B9 (Ab (Ac (Ac (Aa 0) (gb 1) ixD) (Ac (Aa 1) (gb 1) ixD) ixD) (Ab (Ac (Aa 1) (gb 2) ixD) Ad)))) λy=>JK x y))))))))
def FQ:M Out:=
 (An (Ac (Ac (fUn (Aa 0) Ke) (gb 7) A7) (gb 8) BQ))
def Fj(Hq:Fn):M Out:=
 (HI (CO 1 [0,1] (GC (Ab (gb 1) (Ab (Ac (Aa 1) (gb 1) A7) Ad))) (AS 0) JV (Ac (Am Hq (Ab (Aa 1) (Ab (Ac (Aa 2) (Aa 0) DH) Ad))) (gb 256) B5)))
def IF:M Out:=
 (An (Ac (Aa 0) (Ac (gb 8) (Aa 1) CH) NU))
def DQ(Lf MX MW MY Lg:Fn):M Out:=
 (Ah (Ax 3 (Ac (Aa 0) (gb 0) ixD))
 (Ah (ifS (Ao (Ac (Aa 3) (fC (.str "nothing")) (eqS id)))
   (An (nxD (AT (Ab (fC .non) (Ab (Aa 2) Ad)))))
   Aq)
 (Ah (ifS (Ao (Ac (Aa 3) (fC (.str "number")) (eqS id)))
   (An (Am Lg (Ab (Aa 0) (Ab (Aa 1) (Ab (Aa 2) Ad)))))
   Aq)
 (Ah (ifS (Ao (Ac (Aa 3) (fC (.str "text")) (eqS id)))
   (An (Am MY (Ab (Aa 0) (Ab (Aa 1) (Ab (Aa 2) Ad)))))
   Aq)
 (Ah (ifS (Ao (Ac (Aa 3) (fC (.str "list")) (eqS id)))
   (An (Am MW (Ab (Aa 0) (Ab (Aa 1) (Ab (Aa 2) Ad)))))
   Aq)
 (Ah (ifS (Ao (Ac (Aa 3) (fC (.str "pair")) (eqS id)))
   (An (Am MX (Ab (Aa 0) (Ab (Aa 1) (Ab (Aa 2) Ad)))))
   Aq)
 (An (Am Lf (Ab (Aa 0) (Ab (Aa 1) (Ab (Aa 2) Ad)))))))))))
def Gj:M Out:=
 (Ah (ifS (Ao (Ac (Aa 1) (fB (Ab (Aa 0) Ad) A6) geA))
   (IQ "Short" (Ab (fC (.str "the bytes end within a value")) Ad))
   Aq)
 (An (nxD (Ac (Aa 0) (Aa 1) ixD))))
def Eb(Po DI:Fn):M Out:=
 (Ah (El 3 (Am DI (Ab (Ac (Aa 0) (gb 1) ixD) (Ab (Aa 1) (Ab (Aa 2) Ad)))))
 (Ah (Ax 4 (Ac (Aa 2) (gb 1) A7))
 (Ah (Ax 5 (fC (.str "")))
 (Ah (Cn (Da (Ab (Aa 3) Ad)) (AS 6)
   (El 5 (I9 (Aa 5) (Am Po (Ab (Aa 1) (Ab (Ac (Aa 4) (Aa 6) A7) Ad))) A7)))
 (An (nxD (AT (Ab (Aa 5) (Ab (Ac (Aa 4) (Aa 3) A7) Ad)))))))))
def D9(BX DI:Fn):M Out:=
 (Ah (El 3 (Am DI (Ab (Ac (Aa 0) (gb 2) ixD) (Ab (Aa 1) (Ab (Aa 2) Ad)))))
 (Ah (Ax 4 (Ac (Aa 2) (gb 1) A7))
 (Ah (Fm 5 (Bn Ad))
 (Ah (Cn (Da (Ab (Aa 3) Ad)) (AS 6)
   (Ah (El 7 (Am BX (Ab (Ac (Aa 0) (gb 1) ixD) (Ab (Aa 1) (Ab (Aa 4) Ad)))))
 (Ah (ownM 5 Do (Ab (Ac (Aa 7) (gb 0) ixD) Ad))
 (Ax 4 (Ac (Aa 7) (gb 1) ixD)))))
 (An (nxD (AT (Ab (Aa 5) (Ab (Aa 4) Ad)))))))))
def Ea(BX:Fn):M Out:=
 (Ah (El 3 (Am BX (Ab (Ac (Aa 0) (gb 1) ixD) (Ab (Aa 1) (Ab (Aa 2) Ad)))))
 (Ah (El 4 (Am BX (Ab (Ac (Aa 0) (gb 2) ixD) (Ab (Aa 1) (Ab (Ac (Aa 3) (gb 1) ixD) Ad)))))
 (An (nxD (AT (Ab (AT (Ab (Ac (Aa 3) (gb 0) ixD) (Ab (Ac (Aa 4) (gb 0) ixD) Ad))) (Ab (Ac (Aa 4) (gb 1) ixD) Ad)))))))
def Dz(BX DI:Fn):M Out:=
 (Ah (El 3 (Am DI (Ab (Ac (fB (Ab (Ac (Aa 0) (gb 1) ixD) Ad) A6) (gb 1) DH) (Ab (Aa 1) (Ab (Aa 2) Ad)))))
 (Ah (El 4 (Am BX (Ab (Ac (Ac (Aa 0) (gb 1) ixD) (Aa 3) ixD) (Ab (Aa 1) (Ab (Ac (Aa 2) (gb 1) A7) Ad)))))
 (An (nxD (AT (Ab (AT (Ab (fC (.str "of")) (Ab (Aa 3) (Ab (Ac (Aa 4) (gb 0) ixD) Ad)))) (Ab (Ac (Aa 4) (gb 1) ixD) Ad)))))))
def HC(Ex GM:Fn):M Out:=
 (Ah (Ax 2 (EU [("left",(FI (Bn Ad))),("right",(FI (Bn Ad)))]))
 (Ah (Ax 3 (Am GM (Ab (Aa 0) (Ab (Aa 1) Ad))))
 (Ah (Cn (Da (Ab (fB (Ab (Aa 3) Ad) A6) Ad)) (AS 4)
   (Ah (Ax 5 (Ac (Aa 0) (Ac (Ac (Aa 3) (Aa 4) ixD) (gb 0) ixD) ixD))
 (D8 (objM Eg (Ac (Aa 2) (Ac (Aa 5) (gb 0) ixD) Bh) (Ab (Am Ex (Ab (Aa 5) (Ab (Ac (Ac (Aa 3) (Aa 4) ixD) (gb 1) ixD) (Ab (Ac (Ac (Aa 1) (Aa 4) ixD) (gb 2) ixD) Ad)))) Ad)))))
 (An (AT (Ab (Ac (Aa 2) (fC (.str "left")) Bh) (Ab (Ac (Aa 2) (fC (.str "right")) Bh) Ad)))))))
def E2(B9:Fn):M Out:=
 (An (Ac (AK (Bn (Ab (Aa 1) Ad))) (AK (Eo B9 (Ab (Ac (Ac (Ac (Aa 0) (gb 1) ixD) (Aa 1) ixD) (gb 1) ixD) (Ab (Aa 2) Ad)))) A7))
def Fi(DU:Fn):M Out:=
 (An (AK (CO 1 [] (Ey (Aa 0)) (AS 0) JV (fIf (Ao (Am DU (Ab (Aa 0) Ad))) (Aa 0) (AT (Ab (Ac (Aa 0) (gb 0) ixD) (Ab (AK (fBF (Ab (Ac (Aa 0) (gb 1) ixD) Ad) Dg)) Ad)))))))
def CU(Ki:Fn):M Out:=
 (Ah (CY "grammar" (Am Ki (Ab (Aa 1) Ad)) (Aa 0))
 (Ah (CY "standing" (gb 0) (Aa 0))
 (Ah (CY "wires" (FB []) (Aa 0))
 (Ah (CY "places" (FB []) (Aa 0))
 (Cn (Ey (Aa 2)) (AS 3)
   (Ah (Dc (FI (Bn Ad)) (GJ (Br "wires" (Aa 0)) (Aa 3)))
 (Dc (gb 0) (GJ (Br "places" (Aa 0)) (Aa 3)))))))))
def Bl:M Out:=
 (An (Br "standing" (Aa 0)))
def Ch:M Out:=
 (An (Ac (fB (Ab (Ac (Br "wires" (Aa 0)) (Aa 1) Bh) Ad) A6) (Ac (Br "places" (Aa 0)) (Aa 1) Bh) DH))
def EX(DS:Fn):M Out:=
 (D8 (Am DS (Ab (Aa 0) (Ab (Aa 1) (Ab (AT (Ab (fC (.str "left")) (Ab (fC (.str "right")) Ad))) Ad)))))
def FK(Fa:Fn):M Out:=
 (An (AF "Reader" Fa (Aa 0) (Ab (Aa 1) (Ab (Aa 2) Ad))))
def TN:M Out:=
 (KY (Ao (fC (.bl true)))
   Aq)
def Gk:M Out:=
 (An (fIf (Ao (Ac (Aa 0) (fC (.str "left")) (eqS id))) (fC (.str "right")) (fC (.str "left"))))
def FL(BA DS:Fn):M Out:=
 (Ah (D8 (Am DS (Ab (Aa 0) (Ab (Aa 1) (Ab (AT (Ab (Am BA (Ab (Aa 2) Ad)) Ad)) Ad)))))
 (CY "side" (Aa 2) (Aa 0)))
def FM(Mf:Fn):M Out:=
 (An (AF "Side" Mf (Aa 0) (Ab (Aa 1) (Ab (Aa 2) Ad))))
def Fh(Lc:Fn):M Out:=
 (An (AF "Side" Lc (Aa 0) (Ab (Aa 1) Ad)))
def DO:M Out:=
 (Ah (ifS (Ao (Ac (Aa 1) (fB (Ab (Aa 0) Ad) A6) ltA))
   (An (Ac (Aa 0) (Aa 1) ixD))
   Aq)
 (An (Ac (Ac (Ac (Ac (gb 23) (Aa 1) CH) (Aa 1) CH) (Ac (gb 13) (Aa 1) CH) A7) (gb 5) A7)))
def FN:M Out:=
 (Ah (Ax 2 (Ac (Ac (Ac (Ac (Ac (Aa 0) (gb 48271) CH) (Ac (Ac (gb 7919) (Aa 1) CH) (Aa 1) CH) A7) (Ac (gb 104729) (Aa 1) CH) A7) (gb 11) A7) (gb 2147483647) B5))
 (Ah (Ax 2 (Ac (Ac (Aa 2) (Aa 2) CH) (gb 2147483629) B5))
 (An (Ac (Ac (Ac (Aa 2) (Aa 2) CH) (Ac (Aa 2) (gb 1000003) CH) A7) (Aa 0) A7))))
def Cu(Ev:Fn):M Out:=
 (Ah (Ax 2 (Ac (Aa 0) (gb 7) B5))
 (Ah (Ax 0 (Ac (Aa 0) (gb 7) BQ))
 (Ah (ifS (fOr (Ao (Ac (Aa 2) (gb 2) ltA)) (Ao (Ac (Aa 1) (gb 0) (eqS id))))
   (Ah (Ax 3 (Ac (Ac (Aa 0) (gb 9) B5) (gb 4) DH))
 (An (AK (Bn (Ab (AT (Ab (fC (.str "number")) (Ab (Aa 3) (Ab (Ac (Aa 3) (Ac (AK (Bn (Ab (gb 0) (Ab (gb 1) (Ab (gb 255) (Ab (gb 256) (Ab (gb 300) (Ab (gb 70000) Ad)))))))) (Ac (Ac (Aa 0) (gb 9) BQ) (gb 6) B5) ixD) A7) Ad)))) (Ab (Ac (Aa 0) (gb 54) BQ) Ad))))))
   Aq)
 (Ah (ifS (Ao (Ac (Aa 2) (gb 2) (eqS id)))
   (An (AK (Bn (Ab (AT (Ab (fC (.str "nothing")) Ad)) (Ab (Aa 0) Ad)))))
   Aq)
 (Ah (ifS (Ao (Ac (Aa 2) (gb 3) (eqS id)))
   (An (AK (Bn (Ab (AT (Ab (fC (.str "text")) (Ab (Ac (Aa 0) (gb 4) B5) Ad))) (Ab (Ac (Aa 0) (gb 4) BQ) Ad)))))
   Aq)
 (Ah (Dc (Am Ev (Ab (Aa 0) (Ab (Ac (Aa 1) (gb 1) DH) Ad))) (unS 2 (A8 (AS 4) (A8 (AS 0) CW))))
 (Ah (ifS (Ao (Ac (Aa 2) (gb 4) (eqS id)))
   (An (AK (Bn (Ab (AT (Ab (fC (.str "list")) (Ab (Aa 4) (Ab (Ac (Aa 0) (gb 4) B5) Ad)))) (Ab (Ac (Aa 0) (gb 4) BQ) Ad)))))
   Aq)
 (Ah (Dc (Am Ev (Ab (Aa 0) (Ab (Ac (Aa 1) (gb 1) DH) Ad))) (unS 2 (A8 (AS 5) (A8 (AS 0) CW))))
 (Ah (ifS (Ao (Ac (Aa 2) (gb 5) (eqS id)))
   (An (AK (Bn (Ab (AT (Ab (fC (.str "pair")) (Ab (Aa 4) (Ab (Aa 5) Ad)))) (Ab (Aa 0) Ad)))))
   Aq)
 (An (AK (Bn (Ab (AT (Ab (fC (.str "choice")) (Ab (AT (Ab (Aa 4) (Ab (Aa 5) Ad))) Ad))) (Ab (Aa 0) Ad))))))))))))))
def EB(CI:Fn):M Out:=
 (Ah (Ax 2 (Ac (Aa 0) (gb 0) ixD))
 (Ah (ifS (Ao (Ac (Aa 2) (fC (.str "nothing")) (eqS id)))
   (An (AK (Bn (Ab (fC .non) (Ab (Aa 1) Ad)))))
   Aq)
 (Ah (ifS (Ao (Ac (Aa 2) (fC (.str "number")) (eqS id)))
   (Ah (Ax 3 (Ac (Ac (Ac (Aa 0) (gb 2) ixD) (Ac (Aa 0) (gb 1) ixD) DH) (gb 1) A7))
 (An (AK (Bn (Ab (Ac (Ac (Aa 0) (gb 1) ixD) (Ac (Aa 1) (Aa 3) B5) A7) (Ab (Ac (Aa 1) (Aa 3) BQ) Ad))))))
   Aq)
 (Ah (ifS (Ao (Ac (Aa 2) (fC (.str "text")) (eqS id)))
   (Ah (Ax 4 (Ac (Aa 1) (Ac (Ac (Aa 0) (gb 1) ixD) (gb 1) A7) B5))
 (Ah (Ax 5 (Ac (Ac (fC (.str " az~Q0")) (Ac (Ac (Aa 1) (gb 7) BQ) (gb 6) B5) ixD) (Aa 4) CH))
 (An (AK (Bn (Ab (Aa 5) (Ab (Ac (Ac (Aa 1) (gb 7) BQ) (Ac (Ac (Aa 0) (gb 1) ixD) (gb 1) A7) BQ) Ad)))))))
   Aq)
 (Ah (ifS (Ao (Ac (Aa 2) (fC (.str "list")) (eqS id)))
   (Ah (Ax 4 (Ac (Aa 1) (Ac (Ac (Aa 0) (gb 2) ixD) (gb 1) A7) B5))
 (Ah (Ax 1 (Ac (Aa 1) (Ac (Ac (Aa 0) (gb 2) ixD) (gb 1) A7) BQ))
 (Ah (Fm 6 (Bn Ad))
 (Ah (Cn (Da (Ab (Aa 4) Ad)) (AS 7)
   (Ah (Dc (Am CI (Ab (Ac (Aa 0) (gb 1) ixD) (Ab (Ac (Aa 1) (Aa 7) A7) Ad))) (unS 2 (A8 (AS 8) (A8 (AS 1) CW))))
 (ownM 6 Do (Ab (Aa 8) Ad))))
 (An (AK (Bn (Ab (Aa 6) (Ab (Aa 1) Ad)))))))))
   Aq)
 (Ah (ifS (Ao (Ac (Aa 2) (fC (.str "pair")) (eqS id)))
   (Ah (Dc (Am CI (Ab (Ac (Aa 0) (gb 1) ixD) (Ab (Aa 1) Ad))) (unS 2 (A8 (AS 8) (A8 (AS 1) CW))))
 (Ah (Dc (Am CI (Ab (Ac (Aa 0) (gb 2) ixD) (Ab (Aa 1) Ad))) (unS 2 (A8 (AS 9) (A8 (AS 1) CW))))
 (An (AK (Bn (Ab (AT (Ab (Aa 8) (Ab (Aa 9) Ad))) (Ab (Aa 1) Ad)))))))
   Aq)
 (Ah (Ax 7 (Ac (Aa 1) (fB (Ab (Ac (Aa 0) (gb 1) ixD) Ad) A6) B5))
 (Ah (Dc (Am CI (Ab (Ac (Ac (Aa 0) (gb 1) ixD) (Aa 7) ixD) (Ab (Ac (Aa 1) (fB (Ab (Ac (Aa 0) (gb 1) ixD) Ad) A6) BQ) Ad))) (unS 2 (A8 (AS 8) (A8 (AS 1) CW))))
 (An (AK (Bn (Ab (AT (Ab (fC (.str "of")) (Ab (Aa 7) (Ab (Aa 8) Ad)))) (Ab (Aa 1) Ad)))))))))))))
def D1(Ev DT Mg:Fn):M Out:=
 (Ah (Ax 3 (Ac (gb 1) (Ac (Am DT (Ab (Aa 0) (Ab (gb 0) Ad))) (gb 6) B5) A7))
 (Ah (Fm 4 (Bn Ad))
 (Ah (Cn (Da (Ab (Aa 3) Ad)) (AS 5)
   (Ah (Ax 6 (Am DT (Ab (Aa 0) (Ab (Ac (Aa 1) (Aa 5) A7) Ad))))
 (Ah (ifS (Ao (Ac (Ac (Ac (Am DT (Ab (Aa 0) (Ab (gb 0) Ad))) (gb 6) BQ) (gb 2) B5) (gb 1) (eqS id)))
   (Ax 6 (Am Mg (Ab (Aa 6) (Ab (Aa 5) Ad))))
   Aq)
 (Ah (Ax 7 (Ac (Aa 6) (gb 5) B5))
 (Ah (Ax 6 (Ac (Aa 6) (gb 5) BQ))
 (Ah (ifS (fOr (Hu (Ao (Ac (Aa 7) (gb 0) (eqS id))) (Ao (Ac (Aa 5) (gb 0) gtA))) (Hu (Ao (Aa 2)) (Ao (Ac (Aa 5) (Ac (Aa 3) (gb 1) DH) (eqS id)))))
   (Ah (ownM 4 Do (Ab (AT (Ab (fC (.str "end")) Ad)) Ad))
 (ret .cont))
   Aq)
 (Ah (Fm 8 (Bn Ad))
 (Ah (Cn (Da (Ab (Ac (gb 1) (Ac (Aa 6) (gb 3) B5) A7) Ad)) (AS 9)
   (Ah (Ax 6 (Ac (Aa 6) (gb 3) BQ))
 (Ah (Ax 10 (Ac (Aa 6) (Aa 3) B5))
 (Ah (Dc (Am Ev (Ab (Ac (Aa 6) (Aa 3) BQ) (Ab (gb 2) Ad))) (unS 2 (A8 (AS 11) (A8 (AS 6) CW))))
 (ownM 8 Do (Ab (AT (Ab (Ac (Ac (fC (.str "abc")) (Aa 9) ixD) (Ac (gb 1) (Ac (Aa 5) (gb 3) B5) A7) CH) (Ab (Aa 11) (Ab (Aa 10) Ad)))) Ad))))))
 (ownM 4 Do (Ab (AT (Ab (Ac (AK (Bn (Ab (fC (.str "left")) (Ab (fC (.str "right")) Ad)))) (Ac (Aa 6) (gb 2) B5) ixD) (Ab (Aa 8) Ad))) Ad))))))))))
 (An (Aa 4)))))
def EA(BA Fa:Fn):M Out:=
 (An (AF "Side" Fa (Aa 0) (Ab (Am BA (Ab (Br "side" (Aa 0)) Ad)) (Ab (Aa 1) Ad))))
def Cl(BA HX:Fn):M Out:=
 (An (AF "Side" HX (Aa 0) (Ab (Am BA (Ab (Br "side" (Aa 0)) Ad)) Ad)))
def GP(JJ:Fn):M Out:=
 (D8 (Am JJ (Ab (gb 1) Ad)))
def EZ(ER:Fn):M Out:=
 (Ah (El 3 (Am ER (Ab (Aa 1) (Ab (Aa 2) Ad))))
 (Ah (ifS (Ao (Ac (Aa 3) (Aa 0) gtA))
   fail
   Aq)
 (An (nxD (Aa 3)))))
def DA(Hq ER Fb:Fn):M Out:=
 (Ah (Ax 3 (Ac (Ac (Aa 0) (gb 2) ixD) (Ac (Aa 0) (gb 1) ixD) DH))
 (Ah (Ax 4 (Am Fb (Ab (Aa 3) Ad)))
 (Ah (Ax 5 (gb 0))
 (Ah (Cn (Da (Ab (Aa 4) Ad)) (AS 6)
   (Ah (El 5 (I9 (Ac (Aa 5) (gb 256) CH) (Am ER (Ab (Aa 1) (Ab (Ac (Aa 2) (Aa 6) A7) Ad))) A7))
 (ifS (Ao (Ac (Aa 5) (Am Hq (Ab (Aa 3) (Ab (Ac (Ac (Aa 4) (gb 1) DH) (Aa 6) DH) Ad))) gtA))
   fail
   Aq)))
 (An (nxD (AT (Ab (Ac (Ac (Aa 0) (gb 1) ixD) (Aa 5) A7) (Ab (Ac (Aa 2) (Aa 4) A7) Ad)))))))))
def Gn(Ho ER:Fn):M Out:=
 (Ah (El 2 (Am ER (Ab (Aa 0) (Ab (Aa 1) Ad))))
 (Ah (ifS (CD (Ao (Am Ho (Ab (Aa 2) Ad))))
   fail
   Aq)
 (An (nxD (Ac (fC (.str " !\"#$ &'()*+,-./0123456789:;<=>?@ABCDEFGHIJKLMNOPQRSTUVWXYZ[\\]^_`abcdefghijklmnopqrstuvwxyz{|}~")) (Ac (Aa 2) (gb 32) DH) ixD)))))
def Ei(BX:Fn):M Out:=
 (Ah (ifS (Ao (Ac (Aa 2) (fB (Ab (Aa 1) Ad) A6) geA))
   (An (fC .non))
   Aq)
 (Ah (ifS (Ao (Ac (Ac (Aa 1) (Aa 2) ixD) (fB (Ab (Ac (Aa 0) (gb 1) ixD) Ad) A6) geA))
   fail
   Aq)
 (Ah (Ax 3 (Ac (Ac (Aa 0) (gb 1) ixD) (Ac (Aa 1) (Aa 2) ixD) ixD))
 (Ah (Gy (El 4 (Am BX (Ab (Ac (Aa 3) (gb 1) ixD) (Ab (Aa 1) (Ab (Ac (Aa 2) (gb 1) A7) Ad))))) (hNo "Short" (An (fC .non)) (hAs "Broken" 5 fail Yz)))
 (An (AT (Ab (AT (Ab (Ac (Aa 0) (gb 0) ixD) (Ab (Ac (Aa 3) (gb 0) ixD) (Ab (Ac (Aa 4) (gb 0) ixD) Ad)))) (Ab (Ac (Aa 3) (gb 2) ixD) (Ab (Ac (Aa 4) (gb 1) ixD) Ad)))))))))
def Gp(Hr:Fn):M Out:=
 (Ah (Ax 3 (Am Hr (Ab (Aa 0) (Ab (gb 0) (Ab (EU [("left",(Aa 1)),("right",(Aa 2))]) (Ab (EU [("left",(gb 0)),("right",(gb 0))]) Ad))))))
 (An (AT (Ab (Ac (Aa 3) (gb 0) ixD) (Ab (Ac (Aa 3) (gb 1) ixD) (Ab (AT (Ab (Ac (Ac (Aa 3) (gb 2) ixD) (fC (.str "left")) Bh) (Ab (Ac (Ac (Aa 3) (gb 2) ixD) (fC (.str "right")) Bh) Ad))) Ad))))))
def D3(Kk:Fn):M Out:=
 (Ah (Fm 4 (Bn Ad))
 (Ah (Ax 5 (Aa 1))
 (Ah (Ax 6 (fB (Ab (Aa 3) Ad) IZ))
 (Ah (KY (Ao (Ac (Ac (Ac (Aa 0) (Aa 5) ixD) (gb 0) ixD) (Aa 2) (inS false)))
   (Ah (Ax 7 (Ac (Ac (Aa 0) (Aa 5) ixD) (gb 0) ixD))
 (Ah (Ax 8 (Am Kk (Ab (Ac (Aa 0) (Aa 5) ixD) (Ab (Ac (Aa 2) (Aa 7) Bh) (Ab (Ac (Aa 6) (Aa 7) Bh) Ad)))))
 (Ah (ifS (Ao (Ac (Aa 8) (fC .non) isC))
   (ret .brk)
   Aq)
 (Ah (ownM 4 Do (Ab (Ac (Aa 8) (gb 0) ixD) Ad))
 (Ah (Ax 5 (Ac (Aa 8) (gb 1) ixD))
 (Dc (Ac (Aa 8) (gb 2) ixD) (GJ (Aa 6) (Aa 7)))))))))
 (An (AT (Ab (Aa 4) (Ab (Aa 5) (Ab (Aa 6) Ad)))))))))
def EC(Ik:Fn):M Out:=
 (Ah (ifS (fOr (CD (Ao (fB (Ab (Aa 0) (Ab (fC (.ty "tuple")) Ad)) C6))) (Ao (Ac (fB (Ab (Aa 0) Ad) A6) (Aa 2) (eqS λb=>!b))))
   (An (fC (.bl false)))
   Aq)
 (An (Dp (Am Ik (Ab (Ac (Aa 0) (gb 0) ixD) (Ab (AT (Ab (Aa 1) Ad)) Ad))) (Am Ik (Ab (Ac (Aa 0) (gb 1) ixD) (Ab (fC (.gts ["left", "right"])) Ad))))))
def Ce:M Out:=
 (An (Dp (fB (Ab (Aa 0) (Ab (fC (.ty "str")) Ad)) C6) (Ac (Aa 0) (Aa 1) (inD false))))
def BU(Lb MO:Fn):M Out:=
 (Ah (Ax 5 (AF "Parley" MO (Aa 0) (Ab (Aa 3) Ad)))
 (Ah (ifS (Ao (Ac (Ac (Aa 3) (gb 0) ixD) (fC (.str "say")) (eqS id)))
   (Ah (Dc (Ac (Ac (Ac (Aa 2) (fC (.str "wires")) Bh) (Ac (Aa 3) (gb 1) ixD) Bh) (Aa 5) A7) (GJ (Ac (Aa 2) (fC (.str "wires")) Bh) (Ac (Aa 3) (gb 1) ixD)))
 (Ah (D8 (objM Do (Ac (Aa 2) (fC (.str "talk")) Bh) (Ab (AT (Ab (Ac (Aa 3) (gb 1) ixD) (Ab (Ac (Aa 3) (gb 2) ixD) (Ab (Ac (Aa 3) (gb 3) ixD) Ad)))) Ad)))
 (An (fC (.bl true)))))
   Aq)
 (Ah (Ax 6 (Ac (Ac (Aa 2) (fC (.str "come")) Bh) (Aa 4) Bh))
 (Ah (Dc (Ac (Aa 6) (Ac (Aa 3) (gb 2) ixD) A7) (GJ (Ac (Aa 2) (fC (.str "come")) Bh) (Aa 4)))
 (An (Ac (AF "Reader" Lb (Aa 1) (Ab (Aa 4) (Ab (fSl (Ac (Ac (Aa 2) (fC (.str "wires")) Bh) (Aa 4) Bh) (GB (Aa 6)) (GB (Ac (Aa 6) (Ac (Aa 3) (gb 2) ixD) A7)) Gv) Ad))) (Aa 5) (eqS id)))))))
def DP(CI ES Ew CN FG:Fn):M Out:=
 (Ah (Ax 5 (AF "Parley" FG (Aa 1) (ret [])))
 (Ah (ifS (Ao (Ac (fB (Ab (AK (CO 1 [] (Ey (Aa 5)) (AS 0) (Ao (Ac (Ac (Aa 0) (gb 0) ixD) (fC (.str "say")) (eqS id))) (Aa 0))) Ad) A6) (gb 1) gtA))
   (An (fC (.bl false)))
   Aq)
 (Ah (Dc (Ac (Aa 5) (Ac (Aa 4) (fB (Ab (Aa 5) Ad) A6) B5) ixD) (unS 2 (A8 (AS 6) (A8 (AS 7) CW))))
 (Ah (Ax 8 (Ac (AK (Bn (Ab (fC (.str "left")) (Ab (fC (.str "right")) Ad)))) (fB (Ab (Ac (Aa 7) (fC (.str "left")) (eqS id)) Ad) GO) ixD))
 (Ah (ifS (Ao (Ac (Aa 6) (fC (.str "take")) (eqS id)))
   (Ah (Ax 9 (Ac (AF "Parley" CN (Aa 1) (ret [])) (fB (Ab (Ac (Aa 8) (fC (.str "right")) (eqS id)) Ad) GO) ixD))
 (An (Am ES (Ab (Aa 1) (Ab (Aa 2) (Ab (Aa 3) (Ab (AT (Ab (fC (.str "take")) (Ab (Aa 7) (Ab (Ac (gb 1) (Ac (Ac (Aa 4) (gb 3) BQ) (Aa 9) B5) A7) Ad)))) (Ab (Aa 8) Ad))))))))
   Aq)
 (Ah (Ax 10 (Ac (Ac (Aa 0) (Ac (AF "Parley" Ew (Aa 1) (ret [])) (fB (Ab (Ac (Aa 7) (fC (.str "right")) (eqS id)) Ad) GO) ixD) ixD) (gb 1) ixD))
 (Ah (Dc (Ac (Aa 10) (Ac (Ac (Aa 4) (gb 3) BQ) (fB (Ab (Aa 10) Ad) A6) B5) ixD) (unS 3 (A8 (AS 11) (A8 (AS 12) (A8 (AS 13) CW)))))
 (An (Am ES (Ab (Aa 1) (Ab (Aa 2) (Ab (Aa 3) (Ab (AT (Ab (fC (.str "say")) (Ab (Aa 7) (Ab (Aa 11) (Ab (Ac (Am CI (Ab (Aa 12) (Ab (Ac (Aa 4) (gb 9) BQ) Ad))) (gb 0) ixD) Ad))))) (Ab (Aa 8) Ad))))))))))))))
def IE(Jv N8 DM Pp Ew Oa ET ES CN DT MR FG Ij Ii Kh:Fn):M Out:=
 (Ah (Ax 1 (Am Kh (Ab (Aa 0) (Ab (gb 2) (Ab (fC (.bl true)) Ad)))))
 (Ah (Ax 2 (FV "Parley" Ii (Ab (AK (fBF (Ab (Aa 1) Ad) Dg)) Ad)))
 (Ah (Ax 3 (FV "Reader" Ij (Ab (AK (fBF (Ab (Aa 1) Ad) Dg)) Ad)))
 (Ah (Ax 4 (EU [("wires",(EU [("left",(AK (Bn Ad))),("right",(AK (Bn Ad)))])),("come",(EU [("left",(gb 0)),("right",(gb 0))])),("talk",(FI (Bn Ad)))]))
 (Ah (Cn (GC (Ab (gb 11) (Ab (fB (Ab (gb 14) (Ab (fB (Ab (fB (Ab (Aa 0) Ad) A6) (Ab (gb 51) Ad)) Lp) Ad)) Lo) Ad))) (AS 5)
   (Ah (ifS (Ao (Ac (AF "Parley" FG (Aa 2) (ret [])) (AK (Bn Ad)) (eqS id)))
   (ret .brk)
   Aq)
 (ifS (CD (Ao (Am MR (Ab (Aa 1) (Ab (Aa 2) (Ab (Aa 3) (Ab (Aa 4) (Ab (Am DT (Ab (Aa 0) (Ab (Aa 5) Ad))) Ad))))))))
   (An (fC (.bl false)))
   Aq)))
 (Ah (Cn (Ey (AK (Bn (Ab (AT (Ab (fC (.str "left")) (Ab (fC (.str "right")) Ad))) (Ab (AT (Ab (fC (.str "right")) (Ab (fC (.str "left")) Ad))) Ad))))) (unS 2 (A8 (AS 6) (A8 (AS 7) CW)))
   (Ah (Ax 8 (Ac (AF "Parley" CN (Aa 2) (ret [])) (fB (Ab (Ac (Aa 7) (fC (.str "right")) (eqS id)) Ad) GO) ixD))
 (ifS (Hu (Ao (Ac (Aa 8) (gb 0) gtA)) (CD (Ao (Am ES (Ab (Aa 2) (Ab (Aa 3) (Ab (Aa 4) (Ab (AT (Ab (fC (.str "take")) (Ab (Aa 6) (Ab (Aa 8) Ad)))) (Ab (Aa 7) Ad)))))))))
   (An (fC (.bl false)))
   Aq)))
 (Ah (Ax 9 (Ac (Aa 4) (fC (.str "talk")) Bh))
 (Ah (Ax 10 (Am ET (Ab (AK (fBF (Ab (Aa 1) Ad) Dg)) (Ab (AK (fBF (Ab (Aa 9) Ad) Dg)) Ad))))
 (Ah (NE 11 12 (Ab (Ac (Ac (Aa 4) (fC (.str "wires")) Bh) (fC (.str "left")) Bh) (Ab (Ac (Ac (Aa 4) (fC (.str "wires")) Bh) (fC (.str "right")) Bh) Ad)))
 (Ah (ifS (fOr (Ao (Ac (AF "Parley" Ew (Aa 2) (ret [])) (AT (Ab (Aa 10) (Ab (Aa 10) Ad))) (eqS λb=>!b))) (Ao (Ac (Am Oa (Ab (AK (fBF (Ab (Aa 1) Ad) Dg)) (Ab (AK (fBF (Ab (Aa 9) Ad) Dg)) Ad))) (AT (Ab (Aa 11) (Ab (Aa 12) Ad))) (eqT λb=>!b))))
   (An (fC (.bl false)))
   Aq)
 (Ah (ifS (Ao (Ac (Am Pp (Ab (AK (fBF (Ab (Aa 1) Ad) Dg)) (Ab (AK (fBF (Ab (Aa 11) Ad) Dg)) (Ab (AK (fBF (Ab (Aa 12) Ad) Dg)) Ad)))) (AT (Ab (Aa 9) (Ab (Aa 10) (Ab (AT (Ab (fB (Ab (Aa 11) Ad) A6) (Ab (fB (Ab (Aa 12) Ad) A6) Ad))) Ad)))) (eqT λb=>!b)))
   (An (fC (.bl false)))
   Aq)
 (An (Dp (Ac (AF "Parley" Jv (Aa 2) (ret [])) (Am N8 (Ab (AK (fBF (Ab (Aa 1) Ad) Dg)) (Ab (AK (fBF (Ab (Aa 9) Ad) Dg)) Ad))) (eqS id)) (Ac (AF "Reader" DM (Aa 3) (ret [])) (Aa 10) (eqS id)))))))))))))))
def Ct(Hr:Fn):M Out:=
 (Ah (D8 (objM Eg (Ac (Br "wires" (Aa 0)) (Aa 1) Bh) (Ab (Aa 2) Ad)))
 (Ah (Ax 3 (Am Hr (Ab (Br "grammar" (Aa 0)) (Ab (Br "standing" (Aa 0)) (Ab (Br "wires" (Aa 0)) (Ab (Br "places" (Aa 0)) Ad))))))
 (Ah (CY "standing" (Ac (Aa 3) (gb 1) ixD) (Aa 0))
 (Ah (CY "places" (Ac (Aa 3) (gb 2) ixD) (Aa 0))
 (An (Ac (Aa 3) (gb 0) ixD))))))
def IC(JJ:Fn):M Out:=
 (D8 (Am JJ (Ab (gb 0) Ad)))
def EY(Ex DJ FH:Fn):M Out:=
 (Ah (Ax 3 (Ac (Br "grammar" (Aa 0)) (Br "standing" (Aa 0)) ixD))
 (Ah (Ax 4 (Am FH (Ab (Aa 3) (Ab (AT (Ab (Br "side" (Aa 0)) (Ab (Aa 1) (Ab (Aa 2) Ad)))) Ad))))
 (Ah (ifS (Ao (Ac (Aa 4) (fC .non) isC))
   fail
   Aq)
 (Ah (CY "standing" (Am DJ (Ab (Br "grammar" (Aa 0)) (Ab (AT (Ab (Br "standing" (Aa 0)) (Ab (Aa 4) Ad))) Ad))) (Aa 0))
 (An (Am Ex (Ab (Aa 3) (Ab (Aa 4) (Ab (Aa 2) Ad)))))))))
def BH:M Out:=
 (An (Ac (Ac (Ac (Br "grammar" (Aa 0)) (Br "standing" (Aa 0)) ixD) (gb 0) ixD) (Br "side" (Aa 0)) (eqS id)))
def B8(DU:Fn):M Out:=
 (An (Am DU (Ab (Ac (Br "grammar" (Aa 0)) (Br "standing" (Aa 0)) ixD) Ad)))
def DN(F8:Fn):M Out:=
 (Ah (CY "left" (FV "Side" F8 (Ab (Aa 1) (Ab (fC (.str "left")) Ad))) (Aa 0))
 (Ah (CY "right" (FV "Side" F8 (Ab (Aa 1) (Ab (fC (.str "right")) Ad))) (Aa 0))
 (CY "under_way" (EU [("left",(FI (Bn Ad))),("right",(FI (Bn Ad)))]) (Aa 0))))
def Bo:M Out:=
 (An (fIf (Ao (Ac (Aa 1) (fC (.str "left")) (eqS id))) (Br "left" (Aa 0)) (Br "right" (Aa 0))))
def Es(LS HZ HY:Fn):M Out:=
 (Ah (ifS (Ao (Am LS (Ab (Aa 1) (Ab (fC (.str "say")) (Ab (gb 4) Ad)))))
   (An (AF "Parley" HY (Aa 0) (Ab (Ac (Aa 1) (gb 1) ixD) (Ab (Ac (Aa 1) (gb 2) ixD) (Ab (Ac (Aa 1) (gb 3) ixD) Ad)))))
   Aq)
 (Ah (ifS (Ao (Am LS (Ab (Aa 1) (Ab (fC (.str "take")) (Ab (gb 3) Ad)))))
   (An (AF "Parley" HZ (Aa 0) (Ab (Ac (Aa 1) (gb 1) ixD) (Ab (Ac (Aa 1) (gb 2) ixD) Ad))))
   Aq)
 fail))
def DZ(Ck N7:Fn):M Out:=
 (Ah (Ax 4 (AF "Side" N7 (AF "Parley" Ck (Aa 0) (Ab (Aa 1) Ad)) (Ab (Aa 2) (Ab (Aa 3) Ad))))
 (Ah (D8 (objM Eg (Ac (Br "under_way" (Aa 0)) (Aa 1) Bh) (Ab (Aa 4) Ad)))
 (An (Aa 4))))
def D0(BA Ck MQ B7:Fn):M Out:=
 (Ah (Ax 3 (Ac (Br "under_way" (Aa 0)) (Am BA (Ab (Aa 1) Ad)) Bh))
 (Ah (ifS (CD (Ao (Am B7 (Ab (Aa 2) (Ab (gb 1) (Ab (fB (Ab (Aa 3) Ad) A6) Ad))))))
   fail
   Aq)
 (Ah (Ax 4 (AF "Side" MQ (AF "Parley" Ck (Aa 0) (Ab (Aa 1) Ad)) (Ab (fSl (Aa 3) fNo (GB (Aa 2)) LG) Ad)))
 (Ah (Dc (FI (Pu (Aa 3) (GB (Aa 2)) fNo)) (GJ (Br "under_way" (Aa 0)) (Am BA (Ab (Aa 1) Ad))))
 (An (Aa 4))))))
def Dh(BA Ck Kg:Fn):M Out:=
 (Ah (Ax 1 (AK (CO 1 [0] (Ey (fC (.gts ["left", "right"]))) (AS 0) (Ao (AF "Side" Kg (AF "Parley" Ck (Aa 1) (Ab (Aa 0) Ad)) (ret []))) (AT (Ab (fC (.str "say")) (Ab (Aa 0) Ad))))))
 (Ah (Ax 2 (AK (CO 1 [0] (Ey (fC (.gts ["left", "right"]))) (AS 0) (Ao (Ac (fB (Ab (Ac (Br "under_way" (Aa 1)) (Am BA (Ab (Aa 0) Ad)) Bh) Ad) A6) (gb 0) gtA)) (AT (Ab (fC (.str "take")) (Ab (Aa 0) Ad))))))
 (An (Ac (Aa 1) (Aa 2) A7))))
def Dy(CN Gz FS:Fn):M Out:=
 (Ah (Ax 1 (Dp (AF "Side" FS (Br "left" (Aa 0)) (ret [])) (AF "Side" FS (Br "right" (Aa 0)) (ret []))))
 (Ah (Ax 2 (Ac (AF "Side" Gz (Br "left" (Aa 0)) (ret [])) (AF "Side" Gz (Br "right" (Aa 0)) (ret [])) A7))
 (An (Dp (Aa 1) (Dp (Ac (Aa 2) (gb 0) (eqS id)) (Ac (AF "Parley" CN (Aa 0) (ret [])) (AT (Ab (gb 0) (Ab (gb 0) Ad))) (eqS id)))))))
def BT(DM:Fn):M Out:=
 (An (AT (Ab (AF "Side" DM (Br "left" (Aa 0)) (ret [])) (Ab (AF "Side" DM (Br "right" (Aa 0)) (ret [])) Ad))))
def Bs:M Out:=
 (An (AT (Ab (fB (Ab (Ac (Br "under_way" (Aa 0)) (fC (.str "left")) Bh) Ad) A6) (Ab (fB (Ab (Ac (Br "under_way" (Aa 0)) (fC (.str "right")) Bh) Ad) A6) Ad))))
end LW
namespace L2
open PySem
def W{α:Type}(m:M α)(t:T)(P:α->T->Prop):Prop:=∃a t',m t=some (a,t')/\P a t'
def Wf(g:Fn)(ds:List D)(S:List Ob)(P:D->List Ob->Prop):Prop:=∃r S',g ds S=some (r,S')/\P r S'
theorem W.mono{α:Type}{m:M α}{t:T}{P Q:α->T->Prop}(h:W m t P)(i:∀a t',P a t'->Q a t'):W m t Q:=by
 clear 5 h a t' e p;exact⟨a,t',e,i a t' p⟩
theorem Wf.mono{g:Fn}{ds:List D}{S:List Ob}{P Q:D->List Ob->Prop}(h:Wf g ds S P)(i:∀r S',P r S'->Q r S'):Wf g ds S Q:=by
 clear 5 h a t' e p;exact⟨a,t',e,i a t' p⟩
section
variable{α β:Type}
theorem Ay{m:M α}{t:T}{P:α->T->Prop}{a:α}{t':T}(e:m t=some (a,t')):W m t P↔P a t':=by
 constructor
 .rintro⟨a',t1,e',p⟩;rw[e] at e';cases e';exact p
 .exact λp=>⟨a,t',e,p⟩
theorem EQ{m:M α}{t:T}{P:α->T->Prop}(e:m t=none):W m t P↔False:=by
 constructor
 .rintro⟨a',t1,e',p⟩;rw[e] at e';cases e'
 .exact False.elim
@[simp] theorem W_ret {a:α}{t:T}{P:α->T->Prop}:W (ret a) t P↔P a t:=Ay rfl
@[simp] theorem W_fail {t:T}{P:α->T->Prop}:W (fail:M α) t P↔False:=EQ rfl
@[simp] theorem W_bnd {f:M α}{g:α->M β}{t:T}{P:β->T->Prop}:W (bnd f g) t P↔W f t λa t1=>W (g a) t1 P:=by
 constructor
 .rintro⟨b,t',e,p⟩;clear 5(Ai e)a t1 e1 e2;exact⟨a,t1,e1,b,t',e2,p⟩
 .rintro⟨a,t1,e1,b,t',e2,p⟩;exact⟨b,t',by unfold bnd;rw[e1];exact e2,p⟩
@[simp] theorem UP {c:Prop} [Decidable c] {f g:M α}{t:T}{P:α->T->Prop}:W (if c then f else g) t P↔if c then W f t P else W g t P:=by split<;>rfl
@[simp] theorem fj {n:Nat}{a:α}{t:T}{P:α->T->Prop}:W (lim n a) t P↔n<=LIM/\P a t:=by
 unfold lim;constructor
 .rintro⟨a',t',e,p⟩
  split at e
  .cases e;exact⟨by assumption,p⟩
  .cases e
 .rintro⟨h,p⟩;exact⟨a,t,by simp only[h,kz],p⟩
end
section
variable{t:T}{env:List (Option Sl)}{S:List Ob}
@[simp] theorem W_fC {d:D}{P:D->T->Prop}:W (fC d) t P↔P d t:=Ay rfl
@[simp] theorem Qz {i:Nat}{P:D->T->Prop}:W (Aa i) t P↔match t.env[i]? with
 |some (some (.val d))=>P d t
 |some (some (.own ds))=>P (.lst ds) ⟨t.env.set i (vw (.lst ds)),t.S⟩
 |_=>False:=by
 cases e:t.env[i]? with
 |none=>exact EQ (by unfold Aa;simp[e])
 |some o=>
   cases o with
   |none=>exact EQ (by unfold Aa;simp[e])
   |some sl=>
     cases sl with
     |val d=>exact Ay (by unfold Aa;simp[e])
     |own ds=>exact Ay (by unfold Aa;simp[e])
@[simp] theorem W_fBin {f g:M D}{h:D->D->M D}{P:D->T->Prop}:W (Ac f g h) t P↔W f t λx t1=>W g t1 λy t2=>W (h x y) t2 P:=by simp[Ac]
@[simp] theorem W_fUn {f:M D}{h:D->M D}{P:D->T->Prop}:W (fUn f h) t P↔W f t λx t1=>W (h x) t1 P:=by simp[fUn]
@[simp] theorem W_toB {b:Bool}{P:Bool->T->Prop}:W (toB (.bl b)) t P↔P b t:=Ay rfl
@[simp] theorem W_fTst {f:M D}{P:Bool->T->Prop}:W (Ao f) t P↔W f t λx t1=>W (toB x) t1 P:=by simp[Ao]
@[simp] theorem W_fChain {f g w:M D}{h h':D->D->M D}{P:D->T->Prop}:W (FA f g w h h') t P↔W f t λx t1=>W g t1 λy t2=>W (h x y) t2 λk t3=>W (toB k) t3 λk t4=>if k=true then W w t4 λz t5=>W (h' y z) t5 P else P (.bl false) t4:=by
 simp[FA]
@[simp] theorem W_fAnd {f g:M Bool}{P:Bool->T->Prop}:W (Hu f g) t P↔W f t λk t1=>if k=true then W g t1 P else P false t1:=by simp[Hu]
@[simp] theorem W_fOr {f g:M Bool}{P:Bool->T->Prop}:W (fOr f g) t P↔W f t λk t1=>if k=true then P true t1 else W g t1 P:=by simp[fOr]
@[simp] theorem W_fNot {f:M Bool}{P:Bool->T->Prop}:W (CD f) t P↔W f t λk t1=>P (!k) t1:=by simp[CD]
@[simp] theorem W_fAndV {f g:M D}{P:D->T->Prop}:W (Dp f g) t P↔W f t λx t1=>W (toB x) t1 λk t2=>if k=true then W g t2 P else P (.bl false) t2:=by simp[Dp]
@[simp] theorem eY {f g:M D}{P:D->T->Prop}:W (XZ f g) t P↔W f t λx t1=>W (toB x) t1 λk t2=>if k=true then P (.bl true) t2 else W g t2 P:=by simp[XZ]
@[simp] theorem W_fNotV {f:M D}{P:D->T->Prop}:W (Ja f) t P↔W f t λx t1=>W (toB x) t1 λk t2=>P (.bl (!k)) t2:=by simp[Ja]
@[simp] theorem W_fIf {f:M Bool}{g h:M D}{P:D->T->Prop}:W (fIf f g h) t P↔W f t λk t1=>if k=true then W g t1 P else W h t1 P:=by simp[fIf]
@[simp] theorem W_fNil {P:List D->T->Prop}:W Ad t P↔P [] t:=Ay rfl
@[simp] theorem W_fCons {f:M D}{g:M (List D)}{P:List D->T->Prop}:W (Ab f g) t P↔W f t λd t1=>W g t1 λds t2=>P (d::ds) t2:=by simp[Ab]
@[simp] theorem W_fTup {f:M (List D)}{P:D->T->Prop}:W (AT f) t P↔W f t λds t1=>ds.length<=LIM/\P (.tup ds) t1:=by simp[AT]
@[simp] theorem W_fLst {f:M (List D)}{P:List D->T->Prop}:W (Bn f) t P↔W f t λds t1=>ds.length<=LIM/\P ds t1:=by simp[Bn]
@[simp] theorem W_fPure {f:M (List D)}{P:D->T->Prop}:W (AK f) t P↔W f t λds t1=>P (.lst ds) t1:=by simp[AK]
@[simp] theorem W_newOb {o:Ob}{P:D->T->Prop}:W (PR o) t P↔P (.obj t.S.length) ⟨t.env,t.S++[o]⟩:=Ay rfl
@[simp] theorem XA {f:M (List D)}{P:D->T->Prop}:W (FI f) t P↔W f t λds t1=>W (PR (.lst ds)) t1 P:=by simp[FI]
@[simp] theorem W_fCall {g:Fn}{f:M (List D)}{P:D->T->Prop}:W (Am g f) t P↔W f t λds t1=>Wf g ds t1.S λr S'=>P r ⟨t1.env,S'⟩:=by
 unfold Am;rw[W_bnd];constructor
 .rintro⟨ds,t1,e1,r,t',e2,p⟩;refine⟨ds,t1,e1,?_⟩;dsimp only at e2
  cases e:g ds t1.S with
  |none=>rw[e] at e2;cases e2
  |some z=>clear 5 z r' S';rw[e] at e2;cases e2;exact⟨r,_,e,p⟩
 .rintro⟨ds,t1,e1,r,S',e2,p⟩;exact⟨ds,t1,e1,r,_,by simp only[e2],p⟩
@[simp] theorem W_fB {f:M (List D)}{h:List D->M D}{P:D->T->Prop}:W (fB f h) t P↔W f t λds t1=>W (h ds) t1 P:=by simp[fB]
@[simp] theorem W_fBF {f:M (List D)}{h:List D->M (List D)}{P:List D->T->Prop}:W (fBF f h) t P↔W f t λds t1=>W (h ds) t1 P:=by simp[fBF]
@[simp] theorem W_seqS {f g:M Out}{P:Out->T->Prop}:W (Ah f g) t P↔W f t λo t1=>match o with
 |.next=>W g t1 P
 |.brk=>P .brk t1
 |.cont=>P .cont t1
 |.ret d=>P (.ret d) t1:=by
 unfold Ah;constructor
 .rintro⟨o,t',e,p⟩;dsimp only at e
  cases e1:f t with
  |none=>rw[e1] at e;cases e
  |some z=>
    clear 5 z o1 t1;rw[e1] at e;refine⟨o1,t1,e1,?_⟩
    cases o1 with
    |next=>exact⟨o,t',e,p⟩
    |brk=>cases e;exact p
    |cont=>cases e;exact p
    |ret d=>cases e;exact p
 .rintro⟨o,t1,e,p⟩
  cases o with
  |next=>clear 5 p o t' e' p;exact⟨o,t',by simp only[e];exact e',p⟩
  |brk=>exact⟨_,_,by simp only[e],p⟩
  |cont=>exact⟨_,_,by simp only[e],p⟩
  |ret d=>exact⟨_,_,by simp only[e],p⟩
@[simp] theorem W_skipS {P:Out->T->Prop}:W Aq t P↔P .next t:=Ay rfl
@[simp] theorem W_retS {f:M D}{P:Out->T->Prop}:W (An f) t P↔W f t λd t1=>P (.ret d) t1:=by simp[An]
@[simp] theorem W_dropS {f:M D}{P:Out->T->Prop}:W (D8 f) t P↔W f t λd t1=>P .next t1:=by simp[D8]
@[simp] theorem W_ifS {f:M Bool}{g h:M Out}{P:Out->T->Prop}:W (ifS f g h) t P↔W f t λk t1=>if k=true then W g t1 P else W h t1 P:=by simp[ifS]
@[simp] theorem W_putV {i:Nat}{d:D}{P:Unit->T->Prop}:W (AS i d) t P↔P () ⟨t.env.set i (vw d),t.S⟩:=Ay rfl
@[simp] theorem W_setS {i:Nat}{f:M D}{P:Out->T->Prop}:W (Ax i f) t P↔W f t λd t1=>P .next ⟨t1.env.set i (vw d),t1.S⟩:=by
 simp only[Ax,W_bnd,W_ret,W_putV]
@[simp] theorem W_ownS {i:Nat}{f:M (List D)}{P:Out->T->Prop}:W (Fm i f) t P↔W f t λds t1=>P .next ⟨t1.env.set i (some (.own ds)),t1.S⟩:=by
 unfold Fm;rw[W_bnd];have:∀(ds:List D) (t1:T),W (λt:T=>some (Out.next,({t with env:=t.env.set i (some (.own ds))}:T))) t1 P↔P .next ⟨t1.env.set i (some (.own ds)),t1.S⟩:=λds t1=>Ay rfl;simp only[this]
@[simp] theorem W_asgS {f:M D}{g:D->M Unit}{P:Out->T->Prop}:W (Dc f g) t P↔W f t λd t1=>W (g d) t1 λ_ t2=>P .next t2:=by simp[Dc]
@[simp] theorem W_putNil {P:Unit->T->Prop}:W (CW []) t P↔P () t:=Ay rfl
@[simp] theorem W_putCons {f:D->M Unit}{g:List D->M Unit}{d:D}{ds:List D}{P:Unit->T->Prop}:W (A8 f g (d::ds)) t P↔W (f d) t λ_ t1=>W (g ds) t1 P:=by simp[A8]
@[simp] theorem W_unS_lst {n:Nat}{g:List D->M Unit}{ds:List D}{P:Unit->T->Prop}:W (unS n g (.lst ds)) t P↔ds.length=n/\W (g ds) t P:=by
 unfold unS;simp only[UP,W_fail];split<;>simp[*]
@[simp] theorem W_unS_tup {n:Nat}{g:List D->M Unit}{ds:List D}{P:Unit->T->Prop}:W (unS n g (.tup ds)) t P↔ds.length=n/\W (g ds) t P:=by
 unfold unS;simp only[UP,W_fail];split<;>simp[*]
@[simp] theorem W_forS {f:M (List D)}{st:D->M Unit}{b:M Out}{P:Out->T->Prop}:W (Cn f st b) t P↔W f t λds t1=>W (CF st b ds) t1 P:=by simp[Cn]
@[simp] theorem W_forL_nil {st:D->M Unit}{b:M Out}{P:Out->T->Prop}:W (CF st b []) t P↔P .next t:=Ay rfl
theorem W_forL_cons{st:D->M Unit}{b:M Out}{d:D}{r:List D}{P:Out->T->Prop}:W (CF st b (d::r)) t P↔W (st d) t λ_ t1=>W b t1 λo t2=>match o with
 |.next=>W (CF st b r) t2 P
 |.cont=>W (CF st b r) t2 P
 |.brk=>P .next t2
 |.ret x=>P (.ret x) t2:=by
 constructor
 .rintro⟨o,t',e,p⟩;unfold CF at e
  cases e1:st d t with
  |none=>rw[e1] at e;cases e
  |some z=>
    clear 5 z u t1;rw[e1] at e
    try dsimp only at e
    refine⟨u,t1,e1,?_⟩
    cases e2:b t1 with
    |none=>rw[e2] at e;cases e
    |some z=>
      clear 5 z o2 t2;rw[e2] at e
      try dsimp only at e
      refine⟨o2,t2,e2,?_⟩
      cases o2 with
      |next=>exact⟨o,t',e,p⟩
      |cont=>exact⟨o,t',e,p⟩
      |brk=>cases e;exact p
      |ret x=>cases e;exact p
 .rintro⟨u,t1,e1,o,t2,e2,p⟩
  cases o with
  |next=>clear 5 p o t' e' p;exact⟨o,t',by unfold CF;simp only[e1,e2];exact e',p⟩
  |cont=>clear 5 p o t' e' p;exact⟨o,t',by unfold CF;simp only[e1,e2];exact e',p⟩
  |brk=>exact⟨_,_,by unfold CF;simp only[e1,e2],p⟩
  |ret x=>exact⟨_,_,by unfold CF;simp only[e1,e2],p⟩
theorem Dn{st:D->M Unit}{b:M Out}{P:Out->T->Prop}(I:List D->T->Prop):∀(ds:List D) (t:T),I ds t->
 (∀d r t,I (d :: r) t->d∈ds->W (st d) t λ_ t1=>W b t1 λo t2=>match o with
   |.next=>I r t2
   |.cont=>I r t2
   |.brk=>P .next t2
   |.ret x=>P (.ret x) t2)->(∀t,I [] t->P .next t)->W (CF st b ds) t P
 |[],t,h,_,fin=>W_forL_nil.mpr (fin t h)
 |d::r,t,h,turn,fin=>by
   rw[W_forL_cons];refine(turn d r t h ue5).mono λ_ t1 h1=>h1.mono λo t2 h2=>?_
   cases o with
   |next=>exact Dn I r t2 h2 (λd' r' t' h' m=>turn d' r' t' h' (ud4 _ m)) fin
   |cont=>exact Dn I r t2 h2 (λd' r' t' h' m=>turn d' r' t' h' (ud4 _ m)) fin
   |brk=>exact h2
   |ret x=>exact h2
@[simp] theorem W_fComp {n:Nat}{fr:List Nat}{f:M (List D)}{st:D->M Unit}{tst:M Bool}{elt:M D}{P:List D->T->Prop}:W (CO n fr f st tst elt) t P↔W f t λds t1=>W (Cm st tst elt ds) ⟨cenv n fr t1.env,t1.S⟩ λxs t'=>xs.length<=LIM/\P xs ⟨t1.env,t'.S⟩:=by
 unfold CO;rw[W_bnd];constructor
 .rintro⟨ds,t1,e1,xs,t',e2,p⟩;refine⟨ds,t1,e1,?_⟩;dsimp only at e2
  cases e:Cm st tst elt ds ⟨cenv n fr t1.env,t1.S⟩ with
  |none=>rw[e] at e2;cases e2
  |some z=>
    clear 5 z ys t3;rw[e] at e2;dsimp only at e2
    split at e2
    .cases e2;exact⟨_,_,e,by assumption,p⟩
    .cases e2
 .rintro⟨ds,t1,e1,xs,t',e2,h,p⟩;exact⟨ds,t1,e1,xs,_,by simp only[e2,h,kz],p⟩
@[simp] theorem W_compL_nil {st:D->M Unit}{tst:M Bool}{elt:M D}{P:List D->T->Prop}:W (Cm st tst elt []) t P↔P [] t:=Ay rfl
theorem EO{st:D->M Unit}{tst:M Bool}{elt:M D}{d:D}{r:List D}{P:List D->T->Prop}:W (Cm st tst elt (d::r)) t P↔W (st d) t λ_ t1=>W tst t1 λk t2=>
 if k=true then W elt t2 λx t3=>W (Cm st tst elt r) t3 λxs t4=>P (x::xs) t4 else W (Cm st tst elt r) t2 P:=by
 rw[Cm];simp
theorem MF{st:D->M Unit}{tst:M Bool}{elt:M D}{P:List D->T->Prop}(I:List D->List D->T->Prop):∀(ds:List D) (acc:List D) (t:T),I acc ds t->
 (∀acc d r t,I acc (d::r) t->d∈ds->W (st d) t λ_ t1=>W tst t1 λk t2=>if k=true then W elt t2 λx t3=>I (acc++[x]) r t3 else I acc r t2)->
 (∀acc t,I acc [] t->P acc t)->W (Cm st tst elt ds) t λxs t'=>P (acc++xs) t'
 |[],acc,t,h,_,fin=>W_compL_nil.mpr (by rw[ui5];exact fin acc t h)
 |d::r,acc,t,h,turn,fin=>by
   rw[EO];have turn':∀acc d' r' t',I acc (d'::r') t'->d'∈r->_:=λacc d' r' t' h' m=>turn acc d' r' t' h' (ud4 _ m);refine(turn acc d r t h ue5).mono λ_ t1 h1=>h1.mono λk t2 h2=>?_
   cases k with
   |true=>
     rw[kQ rfl] at h2⊢;refine h2.mono λx t3 h3=>(MF I r (acc++[x]) t3 h3 turn' fin).mono λxs t4 h4=>?_;rw[uf9] at h4;exact h4
   |false=>
     rw[kS ue6] at h2⊢;exact MF I r acc t2 h2 turn' fin
theorem Ak{n m:Nat}{g:M Out}{ds:List D}{P:D->List Ob->Prop}(h:ds.length=n)(w:W g ⟨env0 m ds,S⟩ λo t=>match o with
 |.ret r=>P r t.S
 |.next=>P .non t.S
 |_=>False):Wf (fnOf n m g) ds S P:=by
 clear 5 w o t e p
 cases o with
 |ret r=>exact⟨r,t.S,by unfold fnOf;rw[kQ h,e],p⟩
 |next=>exact⟨.non,t.S,by unfold fnOf;rw[kQ h,e],p⟩
 |brk=>exact p.elim
 |cont=>exact p.elim
@[simp] theorem W_tTru {P:Bool->T->Prop}:W JV t P↔P true t:=Ay rfl
@[simp] theorem eW {P:D->T->Prop}:W cO t P↔P .dic t:=Ay rfl
end
section
variable{t:T}{P:D->T->Prop}
theorem Mn{α β:Type}{o:Option β}{g:β->α×T}{Q:α->T->Prop}{m:M α}(e:m t=o.map g):W m t Q↔∃b,o=some b/\Q (g b).1 (g b).2:=by
 constructor
 .rintro⟨a,t',e',p⟩;rw[e] at e';clear 5(uc1.mp e')b h1 h2;exact⟨b,h1,by rw[h2];exact p⟩
 .rintro⟨b,h,p⟩;exact⟨_,_,by rw[e,h];rfl,p⟩
theorem SM{α:Type}{c:Prop}[Decidable c]{z:α×T}{Q:α->T->Prop}{m:M α}(e:m t=if c then some z else none):W m t Q↔c/\Q z.1 z.2:=by
 constructor
 .rintro⟨a,t',e',p⟩;rw[e] at e'
  split at e'
  .cases e';exact⟨by assumption,p⟩
  .cases e'
 .rintro⟨h,p⟩;exact⟨_,_,by rw[e,kQ h],p⟩
theorem MG{α β:Type}{o:Option β}(f:β->α){Q:α->T->Prop}{m:M α}(e:m t=o.map λb=>(f b,t)):W m t Q↔∃b,o=some b/\Q (f b) t:=Mn (g:=λb=>(f b,t)) e
theorem IX{α:Type}{c:Prop}[Decidable c]{a:α}{Q:α->T->Prop}{m:M α}(e:m t=if c then some (a,t) else none):W m t Q↔c/\Q a t:=SM (z:=(a,t)) e
@[simp] theorem W_ix_tup {ds:List D}{i:Int}:W (ixD (.tup ds) (.int i)) t P↔∃d,atI ds i=some d/\P d t:=MG id rfl
@[simp] theorem W_ix_lst {ds:List D}{i:Int}:W (ixD (.lst ds) (.int i)) t P↔∃d,atI ds i=some d/\P d t:=MG id rfl
@[simp] theorem W_ix_scr {ns:List Int}{i:Int}:W (ixD (.scr ns) (.int i)) t P↔∃n,atI ns i=some n/\P (.int n) t:=MG D.int rfl
@[simp] theorem W_ix_str {x:Str}{i:Int}:W (ixD (.str x) (.int i)) t P↔x.length<=LIM/\∃n,atI x.cps.toList i=some n/\P (.str ⟨#[n]⟩) t:=by
 by_cases h:x.length<=LIM
 .have:ixD (.str x) (.int i) t=(atI x.cps.toList i).map λn=>(.str ⟨#[n]⟩,t):=by simp only[ixD,h,kz]
  rw[Mn this];simp[h]
 .rw[EQ (by simp only[ixD,h,ku])];simp[h]
@[simp] theorem W_ix_obj {k:Nat}{i:Int}:W (ixD (.obj k) (.int i)) t P↔∃ds,t.S[k]?=some (.lst ds)/\∃d,atI ds i=some d/\P d t:=by
 cases e:t.S[k]? with
 |none=>rw[EQ (by simp only[ixD,e])];simp
 |some o=>
   cases o with
   |dct _|ins _ _=>rw[EQ (by simp only[ixD,e])];simp
   |lst ds=>
     have:ixD (.obj k) (.int i) t=(atI ds i).map λd=>(d,t):=by simp only[ixD,e]
     rw[Mn this];simp
@[simp] theorem FU {α:Type}{a:α}{r:List α}:atI (a::r) 0=some a:=by simp[atI,ixN]
@[simp] theorem UQ {α:Type}{a b:α}{r:List α}:atI (a::b::r) 1=some b:=by
 have:(1:Int)<((a::b::r).length:Nat):=by simp;lia
 simp only[atI,ixN,this,kz,show(0:Int)<=1 by decide];rfl
@[simp] theorem UR {α:Type}{a b c:α}{r:List α}:atI (a::b::c::r) 2=some c:=by
 have:(2:Int)<((a::b::c::r).length:Nat):=by simp;lia
 simp only[atI,ixN,this,kz,show(0:Int)<=2 by decide];rfl
@[simp] theorem W_len_lst {ds:List D}:W (A6 [.lst ds]) t P↔P (.int ds.length) t:=Ay rfl
@[simp] theorem W_len_tup {ds:List D}:W (A6 [.tup ds]) t P↔P (.int ds.length) t:=Ay rfl
@[simp] theorem W_len_scr {ds:List Int}:W (A6 [.scr ds]) t P↔P (.int ds.length) t:=Ay rfl
@[simp] theorem W_len_str {x:Str}:W (A6 [.str x]) t P↔x.length<=LIM/\P (.int x.length) t:=by simp[A6]
@[simp] theorem W_len_obj {k:Nat}:W (A6 [.obj k]) t P↔∃ds,t.S[k]?=some (.lst ds)/\P (.int ds.length) t:=by
 cases e:t.S[k]? with
 |none=>rw[EQ (by simp only[A6,e])];simp
 |some o=>
   cases o with
   |dct _|ins _ _=>rw[EQ (by simp only[A6,e])];simp
   |lst ds=>rw[Ay (a:=.int ds.length) (t':=t) (by simp only[A6,e])];simp
@[simp] theorem W_isi {d:D}{m:String}:W (C6 [d,.ty m]) t P↔∃n,tyD d=some n/\∃b,Gg n m=some b/\P (.bl b) t:=by
 cases e:tyD d with
 |none=>rw[EQ (by simp only[C6,e])];simp
 |some n=>
   have:C6 [d,.ty m] t=(Gg n m).map λb=>(.bl b,t):=by simp only[C6,e]
   rw[Mn this];simp
noncomputable def GD:D->Bool
 |.non=>true
 |_=>false
noncomputable def cY(b:Bool):D->Bool
 |.bl c=>c==b
 |_=>false
@[simp] theorem W_is_non {x:D}:W (isC x .non) t P↔P (.bl (GD x)) t:=Ay (by cases x<;>rfl)
@[simp] theorem eU {x:D}{b:Bool}:W (isC x (.bl b)) t P↔P (.bl (cY b x)) t:=Ay (by cases x<;>rfl)
@[simp] theorem eT {x y:D}:W (Ri x y) t P↔W (isC x y) t λd t1=>W (toB d) t1 λb t2=>P (.bl (!b)) t2:=by
 unfold Ri;rw[W_bnd];constructor
 .exact λh=>h.mono λd t1 h1=>by
   cases d with
   |bl b=>simpa using h1
   |_=>exact(W_fail.mp h1).elim
 .exact λh=>h.mono λd t1 h1=>by
   cases d with
   |bl b=>simpa using h1
   |_=>obtain⟨_,_,e,_⟩:=h1;cases e
@[simp] theorem W_add_int {i j:Int}:W (A7 (.int i) (.int j)) t P↔P (.int (i+j)) t:=Ay rfl
@[simp] theorem W_sub_int {i j:Int}:W (DH (.int i) (.int j)) t P↔P (.int (i-j)) t:=Ay rfl
@[simp] theorem W_lt_int {i j:Int}:W (ltA (.int i) (.int j)) t P↔P (.bl (decide (i<j))) t:=Ay rfl
@[simp] theorem W_le_int {i j:Int}:W (leA (.int i) (.int j)) t P↔P (.bl (decide (i<=j))) t:=Ay rfl
@[simp] theorem W_gt_int {i j:Int}:W (gtA (.int i) (.int j)) t P↔P (.bl (decide (j<i))) t:=Ay rfl
@[simp] theorem W_ge_int {i j:Int}:W (geA (.int i) (.int j)) t P↔P (.bl (decide (j<=i))) t:=Ay rfl
@[simp] theorem cE {i j:Str}:W (ltA (.str i) (.str j)) t P↔P (.bl (decide (i.cps.toList<j.cps.toList))) t:=Ay rfl
@[simp] theorem cB {i j:Str}:W (gtA (.str i) (.str j)) t P↔P (.bl (decide (j.cps.toList<i.cps.toList))) t:=Ay rfl
@[simp] theorem W_neg {i:Int}:W (Nx (.int i)) t P↔P (.int (-i)) t:=Ay rfl
@[simp] theorem W_fdiv {i j:Int}:W (BQ (.int i) (.int j)) t P↔(0<j/\j<1073741824)/\P (.int (i/j)) t:=by
 rw[SM (m:=BQ (.int i) (.int j)) (c:=Mo i j=true) (z:=(.int (i/j),t)) rfl];simp[Mo]
@[simp] theorem W_mod {i j:Int}:W (B5 (.int i) (.int j)) t P↔0<j/\P (.int (i%j)) t:=by
 rw[SM (m:=B5 (.int i) (.int j)) (c:=decide (0<j)=true) (z:=(.int (i%j),t)) rfl];simp
@[simp] theorem fk {i j:Int}:W (de (.int i) (.int j)) t P↔U0 i j=true/\P (.int (i ^ j.toNat)) t:=IX rfl
@[simp] theorem W_mul_int {i j:Int}:W (CH (.int i) (.int j)) t P↔FY i j=true/\P (.int (i*j)) t:=IX rfl
@[simp] theorem W_mul_str {x:Str}{k:Int}:W (CH (.str x) (.int k)) t P↔(CZ k=true/\x.length*k.toNat<=LIM/\k<=LIM/\x.length<=LIM)/\P (.str (Txt.mul x k)) t:=IX rfl
theorem V3{i j:Int}(h1 : -18446744073709551616<i)(h2:i<18446744073709551616):FY i j=true:=by simp[FY,h1,h2]
theorem ON{i j:Int}(h1 : -18446744073709551616<j)(h2:j<18446744073709551616):FY i j=true:=by simp[FY,h1,h2]
theorem BO{k:Int}(h1 : -4611686018427387904<=k)(h2:k<4611686018427387904):CZ k=true:=by simp[CZ,h1,h2]
@[simp] theorem W_add_str {x y:Str}:W (A7 (.str x) (.str y)) t P↔x.length+y.length<=LIM/\P (.str (x++y)) t:=by
 have:A7 (.str x) (.str y)=lim (x.length+y.length) (.str (x++y)):=rfl;rw[this];simp
@[simp] theorem W_add_lst {x y:List D}:W (A7 (.lst x) (.lst y)) t P↔x.length+y.length<=LIM/\P (.lst (x++y)) t:=by
 have:A7 (.lst x) (.lst y)=lim (x.length+y.length) (.lst (x++y)):=rfl;rw[this];simp
@[simp] theorem W_cat {x y:List D}{Q:List D->T->Prop}:W (JK (.lst x) (.lst y)) t Q↔x.length+y.length<=LIM/\Q (x++y) t:=by
 have:JK (.lst x) (.lst y)=lim (x.length+y.length) (x++y):=rfl;rw[this];simp
@[simp] theorem fh {i:Int}:W (cI [.int i]) t P↔P (.int (if i<0 then -i else i)) t:=Ay rfl
@[simp] theorem W_min {i j:Int}:W (Lp [.int i,.int j]) t P↔P (.int (if j<i then j else i)) t:=Ay rfl
@[simp] theorem W_max {i j:Int}:W (Lo [.int i,.int j]) t P↔P (.int (if j > i then j else i)) t:=Ay rfl
@[simp] theorem cq {i:Int}:W (GO [.int i]) t P↔P (.int i) t:=Ay rfl
@[simp] theorem W_int_bl {b:Bool}:W (GO [.bl b]) t P↔P (.int (if b then 1 else 0)) t:=Ay rfl
@[simp] theorem W_ord {x:Str}:W (JU [.str x]) t P↔x.length=1/\P (.int (x.cps.getD 0 0:Nat)) t:=IX rfl
@[simp] theorem cz {ds:List D}:W (dI [.lst ds]) t P↔P (.tup ds) t:=Ay rfl
@[simp] theorem W_lst_lst {ds:List D}{Q:List D->T->Prop}:W (Dg [.lst ds]) t Q↔Q ds t:=Ay rfl
@[simp] theorem cy {ds:List D}{Q:List D->T->Prop}:W (Dg [.tup ds]) t Q↔Q ds t:=Ay rfl
@[simp] theorem W_eq_str {g:Bool->Bool}{x y:Str}:W (eqS g (.str x) (.str y)) t P↔P (.bl (g (x==y))) t:=Ay rfl
@[simp] theorem W_eq_int {g:Bool->Bool}{x y:Int}:W (eqS g (.int x) (.int y)) t P↔P (.bl (g (x==y))) t:=Ay rfl
@[simp] theorem W_eq_bl {g:Bool->Bool}{x y:Bool}:W (eqS g (.bl x) (.bl y)) t P↔P (.bl (g (x==y))) t:=Ay rfl
@[simp] theorem W_eq_nil {g:Bool->Bool}{x:List D}:W (eqS g (.lst x) (.lst [])) t P↔P (.bl (g x.isEmpty)) t:=by
 refine Ay ?_
 cases x<;>rfl
theorem IJ{a b:String}:Str.ofString a=Str.ofString b↔a=b:=by
 constructor
 .intro h;rw[Str.ofString_eq_toList,Str.ofString_eq_toList] at h;injection h with h
  have h:=kr Array.toList h;simp only at h;have hinj:∀xs ys:List Char,xs.map Char.toNat=ys.map Char.toNat->xs=ys:=by
   intro xs
   induction xs with
   |nil=>intro ys h;cases ys with|nil=>rfl|cons _ _=>simp at h
   |cons x xs ih=>
     intro ys h
     cases ys with
     |nil=>simp at h
     |cons y ys=>
       simp only[uk6,uj4] at h;rw[ih ys h.2,Char.toNat_inj.mp h.1]
  exact String.toList_inj.mp (hinj _ _ (by simpa using h))
 .exact λh=>by rw[h]
@[simp] theorem YU {a b:String}:(Str.ofString a==Str.ofString b)=(a==b):=by
 rw[Bool.eq_iff_iff,kl,kl,IJ]
@[simp] theorem W_sl_lst {ds:List D}{lo hi:Option Int}:W (Gv (.lst ds) lo hi) t P↔P (.lst (B3 ds lo hi)) t:=Ay rfl
@[simp] theorem cF {ds:List Int}{lo hi:Option Int}:W (Gv (.scr ds) lo hi) t P↔P (.lst ((B3 ds lo hi).map .int)) t:=Ay rfl
@[simp] theorem cG {x:Str}{lo hi:Option Int}:W (Gv (.str x) lo hi) t P↔x.length<=LIM/\P (.str (Txt.slice x lo hi)) t:=by
 have:Gv (.str x) lo hi=lim x.length (.str (Txt.slice x lo hi)):=rfl;rw[this];simp
@[simp] theorem cH {ds:List D}{lo hi:Option Int}:W (Gv (.tup ds) lo hi) t P↔P (.tup (B3 ds lo hi)) t:=Ay rfl
@[simp] theorem W_fSl {f:M D}{l u:M (Option Int)}{h:D->Option Int->Option Int->M D}:W (fSl f l u h) t P↔W f t λx t1=>W l t1 λlo t2=>W u t2 λhi t3=>W (h x lo hi) t3 P:=by simp[fSl]
@[simp] theorem W_fNo {Q:Option Int->T->Prop}:W fNo t Q↔Q none t:=Ay rfl
@[simp] theorem W_asI {i:Int}{Q:Option Int->T->Prop}:W (asI (.int i)) t Q↔Q (some i) t:=Ay rfl
@[simp] theorem W_fPart {f:M D}{Q:Option Int->T->Prop}:W (GB f) t Q↔W f t λx t1=>W (asI x) t1 Q:=by simp[GB]
@[simp] theorem W_fItA {f:M D}{Q:List D->T->Prop}:W (Ey f) t Q↔W f t λx t1=>W (DY x) t1 Q:=by simp[Ey]
@[simp] theorem W_it_lst {ds:List D}{Q:List D->T->Prop}:W (DY (.lst ds)) t Q↔Q ds t:=Ay rfl
@[simp] theorem W_it_tup {ds:List D}{Q:List D->T->Prop}:W (DY (.tup ds)) t Q↔Q ds t:=Ay rfl
@[simp] theorem cD {ds:List Int}{Q:List D->T->Prop}:W (DY (.scr ds)) t Q↔Q (ds.map .int) t:=Ay rfl
@[simp] theorem W_it_str {x:Str}{Q:List D->T->Prop}:W (DY (.str x)) t Q↔Q (x.cps.toList.map λc=>.str ⟨#[c]⟩) t:=Ay rfl
@[simp] theorem W_fRng1 {f:M (List D)}{Q:List D->T->Prop}:W (Da f) t Q↔W f t λx t1=>W (Lz x) t1 Q:=by simp[Da]
@[simp] theorem W_fRng2 {f:M (List D)}{Q:List D->T->Prop}:W (GC f) t Q↔W f t λx t1=>W (LA x) t1 Q:=by simp[GC]
@[simp] theorem W_rng1 {j:Int}{Q:List D->T->Prop}:W (Lz [.int j]) t Q↔CZ j=true/\Q (Bv 0 j.toNat) t:=IX rfl
@[simp] theorem W_rng2 {i j:Int}{Q:List D->T->Prop}:W (LA [.int i,.int j]) t Q↔(CZ i&&CZ j)=true/\Q (Bv i (j-i).toNat) t:=IX rfl
@[simp] theorem W_ownM {i:Nat}{h:List D->List D->Option (List D)}{g:M (List D)}{Q:Out->T->Prop}:W (ownM i h g) t Q↔(∃xs,t.env[i]?=some (some (.own xs)))/\W g t λds t1=>∃xs,t1.env[i]?=some (some (.own xs))/\∃ys,h xs ds=some ys/\Q .next ⟨t1.env.set i (some (.own ys)),t1.S⟩:=by
 constructor
 .rintro⟨o,t',e,p⟩;unfold ownM at e
  split at e
  .next xs e0=>
   refine⟨⟨xs,e0⟩,?_⟩;clear 5(Ai e)ds t1 e1 e;refine⟨ds,t1,e1,?_⟩
   split at e
   .next ys e2=>
    clear 5(uc1.mp e)zs e3 e4
    cases e4
    exact⟨ys,e2,zs,e3,p⟩
   .cases e
  .cases e
 .rintro⟨⟨xs,e0⟩,ds,t1,e1,ys,e2,zs,e3,p⟩;exact⟨_,_,by unfold ownM bnd;simp only[e0,e1,e2,e3,uj2],p⟩
@[simp] theorem app1_one {xs:List D}{d:D}{ys:List D}:Do xs [d]=some ys↔xs.length<LIM/\xs++[d]=ys:=by
 unfold Do;split<;>simp[*]
@[simp] theorem fq {f g:M D}{d:D}{Q:Unit->T->Prop}:W (stD f g d) t Q↔W f t λo t1=>W g t1 λi t2=>W (ZW o i d) t2 Q:=by simp[stD]
end
section
variable{t:T}{P:D->T->Prop}{Q:List D->T->Prop}{R:Out->T->Prop}{B:Bool->T->Prop}{U:Unit->T->Prop}
def FJ(k:Bool)(A B:Prop):Prop:=if k=true then A else B
theorem Gh{k:Bool}{A B:Prop}(h:k=true)(a:A):FJ k A B:=by unfold FJ;rw[kQ h];exact a
theorem Ff{k:Bool}{A B:Prop}(h:k=false)(b:B):FJ k A B:=by unfold FJ;rw[kS (by rw[h];exact ue6)];exact b
theorem Eh{k:Bool}{A B:Prop}(a:k=true->A)(b:k=false->B):FJ k A B:=by cases h:k with
 |true=>exact Gh rfl (a h)
 |false=>exact Ff rfl (b h)
def Dj(g:M Out)(R:Out->T->Prop)(o:Out)(t1:T):Prop:=match o with
 |.next=>W g t1 R
 |o=>R o t1
variable{g:M Out}{t1:T}
theorem FE(h:W g t1 R):Dj g R .next t1:=h
theorem Up{d:D}(h:R (.ret d) t1):Dj g R (.ret d) t1:=h
theorem eJ{f:M Out}(h:W f t (Dj g R)):W (Ah f g) t R:=W_seqS.mpr (h.mono λo t1 h1=>by cases o<;>exact h1)
theorem bW(h:R .next t):W Aq t R:=W_skipS.mpr h
variable{f:M D}
theorem eI(h:W f t λd t1=>R (.ret d) t1):W (An f) t R:=W_retS.mpr h
theorem bI(h:W f t λd t1=>R .next t1):W (D8 f) t R:=W_dropS.mpr h
theorem wIf{f:M Bool}{h:M Out}(w:W f t λk t1=>FJ k (W g t1 R) (W h t1 R)):W (ifS f g h) t R:=W_ifS.mpr w
theorem eK{i:Nat}(h:W f t λd t1=>R .next ⟨t1.env.set i (vw d),t1.S⟩):W (Ax i f) t R:=W_setS.mpr h
theorem eG{i:Nat}{f:M (List D)}(h:W f t λd t1=>R .next ⟨t1.env.set i (some (.own d)),t1.S⟩):W (Fm i f) t R:=W_ownS.mpr h
theorem dN{g:D->M Unit}(h:W f t λd t1=>W (g d) t1 λ_ t2=>R .next t2):W (Dc f g) t R:=W_asgS.mpr h
theorem dS{f:M (List D)}{st:D->M Unit}{b:M Out}(h:W f t λds t1=>W (CF st b ds) t1 R):W (Cn f st b) t R:=W_forS.mpr h
theorem wC{d:D}(h:P d t):W (fC d) t P:=W_fC.mpr h
theorem FR{i:Nat}{d:D}(e:t.env[i]?=some (vw d))(h:P d t):W (Aa i) t P:=by rw[Qz,e];exact h
variable{ds:List D}
theorem b8{i:Nat}(e:t.env[i]?=some (some (.own ds)))(h:P (.lst ds) ⟨t.env.set i (vw (.lst ds)),t.S⟩):W (Aa i) t P:=by rw[Qz,e];exact h
theorem LH{g:M D}{h:D->D->M D}(w:W f t λx t1=>W g t1 λy t2=>W (h x y) t2 P):W (Ac f g h) t P:=W_fBin.mpr w
theorem wUn{h:D->M D}(w:W f t λx t1=>W (h x) t1 P):W (fUn f h) t P:=W_fUn.mpr w
theorem C8{α β:Type}{f:M α}{g:α->M β}{K:β->T->Prop}(w:W f t λx t1=>W (g x) t1 K):W (bnd f g) t K:=W_bnd.mpr w
theorem Qn{b:Bool}(h:B b t):W (toB (.bl b)) t B:=W_toB.mpr h
theorem Qo(h:W f t λx t1=>W (toB x) t1 B):W (Ao f) t B:=W_fTst.mpr h
theorem ac{g w:M D}{h h':D->D->M D}(q:W f t λx t1=>W g t1 λy t2=>W (h x y) t2 λk t3=>W (toB k) t3 λk t4=>FJ k (W w t4 λz t5=>W (h' y z) t5 P) (P (.bl false) t4)):W (FA f g w h h') t P:=W_fChain.mpr q
theorem dJ{f g:M Bool}(h:W f t λk t1=>FJ k (W g t1 B) (B false t1)):W (Hu f g) t B:=W_fAnd.mpr h
theorem wOr{f g:M Bool}(h:W f t λk t1=>FJ k (B true t1) (W g t1 B)):W (fOr f g) t B:=W_fOr.mpr h
theorem eE{f:M Bool}(h:W f t λk t1=>B (!k) t1):W (CD f) t B:=W_fNot.mpr h
theorem bD{g:M D}(h:W f t λx t1=>W (toB x) t1 λk t2=>FJ k (W g t2 P) (P (.bl false) t2)):W (Dp f g) t P:=W_fAndV.mpr h
theorem bP(h:W f t λx t1=>W (toB x) t1 λk t2=>P (.bl (!k)) t2):W (Ja f) t P:=W_fNotV.mpr h
theorem dZ{f:M Bool}{g h:M D}(w:W f t λk t1=>FJ k (W g t1 P) (W h t1 P)):W (fIf f g h) t P:=W_fIf.mpr w
theorem LK(h:Q [] t):W Ad t Q:=W_fNil.mpr h
theorem Fw{g:M (List D)}(h:W f t λd t1=>W g t1 λds t2=>Q (d::ds) t2):W (Ab f g) t Q:=W_fCons.mpr h
def IA(n:Nat)(A:Prop):Prop:=n<=LIM/\A
variable{n:Nat}
theorem CG{A:Prop}(h:n<=LIM)(a:A):IA n A:=⟨h,a⟩
theorem eP{f:M (List D)}(h:W f t λds t1=>IA ds.length (P (.tup ds) t1)):W (AT f) t P:=W_fTup.mpr h
theorem ei{f:M (List D)}(h:W f t λds t1=>IA ds.length (Q ds t1)):W (Bn f) t Q:=W_fLst.mpr h
theorem bS{f:M (List D)}(h:W f t λds t1=>P (.lst ds) t1):W (AK f) t P:=W_fPure.mpr h
theorem eF{f:M (List D)}(h:W f t λds t1=>P (.obj t1.S.length) ⟨t1.env,t1.S++[.lst ds]⟩):W (FI f) t P:=by rw[XA];exact h.mono λds t1 h=>W_newOb.mpr h
theorem KS{g:Fn}{f:M (List D)}(h:W f t λds t1=>Wf g ds t1.S λr S'=>P r ⟨t1.env,S'⟩):W (Am g f) t P:=W_fCall.mpr h
theorem wB{f:M (List D)}{h:List D->M D}(w:W f t λds t1=>W (h ds) t1 P):W (fB f h) t P:=W_fB.mpr w
theorem wBF{f:M (List D)}{h:List D->M (List D)}(w:W f t λds t1=>W (h ds) t1 Q):W (fBF f h) t Q:=W_fBF.mpr w
theorem N4{i:Nat}{d:D}(h:U () ⟨t.env.set i (vw d),t.S⟩):W (AS i d) t U:=W_putV.mpr h
theorem Xl(h:U () t):W (CW []) t U:=W_putNil.mpr h
theorem UG{f:D->M Unit}{g:List D->M Unit}{d:D}(h:W (f d) t λ_ t1=>W (g ds) t1 U):W (A8 f g (d::ds)) t U:=W_putCons.mpr h
theorem eQ{g:List D->M Unit}(e:ds.length=n)(h:W (g ds) t U):W (unS n g (.lst ds)) t U:=W_unS_lst.mpr ⟨e,h⟩
theorem eR{g:List D->M Unit}(e:ds.length=n)(h:W (g ds) t U):W (unS n g (.tup ds)) t U:=W_unS_tup.mpr ⟨e,h⟩
theorem bH{fr:List Nat}{f:M (List D)}{st:D->M Unit}{tst:M Bool}{elt:M D}(h:W f t λds t1=>W (Cm st tst elt ds) ⟨cenv n fr t1.env,t1.S⟩ λxs t'=>IA xs.length (Q xs ⟨t1.env,t'.S⟩)):W (CO n fr f st tst elt) t Q:=W_fComp.mpr h
theorem ak(h:B true t):W JV t B:=W_tTru.mpr h
variable{i:Int}
theorem En{d:D}(e:atI ds i=some d)(h:P d t):W (ixD (.tup ds) (.int i)) t P:=W_ix_tup.mpr ⟨d,e,h⟩
theorem By{d:D}(e:atI ds i=some d)(h:P d t):W (ixD (.lst ds) (.int i)) t P:=W_ix_lst.mpr ⟨d,e,h⟩
theorem Qk(h:P (.int ds.length) t):W (A6 [.lst ds]) t P:=W_len_lst.mpr h
theorem Vb(h:P (.int ds.length) t):W (A6 [.tup ds]) t P:=W_len_tup.mpr h
theorem bN{ds:List Int}(h:P (.int ds.length) t):W (A6 [.scr ds]) t P:=W_len_scr.mpr h
theorem HQ{k:Nat}(e:t.S[k]?=some (.lst ds))(h:P (.int ds.length) t):W (A6 [.obj k]) t P:=W_len_obj.mpr ⟨ds,e,h⟩
theorem Va{x:Str}(e:x.length<=LIM)(h:P (.int x.length) t):W (A6 [.str x]) t P:=W_len_str.mpr ⟨e,h⟩
theorem d6{d:D}{m n:String}{b:Bool}(e:tyD d=some n)(e':Gg n m=some b)(h:P (.bl b) t):W (C6 [d,.ty m]) t P:=W_isi.mpr ⟨n,e,b,e',h⟩
theorem d5{x:D}(h:P (.bl (GD x)) t):W (isC x .non) t P:=W_is_non.mpr h
variable{j:Int}
theorem bA(h:P (.int (i+j)) t):W (A7 (.int i) (.int j)) t P:=W_add_int.mpr h
theorem bZ(h:P (.int (i-j)) t):W (DH (.int i) (.int j)) t P:=W_sub_int.mpr h
theorem eA(h:P (.bl (decide (i<j))) t):W (ltA (.int i) (.int j)) t P:=W_lt_int.mpr h
theorem eh(h:P (.bl (decide (i<=j))) t):W (leA (.int i) (.int j)) t P:=W_le_int.mpr h
theorem dX(h:P (.bl (decide (j<i))) t):W (gtA (.int i) (.int j)) t P:=W_gt_int.mpr h
theorem dU(h:P (.bl (decide (j<=i))) t):W (geA (.int i) (.int j)) t P:=W_ge_int.mpr h
theorem eD(h:P (.int (-i)) t):W (Nx (.int i)) t P:=W_neg.mpr h
theorem LI(h1:0<j)(h2:j<1073741824)(h:P (.int (i/j)) t):W (BQ (.int i) (.int j)) t P:=W_fdiv.mpr ⟨⟨h1,h2⟩,h⟩
theorem HR(h1:0<j)(h:P (.int (i%j)) t):W (B5 (.int i) (.int j)) t P:=W_mod.mpr ⟨h1,h⟩
theorem Qm(h1:FY i j=true)(h:P (.int (i*j)) t):W (CH (.int i) (.int j)) t P:=W_mul_int.mpr ⟨h1,h⟩
theorem Ve{x:Str}{k:Int}(h1:CZ k=true/\x.length*k.toNat<=LIM/\k<=LIM/\x.length<=LIM)(h:P (.str (Txt.mul x k)) t):W (CH (.str x) (.int k)) t P:=W_mul_str.mpr ⟨h1,h⟩
theorem bC{x y:Str}(h:IA (x.length+y.length) (P (.str (x++y)) t)):W (A7 (.str x) (.str y)) t P:=W_add_str.mpr h
theorem bB{x y:List D}(h:IA (x.length+y.length) (P (.lst (x++y)) t)):W (A7 (.lst x) (.lst y)) t P:=W_add_lst.mpr h
theorem dO{x y:List D}(h:IA (x.length+y.length) (Q (x++y) t)):W (JK (.lst x) (.lst y)) t Q:=W_cat.mpr h
theorem eC(h:P (.int (if j<i then j else i)) t):W (Lp [.int i,.int j]) t P:=W_min.mpr h
theorem eB(h:P (.int (if j > i then j else i)) t):W (Lo [.int i,.int j]) t P:=W_max.mpr h
theorem bL{i:Bool}(h:P (.int (if i then 1 else 0)) t):W (GO [.bl i]) t P:=W_int_bl.mpr h
theorem ai{x:Str}(e:x.length=1)(h:P (.int (x.cps.getD 0 0:Nat)) t):W (JU [.str x]) t P:=W_ord.mpr ⟨e,h⟩
theorem bO(h:Q ds t):W (Dg [.lst ds]) t Q:=W_lst_lst.mpr h
theorem UD{g:Bool->Bool}{x y:Str}(h:P (.bl (g (x==y))) t):W (eqS g (.str x) (.str y)) t P:=W_eq_str.mpr h
theorem ad{g:Bool->Bool}{x y:Int}(h:P (.bl (g (x==y))) t):W (eqS g (.int x) (.int y)) t P:=W_eq_int.mpr h
theorem dQ{g:Bool->Bool}{x y:Bool}(h:P (.bl (g (x==y))) t):W (eqS g (.bl x) (.bl y)) t P:=W_eq_bl.mpr h
theorem ae{g:Bool->Bool}{x:List D}(h:P (.bl (g x.isEmpty)) t):W (eqS g (.lst x) (.lst [])) t P:=W_eq_nil.mpr h
theorem eM{lo hi:Option Int}(h:P (.lst (B3 ds lo hi)) t):W (Gv (.lst ds) lo hi) t P:=W_sl_lst.mpr h
theorem wSl{l u:M (Option Int)}{h:D->Option Int->Option Int->M D}(w:W f t λx t1=>W l t1 λlo t2=>W u t2 λhi t3=>W (h x lo hi) t3 P):W (fSl f l u h) t P:=W_fSl.mpr w
variable{K:Option Int->T->Prop}
theorem wNo(h:K none t):W fNo t K:=W_fNo.mpr h
theorem dM(h:K (some i) t):W (asI (.int i)) t K:=W_asI.mpr h
theorem bR(h:W f t λx t1=>W (asI x) t1 K):W (GB f) t K:=W_fPart.mpr h
theorem d7(h:W f t λx t1=>W (DY x) t1 Q):W (Ey f) t Q:=W_fItA.mpr h
theorem d8(h:Q ds t):W (DY (.lst ds)) t Q:=W_it_lst.mpr h
theorem ee(h:Q ds t):W (DY (.tup ds)) t Q:=W_it_tup.mpr h
theorem d9{x:Str}(h:Q (x.cps.toList.map λc=>.str ⟨#[c]⟩) t):W (DY (.str x)) t Q:=W_it_str.mpr h
theorem bT{f:M (List D)}(h:W f t λx t1=>W (Lz x) t1 Q):W (Da f) t Q:=W_fRng1.mpr h
theorem bU{f:M (List D)}(h:W f t λx t1=>W (LA x) t1 Q):W (GC f) t Q:=W_fRng2.mpr h
theorem GX(e:CZ j=true)(h:Q (Bv 0 j.toNat) t):W (Lz [.int j]) t Q:=W_rng1.mpr ⟨e,h⟩
theorem UH(e:(CZ i&&CZ j)=true)(h:Q (Bv i (j-i).toNat) t):W (LA [.int i,.int j]) t Q:=W_rng2.mpr ⟨e,h⟩
theorem bQ{i:Nat}{xs:List D}{h:List D->List D->Option (List D)}{g:M (List D)}(e:t.env[i]?=some (some (.own xs)))(w:W g t λds t1=>∃xs,t1.env[i]?=some (some (.own xs))/\∃ys,h xs ds=some ys/\R .next ⟨t1.env.set i (some (.own ys)),t1.S⟩):W (ownM i h g) t R:=W_ownM.mpr ⟨⟨xs,e⟩,w⟩
theorem dL{i:Nat}{xs:List D}{d:D}{A:List D->Prop}(e:t1.env[i]?=some (some (.own xs)))(w:IA (xs.length+1) (A (xs++[d]))):∃xs,t1.env[i]?=some (some (.own xs))/\∃ys,Do xs [d]=some ys/\A ys:=
 ⟨xs,e,_,app1_one.mpr ⟨w.1,rfl⟩,w.2⟩
end
section
variable{i:Nat}{g:Fn}{d':D}
section
variable{t:T}{P:D->T->Prop}{B:Bool->T->Prop}{Q:List D->T->Prop}
theorem b7{n:Int}{ds:List D}{d:D}(e:t.env[i]?=some (vw (.tup ds)))(a:atI ds n=some d)(h:P d t):W (Ac (Aa i) (gb n) ixD) t P:=LH (FR e (wC (En a h)))
theorem bM{x y:Str}{ds:List D}{g:Bool->Bool}(e:t.env[i]?=some (vw (.tup (.str y::ds))))(h:B (g (y==x)) t):W (Ao (Ac (Ac (Aa i) (gb 0) ixD) (fC (.str x)) (eqS g))) t B:=Qo (LH (LH (FR e (wC (En FU (wC (UD (Qn h))))))))
theorem ao{x y:Str}{g:Bool->Bool}(e:t.env[i]?=some (vw (.str y)))(h:B (g (y==x)) t):W (Ao (Ac (Aa i) (fC (.str x)) (eqS g))) t B:=Qo (LH (FR e (wC (UD (Qn h)))))
theorem am{x y:Int}{g:Bool->Bool}(e:t.env[i]?=some (vw (.int y)))(h:B (g (y==x)) t):W (Ao (Ac (Aa i) (gb x) (eqS g))) t B:=Qo (LH (FR e (wC (ad (Qn h)))))
theorem Xg{d:D}(e:t.env[i]?=some (vw d))(h:Wf g [d] t.S λr S'=>P r ⟨t.env,S'⟩):W (Am g (Ab (Aa i) Ad)) t P:=KS (Fw (FR e (LK h)))
theorem Xh{j:Nat}{d:D}(e:t.env[i]?=some (vw d))(e':t.env[j]?=some (vw d'))(h:Wf g [d,d'] t.S λr S'=>P r ⟨t.env,S'⟩):W (Am g (Ab (Aa i) (Ab (Aa j) Ad))) t P:=KS (Fw (FR e (Fw (FR e' (LK h)))))
theorem Xj{d:D}(e:t.env[i]?=some (vw d))(h:Wf g [d,d'] t.S λr S'=>P r ⟨t.env,S'⟩):W (Am g (Ab (Aa i) (Ab (fC d') Ad))) t P:=KS (Fw (FR e (Fw (wC (LK h)))))
theorem Xi{j k:Nat}{d d'':D}(e:t.env[i]?=some (vw d))(e':t.env[j]?=some (vw d'))(e'':t.env[k]?=some (vw d''))(h:Wf g [d,d',d''] t.S λr S'=>P r ⟨t.env,S'⟩):W (Am g (Ab (Aa i) (Ab (Aa j) (Ab (Aa k) Ad)))) t P:=KS (Fw (FR e (Fw (FR e' (Fw (FR e'' (LK h)))))))
end
end
end L2
namespace LW
open PySem L2
set_option compiler.extract_closed false
local macro_rules | `(tactic| clear 31 $t*)=>`(tactic| with_reducible first $[| refine $t ?_]*)
local macro_rules | `(tactic| clear 32 $t*)=>`(tactic| ((with_reducible first $[| refine' $t ?wv ?_]*);(case wv=>exact rfl)))
local macro_rules | `(tactic| clear 33 $t*)=>`(tactic| ((with_reducible first $[| refine' $t ?wv ?_]*);(case wv=>decide)))
local macro_rules | `(tactic| walk_at"w1")=>`(tactic| first
 |clear 32 bM ao Xg
 |clear 32 am Xj
 |((with_reducible refine' b7 ?wv ?wu ?_);(case wv=>exact rfl);(case wu=>first|exact rfl|exact FU|exact UQ|exact UR))
 |((with_reducible refine' Xh ?wv ?wu ?_);(case wv=>exact rfl);(case wu=>exact rfl))
 |((with_reducible refine' Xi ?wv ?wu ?wt ?_);(case wv=>exact rfl);(case wu=>exact rfl);(case wt=>exact rfl))
 |clear 31 eJ FE Up eK LH wC Fw LK wIf Qo Qn eI KS UD ad dQ bA bZ bW wB wBF bS eP ei eF dN dS dJ wOr eE bD bP dZ ac wUn eD d5 eA eh dX dU Qk Vb bN eC eB bL bO bC bB dO ae wSl wNo bR dM eM d7 d8 ee d9 bT bU N4 Xl UG bH ak eG C8 bI
 |clear 32 FR Gh eQ bQ dL
 |clear 32 Ff b8 eR
 |((with_reducible first|refine' En ?wv ?_|refine' By ?wv ?_);(case wv=>first|exact rfl|exact FU|exact UQ|exact UR))
 |((with_reducible refine CG ?wv ?_);(case wv=>exact ii rfl))
 |((with_reducible refine' d6 ?wv ?wu ?_);(case wv=>exact rfl);(case wu=>exact rfl))
 |((with_reducible refine LI ?wv ?wu ?_);(case wv=>decide);(case wu=>decide))
 |clear 33 HR GX UH)
local macro_rules | `(tactic| right)=>`(tactic| repeat (walk_at"w1"))
structure DeckAt(k c:Nat)(S:List Ob):Prop where
 ne:k≠c
 at_:∃(cells:List Int) (par pos:Int),S[k]?=some (.lst [.obj c,.int par,.int pos])/\S[c]?=some (.lst (cells.map .int))/\cells≠[]/\0<=pos
def fz(k c:Nat)(S S':List Ob):Prop:=S'.length=S.length/\∀j:Nat,j≠k->j≠c->S'[j]?=S[j]?
variable{n:Nat}
theorem Df{i:Int}(h0:0<=i)(h1:i<n):ixN n i=some i.toNat:=by simp[ixN,h0,h1]
variable{S:List Ob}
theorem Jf{k:Nat}{o o':Ob}(h:S[k]?=some o):(S.set k o')[k]?=some o':=by
 obtain⟨hl,_⟩:=ua9.mp h;exact ub8 hl
inductive Sh where
 |nothing|number (lo hi:Int)|text (m:Int)|list (s:Sh) (m:Int)|pair (s r:Sh)|choice (ss:List Sh)
mutual
noncomputable def Sh.d:Sh->D
 |.nothing=>.tup [.str "nothing"]
 |.number lo hi=>.tup [.str "number",.int lo,.int hi]
 |.text m=>.tup [.str "text",.int m]
 |.list s m=>.tup [.str "list",s.d,.int m]
 |.pair s r=>.tup [.str "pair",s.d,r.d]
 |.choice ss=>.tup [.str "choice",.tup (shD ss)]
noncomputable def shD:List Sh->List D
 |[]=>[]
 |s::r=>s.d::shD r
end
mutual
noncomputable def Sh.depth:Sh->Nat
 |.nothing=>1
 |.number _ _=>1
 |.text _=>1
 |.list s _=>s.depth+1
 |.pair s r=>max s.depth r.depth+1
 |.choice ss=>FZ ss+1
noncomputable def FZ:List Sh->Nat
 |[]=>0
 |s::r=>max s.depth (FZ r)
end
theorem Ee:∀ss:List Sh,(shD ss).length=ss.length
 |[]=>rfl
 |s::r=>by simp[shD,Ee r]
theorem Hf:∀(ss:List Sh) (k:Nat),(shD ss)[k]?=(ss[k]?).map Sh.d
 |[],k=>by simp[shD]
 |s::r,0=>by simp[shD]
 |s::r,k+1=>by simp[shD,Hf r k]
theorem Cr:∀(ss:List Sh) (k:Nat) (s:Sh),ss[k]?=some s->s.depth<=FZ ss
 |[],k,s,h=>by simp at h
 |s::r,0,s',h=>by simp at h;subst h;simp[FZ];lia
 |s::r,k+1,s',h=>by
   have:=Cr r k s' (by simpa using h);simp[FZ];lia
theorem Sh.depth_pos(s:Sh):1<=s.depth:=by cases s<;>simp[Sh.depth]
noncomputable def B6(n:Nat):Bool:=decide (32<=n)&&decide (n<=126)&&decide (n≠37)
noncomputable def Hy:Str->Bool:=λo=>o==("of":Str)
mutual
def Al:Sh->D->Bool
 |.nothing,d=>GD d
 |.number lo hi,d=>match d with
   |.int i=>decide (lo<=i)&&decide (i<=hi)
   |_=>false
 |.text m,d=>match d with
   |.str x=>decide ((x.length:Int)<=m)&&x.cps.toList.all B6
   |_=>false
 |.list s m,d=>match d with
   |.lst ds=>decide ((ds.length:Int)<=m)&&ds.all λe=>Al s e
   |_=>false
 |.pair s r,d=>match d with
   |.tup [a,b]=>Al s a&&Al r b
   |_=>false
 |.choice ss,d=>match d with
   |.tup [.str o,.int k,x]=>Hy o&&(decide (0<=k)&&decide (k<ss.length))&&Ks ss k.toNat x
   |_=>false
def Ks:List Sh->Nat->D->Bool
 |[],_,_=>false
 |s::_,0,d=>Al s d
 |_::r,k+1,d=>Ks r k d
end
theorem Cp:∀(ss:List Sh) (k:Nat) (s:Sh) (d:D),ss[k]?=some s->Ks ss k d=Al s d
 |[],k,s,d,h=>by simp at h
 |s::r,0,s',d,h=>by simp at h;subst h;simp[Ks]
 |s::r,k+1,s',d,h=>by rw[Ks];exact Cp r k s' d (by simpa using h)
mutual
noncomputable def okD:D->Bool
 |.str x=>decide (x.length<=90000)
 |.tup xs=>oks xs
 |.lst xs=>oks xs
 |.obj _=>false
 |.scr _=>false
 |.exc _ _=>false
 |.gts _=>false
 |.ty _=>false
 |_=>true
noncomputable def oks:List D->Bool
 |[]=>true
 |d::r=>okD d&&oks r
end
theorem Jk:∀{xs:List D},oks xs=true->∀d∈xs,okD d=true
 |x::r,h,d,m=>by
   rw[oks,uh0] at h;rcases uk5.mp m with z|z
   .subst z;exact h.1
   .exact Jk h.2 d z
abbrev Pure1(f:Fn)(ds:List D)(r:D):Prop:=∀S,Wf f ds S λv S'=>v=r/\S'=S
variable{ds:List D}
theorem Pure1.use{f:Fn}{r:D}(h:Pure1 f ds r){S:List Ob}{P:D->List Ob->Prop}(p:P r S):Wf f ds S P:=(h S).mono λ_ _ ⟨e1,e2⟩=>by subst e1 e2;exact p
noncomputable def Rh:D->Bool
 |.int _=>true
 |_=>false
theorem Ni{d:D}(h:okD d=true):Pure1 (fnOf 1 1 GV) [d] (.bl (Rh d)):=by
 intro S;refine Ak rfl ?_;unfold GV
 cases d<;>first|(simp[okD] at h;done)|(right;exact⟨rfl,rfl⟩)
noncomputable def EL(lo hi:Int):D->Bool
 |.int i=>decide (lo<=i)&&decide (i<=hi)
 |_=>false
def Ol(f:Fn):Prop:=∀d,okD d=true->Pure1 f [d] (.bl (Rh d))
def F6(f:Fn):Prop:=∀d lo hi,okD d=true->Pure1 f [d,.int lo,.int hi] (.bl (EL lo hi d))
variable{c:Fn}
theorem SJ(hc:Ol c):F6 (fnOf 3 3 (D2 c)):=by
 intro d lo hi h S;refine Ak rfl ?_;unfold D2;right;refine(hc d h).use ?_
 cases d with
 |int i=>
   right;refine Eh (λe=>?_) λe=>?_
   .right;exact⟨by simp only[EL,e,ul2],rfl⟩
   .exact⟨by simp only[EL,e,uk0],rfl⟩
 |_=>right;exact⟨rfl,rfl⟩
def J9(f:Fn):Prop:=∀n:Nat,Pure1 f [.int n] (.bl (B6 n))
theorem PF:J9 (fnOf 1 1 ID):=by
 intro n S;refine Ak rfl ?_;unfold ID;right;have c1:decide ((32:Int)<=n)=decide (32<=n):=decide_eq_decide.mpr (by lia);have c2:decide ((n:Int)<=126)=decide (n<=126):=decide_eq_decide.mpr (by lia);have c3:(!((n:Int)==37))=decide (n≠37):=by
  by_cases h:n=37
  .subst h;rfl
  .have:¬((n:Int)=37):=by lia
   simp[h,this]
 rw[c1];refine Eh (λe=>?_) λe=>?_
 .right;rw[c2];refine Eh (λe'=>?_) λe'=>?_
  .right;exact⟨by simp only[B6,e,e',c3,ul2],rfl⟩
  .exact⟨by simp only[B6,e,e',uk0,uk1],rfl⟩
 .right;exact⟨by simp only[B6,e,uk0],rfl⟩
def ME(f:Fn):Prop:=∀m d,okD d=true->Pure1 f [(Sh.text m).d,d] (.bl (Al (.text m) d))
theorem Nd(hc:J9 c):ME (fnOf 2 3 (GU c)):=by
 intro m d h S;refine Ak rfl ?_;unfold GU;rw[Sh.d]
 cases d with
 |str x=>
   have hx:x.length<=LIM:=ul9 (by simpa[okD] using h) (show 90000<=LIM by decide);right;refine Va hx ?_;right;refine Eh (λe=>?_) λe=>?_
   .right;have:¬((x.length:Int)<=m):=by have:=ug4 e;lia
    exact⟨by simp[Al,this],rfl⟩
   .right;have e':(x.length:Int)<=m:=by have:=jb e;lia
    refine Dn (λr t=>t.S=S/\∃cs:List Nat,r=cs.map (λc=>D.str ⟨#[c]⟩)/\(x.cps.toList.all B6=cs.all B6)/\∃z,t.env=[vw (.tup [.str "text",.int m]),vw (.str x),z]) _ _ ⟨rfl,x.cps.toList,rfl,rfl,_,rfl⟩ ?_ ?_
    .rintro d r t ⟨hs,cs,hr,hall,z,ht⟩ _;clear 5 t env S2;subst hs ht
     cases cs with
     |nil=>simp at hr
     |cons c cs=>
       simp only[uk6,uj4] at hr;clear 5 hr rfl rfl;right;refine ai rfl ?_;right;refine(hc c).use ?_;right;refine Eh (λq=>?_) λq=>?_
       .right;have q':B6 c=false:=by simpa using q
        refine⟨?_,rfl⟩;simp only[Al,hall,uk8,q',uk0,uk1]
       .right;have q':B6 c=true:=by simpa using q
        exact⟨rfl,cs,rfl,by rw[hall,uk8,q',ul2],_,rfl⟩
    .rintro t ⟨hs,cs,hr,hall,z,ht⟩;clear 5 t env S2;subst hs ht;have:cs=[]:=by cases cs with|nil=>rfl|cons _ _=>simp at hr
     subst this;right;exact⟨by simp[Al,e',hall],rfl⟩
 |obj _=>simp[okD] at h
 |scr _=>simp[okD] at h
 |ty _=>simp[okD] at h
 |exc _ _=>simp[okD] at h
 |gts _=>simp[okD] at h
 |_=>right;exact⟨by simp[Al],rfl⟩
def GY(f:Fn)(n:Nat):Prop:=∀s:Sh,s.depth<=n->∀d,okD d=true->Pure1 f [s.d,d] (.bl (Al s d))
def Qu(f:Fn)(n:Nat):Prop:=∀(s:Sh) (m:Int),s.depth<=n->∀d,okD d=true->Pure1 f [(Sh.list s m).d,d] (.bl (Al (.list s m) d))
theorem Nb(hc:GY c n):Qu (fnOf 2 3 (GQ c)) n:=by
 intro s m hs d h S;refine Ak rfl ?_;unfold GQ;rw[Sh.d]
 cases d with
 |lst ds=>
   have hx:∀d∈ds,okD d=true:=Jk (by simpa[okD] using h);right;refine Eh (λe=>?_) λe=>?_
   .right;have:¬((ds.length:Int)<=m):=by have:=ug4 e;lia
    exact⟨by simp[Al,this],rfl⟩
   .right;have e':(ds.length:Int)<=m:=by have:=jb e;lia
    refine Dn (λr t=>t.S=S/\(ds.all (λe=>Al s e)=r.all λe=>Al s e)/\∃z,t.env=[vw (.tup [.str "list",s.d,.int m]),vw (.lst ds),z]) _ _ ⟨rfl,rfl,_,rfl⟩ ?_ ?_
    .rintro d r t ⟨hS,hall,z,ht⟩ hm;clear 5 t env S2;subst hS ht;right;refine(hc s hs d (hx d hm)).use ?_;right;refine Eh (λq=>?_) λq=>?_
     .right;have q':Al s d=false:=by simpa using q
      refine⟨?_,rfl⟩;simp only[Al,hall,uk8,q',uk0,uk1]
     .right;have q':Al s d=true:=by simpa using q
      exact⟨rfl,by rw[hall,uk8,q',ul2],_,rfl⟩
    .rintro t ⟨hS,hall,z,ht⟩;clear 5 t env S2;subst hS ht;right;exact⟨by simp only[Al,e',decide_true,hall,List.all_nil,ul2],rfl⟩
 |obj _=>simp[okD] at h
 |scr _=>simp[okD] at h
 |ty _=>simp[okD] at h
 |exc _ _=>simp[okD] at h
 |gts _=>simp[okD] at h
 |_=>right;exact⟨by simp[Al],rfl⟩
def Qy(f:Fn)(n:Nat):Prop:=∀(s r:Sh),s.depth<=n->r.depth<=n->∀d,okD d=true->Pure1 f [(Sh.pair s r).d,d] (.bl (Al (.pair s r) d))
theorem Nc(hc:GY c n):Qy (fnOf 2 2 (GR c)) n:=by
 intro s r hs hr d h S;refine Ak rfl ?_;unfold GR;rw[Sh.d]
 cases d with
 |tup ds=>
   have hx:∀d∈ds,okD d=true:=Jk (by simpa[okD] using h);right
   match ds,hx with
   |[],_=>right;exact⟨by simp[Al],rfl⟩
   |[a],_=>right;exact⟨by simp[Al],rfl⟩
   |[a,b],hx=>
     right;refine(hc s hs a (hx a (by simp))).use ?_;right;refine Eh (λe=>?_) λe=>?_
     .right;refine(hc r hr b (hx b (by simp))).use ?_;exact⟨by simp only[Al,e,ul2],rfl⟩
     .exact⟨by simp only[Al,e,uk0],rfl⟩
   |a::b::e::l,_=>
     refine Gh ?_ ?_
     .show(!(((a::b::e::l).length:Int)==2))=true;simp;lia
     right;exact⟨by simp[Al],rfl⟩
 |obj _=>simp[okD] at h
 |scr _=>simp[okD] at h
 |ty _=>simp[okD] at h
 |exc _ _=>simp[okD] at h
 |gts _=>simp[okD] at h
 |_=>right;exact⟨by simp[Al],rfl⟩
def Mx(f:Fn)(n:Nat):Prop:=∀(ss:List Sh),FZ ss<=n->∀d,okD d=true->Pure1 f [(Sh.choice ss).d,d] (.bl (Al (.choice ss) d))
theorem Lm{c':Fn}(hc:GY c n)(hw:F6 c'):Mx (fnOf 2 2 (FO c c')) n:=by
 intro ss hs d h S;refine Ak rfl ?_;unfold FO;rw[Sh.d]
 cases d with
 |tup ds=>
   have hx:∀d∈ds,okD d=true:=Jk (by simpa[okD] using h);right
   match ds,hx with
   |[],_=>right;exact⟨by simp[Al],rfl⟩
   |[a],_=>right;exact⟨by simp[Al],rfl⟩
   |[a,b],_=>right;exact⟨by simp[Al],rfl⟩
   |[a,b,e],hx=>
     right;have ha:=hx a (by simp)
     cases a with
     |str o=>
       right;refine Eh (λq=>?_) λq=>?_
       .right;have q':Hy o=false:=by simpa[Hy] using q
        refine⟨?_,rfl⟩
        cases b<;>simp only[Al,q',uk0]
       .right;have q':Hy o=true:=by simpa[Hy] using q
        refine(hw b 0 _ (hx b (by simp))).use ?_;right
        cases b with
        |int k=>
          refine Eh (λq=>?_) λq=>?_
          .right;refine⟨?_,rfl⟩;have:(decide (0<=k)&&decide (k<(ss.length:Int)))=false:=by
            have q2:k<0\/((shD ss).length:Int)-1<k:=by simpa[EL] using q
            rw[Ee] at q2;simp;lia
           simp only[Al,this,uk0,uk1]
          .have q2:0<=k/\k<=((shD ss).length:Int)-1:=by simpa[EL] using q
           have q3:=q2;rw[Ee] at q3;have hk:k.toNat<ss.length:=by lia
           have e1:ss[k.toNat]?=some ss[k.toNat]:=ub3 hk;have e2:atI (shD ss) k=some (ss[k.toNat]).d:=by
            unfold atI;rw[Ee,Df q3.1 (by lia)];simp[Hf,e1]
           right;refine En e2 ?_;right;refine(hc _ (ul9 (Cr ss _ _ e1) hs) e (hx e (by simp))).use ?_;refine⟨?_,rfl⟩;have:(decide (0<=k)&&decide (k<(ss.length:Int)))=true:=by simp;lia
           simp only[Al,q',this,ul2,Cp ss _ _ e e1]
        |_=>
          right;exact⟨by simp[Al],rfl⟩
     |obj _=>simp[okD] at ha
     |scr _=>simp[okD] at ha
     |ty _=>simp[okD] at ha
     |exc _ _=>simp[okD] at ha
     |gts _=>simp[okD] at ha
     |_=>right;exact⟨by simp[Al],rfl⟩
   |a::b::e::f::l,_=>
     refine Gh ?_ ?_
     .show(!(((a::b::e::f::l).length:Int)==3))=true;simp;lia
     right;exact⟨by simp[Al],rfl⟩
 |obj _=>simp[okD] at h
 |scr _=>simp[okD] at h
 |ty _=>simp[okD] at h
 |exc _ _=>simp[okD] at h
 |gts _=>simp[okD] at h
 |_=>right;exact⟨by simp[Al],rfl⟩
variable{cc cp ct cw:Fn}
theorem VC{cl:Fn}(h1:Mx cc n)(h2:Qy cp n)(h3:Qu cl n)(h4:ME ct)(h5:F6 cw):GY (fnOf 2 3 (No cc cp cl ct cw)) (n+1):=by
 intro s hs d h S;refine Ak rfl ?_;unfold No
 cases s with
 |nothing=>
   rw[Sh.d];right;exact⟨by rw[Al],rfl⟩
 |number lo hi=>
   rw[Sh.d];right;refine(h5 d lo hi h).use ⟨?_,rfl⟩
   cases d<;>simp[Al,EL]
 |text m=>
   rw[Sh.d];right;exact(h4 m d h).use ⟨rfl,rfl⟩
 |list s m=>
   rw[Sh.depth] at hs;have q:=h3 s m (by lia) d h;rw[Sh.d] at q⊢;right;exact q.use ⟨rfl,rfl⟩
 |pair s r=>
   rw[Sh.depth] at hs;have q:=h2 s r (by lia) (by lia) d h;rw[Sh.d] at q⊢;right;exact q.use ⟨rfl,rfl⟩
 |choice ss=>
   rw[Sh.depth] at hs;have q:=h1 ss (by lia) d h;rw[Sh.d] at q⊢;right;exact q.use ⟨rfl,rfl⟩
theorem LY(x:Array Nat):∀(n:Nat) (acc:Array Nat),((List.replicate n x).foldl (·++·) acc).toList=acc.toList++(List.replicate n x.toList).flatten
 |0,acc=>by simp
 |n+1,acc=>by
   rw[ue1,ui8,LY x n,ue1,uf8];simp
theorem RJ{x:Str}{k:Int}:(Txt.mul x k).cps.toList=(List.replicate k.toNat x.cps.toList).flatten:=by
 unfold Txt.mul
 split
 .have:k.toNat=0:=by lia
  rw[this];rfl
 .split
  .next h=>
   rw[uj3] at h;rcases h with h|h
   .have:k=1:=by simpa using h
    subst this;simp
   .have:x.cps.toList=[]:=by
     have h':x.length=0:=by simpa using h
     exact ua1 (by simpa[Str.length] using h')
    rw[this];simp
  .have:=LY x.cps k.toNat #[];simpa using this
theorem GG(x:Str):x.length=x.cps.toList.length:=by simp[Str.length]
theorem LN(x y:Str):(x++y).cps.toList=x.cps.toList++y.cps.toList:=by
 show(x.cps++y.cps).toList=_;simp
variable{α:Type}
theorem WE(a:α)(k:Nat):(List.replicate k [a]).flatten=List.replicate k a:=by
 induction k with
 |zero=>rfl
 |succ k ih=>rw[ue1,uf8,ih,ue1];rfl
theorem Ih{f:D->D}{fr:List (Option Sl)}{elt:M D}{z:Option Sl}(h:∀d∈ds,W elt ⟨vw d::fr,S⟩ λx t'=>x=f d/\t'=⟨vw d::fr,S⟩) :
 W (Cm (AS 0) JV elt ds) ⟨z::fr,S⟩ λxs t'=>xs=ds.map f/\t'.S=S:=by
 refine(MF (P:=λxs t'=>xs=ds.map f/\t'.S=S) (λacc r t=>acc++r.map f=ds.map f/\∃z,t=⟨z::fr,S⟩) ds [] _ ⟨rfl,z,rfl⟩ ?_ ?_).mono λxs t' h=>h
 .rintro acc d r t ⟨h1,z,rfl⟩ hm;refine N4 (ak ?_);rw[kQ rfl];refine(h d hm).mono λx t' z9=>?_;clear 5 z9 e1 e2;subst e1 e2;exact⟨by rw[uf9];exact h1,_,rfl⟩
 .rintro acc t ⟨h1,z,rfl⟩;exact⟨by simpa using h1,rfl⟩
mutual
noncomputable def sz:D->Nat
 |.tup xs=>szs xs+1
 |.lst xs=>szs xs+1
 |_=>1
noncomputable def szs:List D->Nat
 |[]=>0
 |d::r=>sz d+szs r
end
theorem Xc{x y:Str}(h:x.cps.toList=y.cps.toList):x=y:=by
 cases x;cases y
 congr
 exact Array.toList_inj.mp h
mutual
noncomputable def wf:Sh->Bool
 |.nothing=>true
 |.number lo hi=>decide (-1000000000000000000<lo)&&decide (lo<=hi)&&decide (hi<1000000000000000000)
 |.text m=>decide (0<=m)&&decide (m<=250)
 |.list s m=>decide (0<=m)&&decide (m<=250)&&wf s
 |.pair s r=>wf s&&wf r
 |.choice ss=>decide (1<=ss.length)&&decide (ss.length<=9)&&wfs ss
noncomputable def wfs:List Sh->Bool
 |[]=>true
 |s::r=>wf s&&wfs r
end
mutual
noncomputable def cnt:Sh->Nat
 |.list s _=>cnt s+1
 |.pair s r=>cnt s+cnt r+1
 |.choice ss=>XQ ss+1
 |_=>1
noncomputable def XQ:List Sh->Nat
 |[]=>0
 |s::r=>cnt s+XQ r
end
theorem Ef:∀{ss:List Sh},wfs ss=true->∀s∈ss,wf s=true
 |x::r,h,s,m=>by
   rw[wfs,uh0] at h;rcases uk5.mp m with z|z
   .subst z;exact h.1
   .exact Ef h.2 s z
def Pf(k c l:Nat)(S S':List Ob):Prop:=S'.length=S.length/\∀j:Nat,j≠k->j≠c->j≠l->S'[j]?=S[j]?
noncomputable def Qd(deep:Int):Int:=if deep<2 then 0 else 2*deep+4
def bd(deep x:Int):Int:=if deep<2 then 1 else max x 1+Qd deep-(if deep+1<=x then 1 else 0)
def tb(deep y i:Int):Int:=if deep=2 then i else if i=0 then 0 else y+Qd (deep-1)+i-1-(if deep<=y then 1 else 0)
structure ShapeRes(k c l:Nat)(S:List Ob)(deep x:Int)(s:Sh)(S':List Ob):Prop where
 w:wf s=true
 dep:(s.depth:Int)<=max deep 1
 lft:S'[l]?=some (.lst [.int (x-cnt s)])
 one:x<=1->cnt s=1
 few:(cnt s:Int)<=max x 1+Qd deep
 deck:DeckAt k c S'
 kp:Pf k c l S S'
 few2:(cnt s:Int)<=bd deep x
theorem Nt{k:Int}:(Txt.mul ⟨#[n]⟩ k).cps.toList=List.replicate k.toNat n:=by rw[RJ];exact WE n k.toNat
theorem Nk{k:Int}:(Txt.mul ⟨#[n]⟩ k).length=k.toNat:=by rw[GG,Nt,uc8]
theorem SO{k:Int}(h:B6 n=true):(Txt.mul ⟨#[n]⟩ k).cps.toList.all B6=true:=by
 rw[Nt,uh4];intro x hx;rw[ia hx];exact h
structure Sep(ks:List (Nat×Nat)):Prop where
 sep:∀p∈ks,∀q∈ks,p=q\/(q.1≠p.1/\q.1≠p.2/\q.2≠p.1/\q.2≠p.2)
mutual
noncomputable def dpt:D->Nat
 |.lst ds=>Ga ds+1
 |.tup ds=>Ga ds+1
 |_=>1
noncomputable def Ga:List D->Nat
 |[]=>0
 |d::r=>max (dpt d) (Ga r)
end
theorem Oy:∀{ds:List D}{n:Nat},(∀d∈ds,dpt d<=n)->Ga ds<=n
 |[],n,_=>by simp[Ga]
 |x::r,n,h=>by
   rw[Ga];have h1:=h x ue5;have h2:=Oy λd m=>h d (ud4 _ m);lia
theorem Ox(d:D):0<dpt d:=by cases d<;>simp[dpt]
mutual
noncomputable def smD:D->Bool
 |.str x=>decide (x.length<=300)
 |.int i=>decide (-1000000000000000000000000<i)&&decide (i<1000000000000000000000000)
 |.tup xs=>decide (xs.length<=300)&&sms xs
 |.lst xs=>decide (xs.length<=300)&&sms xs
 |.obj _=>false
 |.scr _=>false
 |.ty _=>false
 |.exc _ _=>false
 |.gts _=>false
 |_=>true
noncomputable def sms:List D->Bool
 |[]=>true
 |d::r=>smD d&&sms r
end
theorem Sm:∀{xs:List D},(∀d∈xs,smD d=true)->sms xs=true
 |[],_=>rfl
 |x::r,h=>by
   rw[sms,uh0];exact⟨h x ue5,Sm λd m=>h d (ud4 _ m)⟩
mutual
theorem U6:∀{d:D},smD d=true->okD d=true
 |.str x,h=>by rw[smD,ug3] at h;rw[okD,ug3];lia
 |.tup xs,h=>by rw[smD,uh0] at h;rw[okD];exact NY h.2
 |.lst xs,h=>by rw[smD,uh0] at h;rw[okD];exact NY h.2
 |.obj _,h=>by simp[smD] at h
 |.scr _,h=>by simp[smD] at h
 |.ty _,h=>by simp[smD] at h
 |.non,_=>by simp[okD]
 |.bl _,_=>by simp[okD]
 |.int _,_=>by simp[okD]
 |.dic,_=>by simp[okD]
theorem NY:∀{xs:List D},sms xs=true->oks xs=true
 |[],_=>by simp[oks]
 |d::r,h=>by rw[sms,uh0] at h;rw[oks,uh0];exact⟨U6 h.1,NY h.2⟩
end
theorem DW{f:D->D->Option Bool}:∀{xs:List D},(∀d∈xs,f d d=some true)->DL f xs xs=some true
 |[],_=>rfl
 |x::r,h=>by
   rw[DL,h x ue5,DW λd m=>h d (ud4 _ m)];rfl
theorem DX:∀(n:Nat) (d:D),dpt d<=n->smD d=true->d≠.dic->(∀xs,d=.lst xs\/d=.tup xs->∀x∈xs,eqN (n-1) x x=some true)->eqN n d d=some true
 |0,d,hd,_,_,_=>absurd hd (by have:=Ox d;lia)
 |n+1,.lst xs,_,_,_,h=>by
   rw[eqN,kQ rfl];exact DW (h xs (.inl rfl))
 |n+1,.tup xs,_,_,_,h=>by
   have e:DL (eqN n) xs xs=some true:=DW (h xs (.inr rfl));rw[eqN,e];simp
 |n+1,.non,_,_,_,_=>rfl
 |n+1,.bl b,_,_,_,_=>by show some (b==b)=some true;rw[ui0]
 |n+1,.int b,_,_,_,_=>by show some (b==b)=some true;rw[ui0]
 |n+1,.str b,_,_,_,_=>by show some (b==b)=some true;rw[ui0]
 |n+1,.dic,_,_,h,_=>absurd rfl h
 |n+1,.obj _,_,h,_,_=>by simp[smD] at h
 |n+1,.scr _,_,h,_,_=>by simp[smD] at h
 |n+1,.ty _,_,h,_,_=>by simp[smD] at h
theorem G7:∀(n:Nat) (s:Sh),s.depth<=n->wf s=true->∀d,Al s d=true->smD d=true/\dpt d<=s.depth/\∀m,s.depth<=m->eqN m d d=some true
 |0,s,h,_,_,_=>absurd s.depth_pos (by lia)
 |n+1,s,hs,hw,d,hf=>by
   have l2:(Str.ofString "of").length<=300:=by decide +kernel
   cases s with
   |nothing=>
     cases d<;>simp[Al,GD] at hf
     refine⟨rfl,by simp[dpt,Sh.depth],λm hm=>?_⟩;have:=(Sh.nothing).depth_pos;obtain⟨m,rfl⟩:∃k,m=k+1:=ib (by lia);exact DX _ _ (by simp[dpt]) rfl (by simp) (by simp)
   |number lo hi=>
     simp only[wf,uh0,ug3] at hw
     cases d<;>simp[Al] at hf
     rename_i i;have sm:smD (.int i)=true:=by
      simp only[smD,uh0,ug3];lia
     refine⟨sm,by simp[dpt,Sh.depth],λm hm=>?_⟩;rw[Sh.depth] at hm;obtain⟨m,rfl⟩:∃k,m=k+1:=ib (by lia);exact DX _ _ (by simp[dpt]) sm (by simp) (by simp)
   |text q=>
     simp only[wf,uh0,ug3] at hw
     cases d<;>simp[Al] at hf
     rename_i x;have sm:smD (.str x)=true:=by
      simp only[smD,ug3];lia
     refine⟨sm,by simp[dpt,Sh.depth],λm hm=>?_⟩;rw[Sh.depth] at hm;obtain⟨m,rfl⟩:∃k,m=k+1:=ib (by lia);exact DX _ _ (by simp[dpt]) sm (by simp) (by simp)
   |list s q=>
     simp only[wf,uh0,ug3] at hw;rw[Sh.depth] at hs
     cases d<;>simp only[Al,ue9] at hf
     rename_i ds;rw[uh0,ug3,uh4] at hf;have ih:=λd m=>G7 n s (by lia) hw.2 d (hf.2 d m);have sm:smD (.lst ds)=true:=by
      rw[smD,uh0,ug3];exact⟨by lia,Sm λd m=>(ih d m).1⟩
     have dd:Ga ds<=s.depth:=Oy λd m=>(ih d m).2.1;refine⟨sm,by rw[dpt,Sh.depth];lia,λm hm=>?_⟩;rw[Sh.depth] at hm;obtain⟨m,rfl⟩:∃k,m=k+1:=ib (by lia);refine DX _ _ (by rw[dpt];lia) sm (by simp) λxs e x hx=>?_;rcases e with e|e
     .cases e;exact(ih x hx).2.2 m (by lia)
     .cases e
   |pair s r=>
     simp only[wf,uh0] at hw;rw[Sh.depth] at hs;unfold Al at hf
     split at hf
     case h_2=>cases hf
     case h_1 a b=>
      rw[uh0] at hf;have i1:=G7 n s (by lia) hw.1 a hf.1;have i2:=G7 n r (by lia) hw.2 b hf.2;have sm:smD (.tup [a,b])=true:=by simp[smD,sms,i1.1,i2.1]
      have h1:=i1.2.1;have h2:=i2.2.1;refine⟨sm,by simp only[dpt,Ga,Sh.depth];lia,λm hm=>?_⟩;rw[Sh.depth] at hm;obtain⟨m,rfl⟩:∃k,m=k+1:=ib (by lia);refine DX _ _ (by simp only[dpt,Ga];lia) sm (by simp) λxs e x hx=>?_;rcases e with e|e
      .cases e
      .cases e
       simp only[uk5,uh5,ky] at hx;rcases hx with rfl|rfl
       .exact i1.2.2 m (by lia)
       .exact i2.2.2 m (by lia)
   |choice ss=>
     simp only[wf,uh0,ug3] at hw;rw[Sh.depth] at hs;unfold Al at hf
     split at hf
     case h_2=>cases hf
     case h_1 o k x=>
      simp only[uh0,ug3] at hf;obtain⟨⟨ho,k0,k1⟩,hf⟩:=hf;have hk:k.toNat<ss.length:=by lia
      have e1:ss[k.toNat]?=some ss[k.toNat]:=ub3 hk;rw[Cp ss _ _ _ e1] at hf;have hd:=Cr ss _ _ e1;have ih:=G7 n _ (by lia) (Ef hw.2 _ (uh6 hk)) x hf;have ho':o.length<=300:=by
       have:o=("of":Str):=by simpa[Hy] using ho
       subst this;exact l2
      have sm:smD (.tup [.str o,.int k,x])=true:=by
       simp only[smD,sms,ih.1,ul1,uh0,ug3,ug6,uj1];lia
      have h1:=ih.2.1;have h2:=Ox x;have p1:=(ss[k.toNat]).depth_pos;refine⟨sm,by simp only[dpt,Ga,Sh.depth];lia,λm hm=>?_⟩;rw[Sh.depth] at hm;obtain⟨m,rfl⟩:∃k,m=k+1:=ib (by lia);refine DX _ _ (by simp only[dpt,Ga];lia) sm (by simp) λxs e y hy=>?_;rcases e with e|e
      .cases e
      .cases e
       obtain⟨m',rfl⟩:∃k,m=k+1:=ib (by lia);simp only[uk5,uh5,ky] at hy;rcases hy with rfl|rfl|rfl
       .exact DX _ _ (by simp[dpt]) (by simp[smD,ho']) (by simp) (by simp)
       .exact DX _ _ (by simp[dpt]) (by simp only[smD,uh0,ug3];lia) (by simp) (by simp)
       .exact ih.2.2 _ (by lia)
variable{t:T}{P:D->T->Prop}
theorem LJ{d:D}{g:Bool->Bool}(h0:TF d=false)(h:eqN EQD d d=some true)(p:P (.bl (g true)) t):W (eqS g d d) t P:=⟨_,_,by simp[eqS,h0,h],p⟩
structure ValueRes(k c l:Nat)(S:List Ob)(s:Sh)(r:D)(S':List Ob):Prop where
 fit:Al s r=true
 lft:∃a b:Int,S'[l]?=some (.lst [.int a,.int b])
 deck:DeckAt k c S'
 kp:Pf k c l S S'
theorem Ju{f:M (List D)}{P:Out->T->Prop}(h:W f t λds t1=>P (.ret (.lst ds)) t1):W (HI f) t P:=W_bnd.mpr (h.mono λ_ _ p=>W_ret.mpr p)
theorem Hi{g:Fn}{f:M (List D)}{P:List D->T->Prop}(h:W f t λds t1=>Wf g ds t1.S λr S'=>∃rs,r=.lst rs/\P rs ⟨t1.env,S'⟩):W (Eo g f) t P:=by
 refine W_bnd.mpr (h.mono λds t1 z9=>?_);clear 5 z9 r S' e rs er p;subst er;exact⟨rs,⟨t1.env,S'⟩,by simp only[e],p⟩
variable{i:Nat}{xs:List D}
theorem Xo{P:Out->T->Prop}(e:t.env[i]?=some (some (.own xs)))(h:P (.ret (.lst xs)) ⟨t.env.set i none,t.S⟩):W (Hd i) t P:=⟨_,_,by simp only[Hd,e],h⟩
theorem bF{i:Int}(h:P (.int (Builtin.Int.intBits i:Nat)) t):W (Ke (.int i)) t P:=⟨_,_,rfl,h⟩
theorem eL{i j:Int}(h0:0<=j)(h:P (.int (i/2 ^ j.toNat)) t):W (NU (.int i) (.int j)) t P:=⟨_,_,by simp[NU,i2C,h0],h⟩
variable{ys:List D}{t1:T}
theorem dR{A:List D->Prop}(e:t1.env[i]?=some (some (.own xs)))(l:xs.length+ys.length<=LIM)(w:A (xs++ys)):∃xs,t1.env[i]?=some (some (.own xs))/\∃zs,Eg xs [.lst ys]=some zs/\A zs:=
 ⟨xs,e,xs++ys,by simp[Eg,l],w⟩
theorem Hm{f:M Bool}{b:M Out}{P:Out->T->Prop}(I:Nat->T->Prop)(turn:∀n t,I n t->W f t λk t1=>match k with
 |true=>∃m,n=m+1/\W b t1 λo t2=>match o with
   |.next=>I m t2
   |.cont=>I m t2
   |.brk=>P .next t2
   |.ret x=>P (.ret x) t2
 |false=>P .next t1):∀(fuel n:Nat) (t:T),n<fuel->I n t->W (DK f b fuel) t P
 |0,n,t,h,_=>absurd h (Nat.not_lt_zero _)
 |fuel+1,n,t,h,i=>by
   clear 5(turn n t i)k t1 e1 p
   cases k with
   |false=>exact⟨_,_,by simp only[DK,e1],p⟩
   |true=>
     clear 5 p m rfl o t2 e2 p
     cases o with
     |next=>clear 5(Hm I turn fuel m t2 (by lia) p)o t' e' p;exact⟨o,t',by simp only[DK,e1,e2];exact e',p⟩
     |cont=>clear 5(Hm I turn fuel m t2 (by lia) p)o t' e' p;exact⟨o,t',by simp only[DK,e1,e2];exact e',p⟩
     |brk=>exact⟨_,_,by simp only[DK,e1,e2],p⟩
     |ret x=>exact⟨_,_,by simp only[DK,e1,e2],p⟩
noncomputable def wid(n:Nat):Nat:=if n=0 then 0 else n.log2/8+1
theorem Rt(h:2<=n):n.log2=(n/2).log2+1:=by rw[Nat.log2_def,kQ h]
theorem TM(h:n<2):n.log2=0:=by rw[Nat.log2_def,kS (by lia)]
theorem Nl:∀(k:Nat){n:Nat},2 ^ k<=n->n.log2=(n/2 ^ k).log2+k
 |0,n,_=>by rw[kg,Nat.div_one,Nat.add_zero]
 |k+1,n,h=>by
   have h2:2 ^ k*2<=n:=by rw[<-um3];exact h
   have h3:2<=n/2 ^ k:=(Nat.le_div_iff_mul_le (Nat.pow_pos (by decide))).mpr (by rw[kf];exact h2);rw[Nl k (ul9 (Nat.le_mul_of_pos_right _ (by decide)) h2),Rt h3,uc3,<-um3,ul3,Nat.add_comm 1 k]
theorem TK(h:256<=n):n.log2=(n/256).log2+8:=Nl 8 h
theorem TL(h:n<256):n.log2<8:=by
 by_cases z:n=0
 .subst z;rw[TM (by lia)];lia
 .exact(Nat.log2_lt z).mpr h
theorem JY(h:0<n):wid n=wid (n/256)+1:=by
 unfold wid;rw[kS (by lia)]
 by_cases z:n<256
 .have:=TL z;rw[kQ (by lia)];lia
 .rw[kS (by lia),TK (by lia)];lia
theorem KZ:∀(k n:Nat),n<256 ^ k->wid n<=k
 |0,n,h=>by
   have:n=0:=by simpa using h
   subst this;decide
 |k+1,n,h=>by
   by_cases z:n=0
   .subst z;exact um9 _
   .rw[JY (by lia)];have:=KZ k (n/256) (Nat.div_lt_of_lt_mul (by rw[um3] at h;lia));lia
theorem SS(n:Nat):((Builtin.Int.intBits (n:Int):Nat)+7)/8=wid n:=by
 unfold Builtin.Int.intBits wid
 by_cases z:n=0
 .subst z;rfl
 .have:((n:Int)==0)=false:=by simp;exact z
  rw[this,kS (by simp),kS z,Int.natAbs_natCast];lia
noncomputable def nb:Nat->Nat->List D
 |0,_=>[]
 |w+1,n=>nb w (n/256)++[.int ((n%256:Nat):Int)]
theorem Nw:∀w n,(nb w n).length=w
 |0,n=>rfl
 |w+1,n=>by rw[nb,ue8,Nw];rfl
theorem RL:∀w n:Nat,(List.range w).map (λk=>D.int ((n/2 ^ (8*(w-1-k))%256:Nat):Int))=nb w n
 |0,n=>rfl
 |w+1,n=>by
   rw[List.range_succ,uj5,nb,<-RL w (n/256)]
   congr 1
   .refine ue2 λk hk=>?_;rw[uj9] at hk;have e:8*(w+1-1-k)=8+8*(w-1-k):=by lia
    rw[e,Nat.pow_add,uc3]
   .simp
mutual
def AL:Sh->D->List D
 |.nothing,_=>[]
 |.number lo hi,d=>match d with
   |.int i=>nb (wid (hi-lo).toNat) (i-lo).toNat
   |_=>[]
 |.text _,d=>match d with
   |.str x=>.int (x.length:Nat)::x.cps.toList.map λn=>D.int (n:Nat)
   |_=>[]
 |.list s _,d=>match d with
   |.lst ds=>.int (ds.length:Nat)::(ds.map λd=>AL s d).flatten
   |_=>[]
 |.pair s r,d=>match d with
   |.tup [a,b]=>AL s a++AL r b
   |_=>[]
 |.choice ss,d=>match d with
   |.tup [_,.int k,x]=>.int k::Kf ss k.toNat x
   |_=>[]
def Kf:List Sh->Nat->D->List D
 |[],_,_=>[]
 |s::_,0,d=>AL s d
 |_::r,k+1,d=>Kf r k d
end
theorem Fz:∀(ss:List Sh) (k:Nat) (s:Sh) (d:D),ss[k]?=some s->Kf ss k d=AL s d
 |[],k,s,d,h=>by simp at h
 |s::r,0,s',d,h=>by simp at h;subst h;simp[Kf]
 |s::r,k+1,s',d,h=>by rw[Kf];exact Fz r k s' d (by simpa using h)
def IU(f:Fn)(n:Nat):Prop:=∀(s:Sh),s.depth<=n->wf s=true->∀d,Al s d=true->(AL s d).length<=LIM->Pure1 f [s.d,d] (.lst (AL s d))
def Ia(f:Fn):Prop:=∀(n j:Nat),j<=1000->Pure1 f [.int n,.int j] (.int ((n/2 ^ (8*j):Nat):Int))
theorem VW:Ia (fnOf 2 2 IF):=by
 intro n j hj S;refine Ak rfl ?_;unfold IF;right;refine Qm (V3 (by decide) (by decide)) ?_;refine eL (by lia) ?_;refine⟨?_,rfl⟩;have:(8*(j:Int)).toNat=8*j:=by lia
 rw[this];simp
def Kb(f:Fn):Prop:=∀n:Nat,n<256 ^ 9->Pure1 f [.int n] (.int (wid n:Nat))
theorem UK:Kb (fnOf 1 1 FQ):=by
 intro n _ S;refine Ak rfl ?_;unfold FQ;right;refine bF ?_;right;refine⟨?_,rfl⟩;rw[<-SS];simp
def Mz(f:Fn):Prop:=∀(n w:Nat),w<=1000->Pure1 f [.int n,.int w] (.lst (nb w n))
theorem LB(i:Int)(n:Nat):Bv i n=(List.range n).map λk:Nat=>D.int (i+k):=by
 rfl
theorem V7(hc:Ia c):Mz (fnOf 2 2 (Fj c)):=by
 intro n w hw S;have hL:LIM=100000:=rfl;refine Ak rfl ?_;unfold Fj;refine Ju ?_;right;refine UH (by rw[BO (by decide) (by decide),BO (by lia) (by lia)];rfl) ?_;refine(Ih (f:=λd=>match d with | .int k=>.int ((n/2 ^ (8*(w-k.toNat))%256:Nat):Int)|_=>d) (fr:=[vw (.int n),vw (.int w)]) ?_).mono ?_
 .intro d m;rw[LB] at m;clear 5(um4.mp m)k hk rfl;rw[uj9] at hk;right;have e:((w:Int)-(1+(k:Int)))=((w-(1+k):Nat):Int):=by lia
  rw[e];refine(hc n (w-(1+k)) (by lia)).use ?_;right;refine⟨?_,rfl⟩;have e2:(1+(k:Int)).toNat=1+k:=by lia
  dsimp only;rw[e2];simp
 .rintro xs t' ⟨rfl,hS⟩;have hn:((w:Int)+1-1).toNat=w:=by lia
  rw[LB,hn];refine CG (by simp only[ui3,List.length_range,hL];lia) ?_;refine⟨?_,hS⟩;rw[<-RL w n,List.map_map]
  congr 1
  refine ue2 λk hk=>?_;rw[uj9] at hk;have e2:(1+(k:Int)).toNat=1+k:=by lia
  have e3:w-(1+k)=w-1-k:=by lia
  simp only[Function.comp,e2,e3]
theorem O6{lo hi:Int}(h:wf (.number lo hi)=true):(hi-lo).toNat<256 ^ 9:=by
 simp only[wf,uh0,ug3] at h;have:(256:Nat) ^ 9=4722366482869645213696:=by decide
 lia
theorem QJ(x:Str):(x.cps.toList.map λc=>D.str ⟨#[c]⟩).map (λd=>match d with | .str y=>D.int (y.cps.getD 0 0:Nat)|_=>d)=x.cps.toList.map λn=>D.int (n:Nat):=by
 rw[List.map_map];refine ue2 λn _=>?_;rfl
variable{cn:Fn}
theorem VB(hc:IU c n)(hw:Kb cw)(hn:Mz cn):IU (fnOf 2 5 (E1 c cw cn)) (n+1):=by
 intro s hs hwf d hf hlen S;have hL:LIM=100000:=rfl;refine Ak rfl ?_;unfold E1
 cases s with
 |nothing=>
   rw[Sh.d];right;refine Ju ?_;right;exact⟨by rw[AL],rfl⟩
 |number lo hi=>
   have hsp:=O6 hwf;have hwd:=KZ 9 _ hsp;simp only[wf,uh0,ug3] at hwf
   cases d<;>simp[Al] at hf
   rename_i i;rw[Sh.d];right;refine Ju (Hi ?_);right;have e1:hi-lo=(((hi-lo).toNat:Nat):Int):=by lia
   have e2:i-lo=(((i-lo).toNat:Nat):Int):=by lia
   rw[e1,e2];refine(hw _ hsp).use ?_;right;refine(hn _ _ (by lia)).use ?_;exact⟨_,rfl,by rw[AL],rfl⟩
 |text q=>
   simp only[wf,uh0,ug3] at hwf
   cases d<;>simp[Al] at hf
   rename_i x;rw[Sh.d];right;refine Ju ?_;refine C8 ?_;right;refine Va (by rw[hL];lia) ?_;right;refine(Ih (f:=λd=>match d with | .str y=>D.int (y.cps.getD 0 0:Nat)|_=>d) (fr:=[]) ?_).mono ?_
   .intro d m;clear 5(um4.mp m)k hk rfl;right;refine ai rfl ?_;exact⟨rfl,rfl⟩
   .rintro xs t' ⟨rfl,hS⟩;rw[QJ];have hl:x.cps.toList.length<=250:=by rw[<-GG];lia
    refine CG (by rw[ui3,hL];lia) ?_;right;refine CG (by simp only[ui3,ug6,uj1,hL];lia) ?_;exact⟨by rw[AL];rfl,hS⟩
 |list s q=>
   simp only[wf,uh0,ug3] at hwf;rw[Sh.depth] at hs
   cases d<;>simp only[Al,ue9] at hf
   rename_i ds;rw[uh0,ug3,uh4] at hf;rw[AL] at hlen⊢;rw[Sh.d];right;refine Dn (λr t=>∃(z:Option Sl) (acc:List D),t=⟨[vw (.tup [.str "list",s.d,.int q]),vw (.lst ds),vw (.str "list"),some (.own acc),z],S⟩/\acc++(r.map λd=>AL s d).flatten=.int (ds.length:Nat)::(ds.map λd=>AL s d).flatten) _ _ ⟨_,_,rfl,rfl⟩ ?_ ?_
   .rintro d r t ⟨z,acc,rfl,hacc⟩ m;rw[uk6,uf8,<-uf9] at hacc;have hl:acc.length+(AL s d).length<=LIM:=by
     have:=kr List.length hacc;rw[ue8,ue8] at this;lia
    right;refine Hi ?_;right;refine(hc s (uc4 hs) hwf.2 d (hf.2 d m) (ul9 (Nat.le_add_left _ _) hl)).use ⟨_,rfl,?_⟩;right;refine dR rfl hl ?_;exact⟨_,_,rfl,hacc⟩
   .rintro t ⟨z,acc,rfl,hacc⟩;rw[um1,List.flatten_nil,ui5] at hacc;right;refine Xo rfl ?_;exact⟨by rw[hacc],rfl⟩
 |pair s r=>
   simp only[wf,uh0] at hwf;rw[Sh.depth] at hs;unfold Al at hf
   split at hf
   case h_2=>cases hf
   case h_1 a b=>
    rw[uh0] at hf;rw[AL] at hlen⊢;rw[ue8] at hlen;rw[Sh.d];right;refine Ju ?_;refine C8 ?_;right;refine Hi ?_;right;refine(hc s (ul9 (Nat.le_max_left _ _) (uc4 hs)) hwf.1 a hf.1 (ul9 (uh3 _ _) hlen)).use ⟨_,rfl,?_⟩;refine C8 ?_;right;refine Hi ?_;right;refine(hc r (ul9 (Nat.le_max_right _ _) (uc4 hs)) hwf.2 b hf.2 (ul9 (Nat.le_add_left _ _) hlen)).use ⟨_,rfl,?_⟩;right;refine CG hlen ?_;exact⟨rfl,rfl⟩
 |choice ss=>
   simp only[wf,uh0,ug3] at hwf;rw[Sh.depth] at hs;unfold Al at hf
   split at hf
   case h_2=>cases hf
   case h_1 o k x=>
    simp only[uh0,ug3] at hf;obtain⟨⟨ho,k0,k1⟩,hf⟩:=hf;have hk:k.toNat<ss.length:=by lia
    have e1:ss[k.toNat]?=some ss[k.toNat]:=ub3 hk;have hl:=Ee ss;have e2:atI (shD ss) k=some (ss[k.toNat]).d:=by
     unfold atI;rw[Df k0 (by lia)];show(shD ss)[k.toNat]?=_;rw[Hf,e1];rfl
    rw[Cp ss _ _ _ e1] at hf;rw[AL] at hlen⊢;rw[Fz ss _ _ _ e1] at hlen⊢;rw[ug6] at hlen;rw[Sh.d];right;refine Ju ?_;right;refine Hi ?_;right;refine En e2 ?_;right;refine(hc _ (ul9 (Cr ss _ _ e1) (uc4 hs)) (Ef hwf.2 _ (uh6 hk)) x hf (Nat.le_of_succ_le hlen)).use ⟨_,rfl,?_⟩;right;refine CG (by simp only[ug6,uj1];lia) ?_;exact⟨rfl,rfl⟩
theorem KH(a:Int)(n:Nat):(Bv a n).length=n:=by simp[Bv]
variable{j:Nat}
theorem Ly{a:Int}{d:D}{r:List D}(e:d::r=(Bv a n).drop j):d=.int (a+j)/\r=(Bv a n).drop (j+1)/\j<n:=by
 have hj:j<(Bv a n).length:=by
  rcases kh j (Bv a n).length with h|h
  .exact h
  .rw[ig h] at e;cases e
 rw[ub1 hj] at e;injection e with e1 e2
 rw[KH] at hj;refine⟨?_,e2,hj⟩;rw[e1];simp[Bv]
noncomputable def sgs:Str:=" !\"#$ &'()*+,-./0123456789:;<=>?@ABCDEFGHIJKLMNOPQRSTUVWXYZ[\\]^_`abcdefghijklmnopqrstuvwxyz{|}~"
theorem ZU{c:Nat}(h:B6 c=true):atI sgs.cps.toList ((c:Int)-32)=some c:=by
 have hl:sgs.cps.toList.length=95:=by decide +kernel
 have hall:(List.range 127).all (λc=>!B6 c||decide (sgs.cps.toList[c-32]?=some c))=true:=by decide +kernel
 have h':=h;simp only[B6,uh0,ug3] at h';have:=uh4.mp hall c (uj9.mpr (by lia));rw[h,Bool.not_true,jr,ug3] at this;rw[show((c:Int)-32)=((c-32:Nat):Int) by lia];exact IY this
variable{f:M D}
section
variable{t:T}{P:D->T->Prop}{R:Out->T->Prop}
def UB(h:D->M Out)(R:Out->T->Prop)(o:Out)(t1:T):Prop:=match o with
 |.ret (.exc n ds)=>n∈B4/\W (h (.exc n ds)) t1 R
 |o=>R o t1
theorem eN{b:M Out}{h:D->M Out}(w:W b t (UB h R)):W (Gy b h) t R:=by
 clear 5 w o t1 e q;have rest:∀d,BI d=false->o=.ret d->W (Gy b h) t R:=λd hd ho=>by
  subst ho;refine⟨.ret d,t1,?_,?_⟩
  .unfold Gy;rw[e];cases d<;>first|rfl|cases hd
  .cases d<;>first|exact q|cases hd
 cases o with
 |next=>exact⟨.next,t1,by unfold Gy;rw[e],q⟩
 |brk=>exact⟨.brk,t1,by unfold Gy;rw[e],q⟩
 |cont=>exact⟨.cont,t1,by unfold Gy;rw[e],q⟩
 |ret d=>
   cases d with
   |exc n ds=>
     clear 5 q hn o2 t2 e2 q2;exact⟨o2,t2,by unfold Gy;rw[e];dsimp only;rw[kQ hn,e2],q2⟩
   |_=>exact rest _ rfl rfl
theorem Sy{h:D->M Out}(q:R .next t1):UB h R .next t1:=q
theorem Xe{h:D->M Out}{n:Str}(e:n∈B4)(q:W (h (.exc n ds)) t1 R):UB h R (.ret (.exc n ds)) t1:=⟨e,q⟩
def xK(d:D)(A B:Prop):Prop:=if BI d=true then A else B
theorem cj{d:D}{A B:Prop}(e:BI d=false)(b:B):xK d A B:=by unfold xK;rw[kS (by rw[e];decide)];exact b
theorem b9{d:D}{A B:Prop}(e:BI d=true)(a:A):xK d A B:=by unfold xK;rw[kQ e];exact a
theorem bV(w:W f t λd t1=>xK d (R (.ret d) t1) (R .next ⟨t1.env.set i (vw d),t1.S⟩)):W (El i f) t R:=by
 refine C8 (w.mono λd t1 q=>?_);unfold xK at q
 split at q
 .next h=>rw[kQ h];exact⟨_,_,rfl,q⟩
 .next h=>rw[kS h];exact⟨_,_,rfl,q⟩
theorem wNx(w:W f t λd t1=>BI d=false/\P d t1):W (nxD f) t P:=by
 refine C8 (w.mono λd t1 z9=>?_);clear 5 z9 h q;rw[kS (by rw[h];decide)];exact⟨_,_,rfl,q⟩
theorem bG{g:M D}{h:D->M D}(w:W g t λy t1=>xK y (P y t1) (W (h y) t1 λd t2=>BI d=false/\P d t2)):W (K9 g h) t P:=by
 refine C8 (w.mono λy t1 q=>?_);unfold xK at q
 split at q
 .next z=>rw[kQ z];exact⟨_,_,rfl,q⟩
 .next z=>rw[kS z];exact wNx q
theorem bE{g:M D}{h:D->D->M D}(w:W f t λx t1=>W (K9 g (h x)) t1 P):W (I9 f g h) t P:=C8 w
theorem Xm{n:Str}{f:M (List D)}(w:W f t λds t1=>ds.length<=1000/\R (.ret (.exc n [])) t1):W (IQ n f) t R:=
 C8 (w.mono λds t1 ⟨e,q⟩=>by rw[kQ e];exact⟨_,_,rfl,q⟩)
theorem Xn{n:Str}(w:W f t λ_ t1=>R (.ret (.exc n [])) t1):W (IQ n (Ab f Ad)) t R:=Xm (Fw (w.mono λd t1 q=>LK ⟨by show 1<=1000;decide,q⟩))
theorem dY{n n':Str}{s:M Out}{r:D->M Out}(e:GW n n'=true)(w:W s t R):W (hNo n' s r (.exc n ds)) t R:=by
 clear 5 w o t2 e1 q;exact⟨o,t2,by unfold hNo;dsimp only;rw[kQ e,e1],q⟩
end
local macro_rules | `(tactic| walk_at"x1")=>`(tactic| first
 |walk_at"w1" |clear 31 eN bV wNx bE bG Sy|clear 33 Xe|clear 32 cj|clear 32 b9|clear 31 Xn|clear 33 dY)
local macro_rules | `(tactic| left)=>`(tactic| repeat (walk_at"x1"))
inductive Rd where
 |done (v:D)
 |need (ok:Nat->Bool) (nx:Nat->Rd)
inductive RR where
 |told (v:D) (a:Nat)
 |short
 |broken (a:Nat)
noncomputable def Rd.run:Rd->List Nat->Nat->RR
 |.done v,_,a=>.told v a
 |.need ok nx,w,a=>match w[a]? with
   |none=>.short
   |some b=>if ok b=true then(nx b).run w (a+1) else .broken a
noncomputable def Rd.bnd:Rd->(D->Rd)->Rd
 |.done v,k=>k v
 |.need ok nx,k=>.need ok λb=>(nx b).bnd k
def RR.thn(r:RR)(w:List Nat)(k:D->Rd):RR:=match r with
 |.told v a=>(k v).run w a
 |.short=>.short
 |.broken a=>.broken a
variable{w:List Nat}{a:Nat}
theorem Cz{ok:Nat->Bool}{nx:Nat->Rd}(h:w[a]?=none):(Rd.need ok nx).run w a=.short:=by rw[Rd.run,h]
variable{b:Nat}
theorem Bx{ok:Nat->Bool}{nx:Nat->Rd}(h:w[a]?=some b):(Rd.need ok nx).run w a=if ok b=true then(nx b).run w (a+1) else .broken a:=by rw[Rd.run,h]
theorem Ed(k:D->Rd)(w:List Nat):∀(p:Rd) (a:Nat),(p.bnd k).run w a=(p.run w a).thn w k:=by
 intro p
 induction p with
 |done v=>intro a;rfl
 |need ok nx ih=>
   intro a;rw[Rd.bnd]
   cases h:w[a]? with
   |none=>rw[Cz h,Cz h];rfl
   |some b=>
     rw[Bx h,Bx h]
     by_cases q:ok b=true
     .rw[kQ q,kQ q];exact ih b (a+1)
     .rw[kS q,kS q];rfl
variable{v:D}
theorem Hh:∀(p:Rd) (a:Nat),a<=w.length->p.run w a=.told v b->a<=b/\b<=w.length:=by
 intro p
 induction p with
 |done v'=>intro a ha h;cases h;exact⟨um8 _,ha⟩
 |need ok nx ih=>
   intro a ha h
   cases e:w[a]? with
   |none=>rw[Cz e] at h;cases h
   |some c=>
     rw[Bx e] at h;have hl:=(ua9.mp e).1
     by_cases q:ok c=true
     .rw[kQ q] at h;have:=ih c (a+1) hl h;lia
     .rw[kS q] at h;cases h
def Rd.good:Rd->Prop
 |.done _=>True
 |.need ok nx=>(ok 0=true\/ok 32=true)/\∀b,ok b=true->(nx b).good
noncomputable def HG(lo:Int)(M:Nat):Nat->Nat->Rd
 |0,x=>.done (.int (lo+x))
 |r+1,x=>.need (λb=>decide (x*256+b<=M/2 ^ (8*r))) λb=>HG lo M r (x*256+b)
def IL:Nat->List Nat->Rd
 |0,cs=>.done (.str ⟨cs.toArray⟩)
 |n+1,cs=>.need B6 λc=>IL n (cs++[c])
def HF(p:Rd):Nat->List D->Rd
 |0,ds=>.done (.lst ds)
 |n+1,ds=>p.bnd λv=>HF p n (ds++[v])
def pSh:Nat->Sh->Rd
 |0,_=>.done .non
 |_+1,.nothing=>.done .non
 |_+1,.number lo hi=>HG lo (hi-lo).toNat (wid (hi-lo).toNat) 0
 |_+1,.text q=>.need (λb=>decide ((b:Int)<=q)) λb=>IL b []
 |n+1,.list s q=>.need (λb=>decide ((b:Int)<=q)) λb=>HF (pSh n s) b []
 |n+1,.pair s r=>(pSh n s).bnd λv=>(pSh n r).bnd λu=>.done (.tup [v,u])
 |n+1,.choice ss=>.need (λb=>decide (b<ss.length)) λb=>(pSh n (ss.getD b .nothing)).bnd λv=>.done (.tup [.str "of",.int b,v])
mutual
noncomputable def plD:D->Bool
 |.lst xs=>pls xs
 |.tup xs=>pls xs
 |.obj _=>false
 |.scr _=>false
 |.ty _=>false
 |.exc _ _=>false
 |.gts _=>false
 |.dic=>false
 |_=>true
noncomputable def pls:List D->Bool
 |[]=>true
 |d::r=>plD d&&pls r
end
noncomputable def pos(i:Int):Int:=if 0<i then i else 0
structure ValueRes2(k c l:Nat)(S:List Ob)(s:Sh)(a b:Int)(r:D)(S':List Ob):Prop where
 fit:Al s r=true
 lft:∃a' b':Int,S'[l]?=some (.lst [.int a',.int b'])/\((AL s r).length:Int)<=9*(a-a')+(pos b-pos b')/\pos b'<=pos b/\1<=a-a'/\a-a'<=cnt s+(14*(s.depth:Int))*pos a
 deck:DeckAt k c S'
 kp:Pf k c l S S'
mutual
noncomputable def szE:D->Nat
 |.lst xs=>1+Uv xs
 |.tup xs=>1+Uv xs
 |_=>1
noncomputable def Uv:List D->Nat
 |[]=>0
 |d::r=>szE d+Uv r
end
structure VOk(s:Sh)(v:D):Prop where
 fit:Al s v=true
 len:(AL s v).length<=14809
local macro_rules | `(tactic| walk_at"y1")=>`(tactic| first
 |walk_at"x1")
local macro_rules | `(tactic| symm)=>`(tactic| repeat (walk_at"y1"))
noncomputable def wD(w:List Nat):List D:=w.map λ(n:Nat)=>D.int (n:Int)
theorem AE(w:List Nat):(wD w).length=w.length:=by unfold wD;rw[ui3]
theorem SD(h:w[a]?=some b):(wD w)[a]?=some (.int (b:Int)):=by unfold wD;rw[uf6,h];rfl
abbrev exS:D:=.exc "Short" []
abbrev exB(a:Nat):D:=.exc "Broken" [.int (a:Int),.non]
noncomputable def rrD:RR->D
 |.told v b=>.tup [v,.int (b:Int)]
 |.short=>exS
 |.broken a=>exB a
noncomputable def byX:Option Nat->D
 |none=>exS
 |some b=>.int (b:Int)
noncomputable def upX(m:Int)(a:Nat):Option Nat->D
 |none=>exS
 |some b=>if (b:Int)<=m then .int (b:Int) else exB a
def sgX(a:Nat):Option Nat->D
 |none=>exS
 |some c=>if B6 c=true then .str ⟨#[c]⟩ else exB a
def RX(c:Fn)(s:Sh)(p:Rd):Prop:=∀(w:List Nat) (a:Nat),a<=w.length->Pure1 c [s.d,.lst (wD w),.int (a:Int)] (rrD (p.run w a))
noncomputable def seg(w:List Nat)(a b:Nat):List Nat:=(w.drop a).take (b-a)
theorem E7(x y:List Nat):wD (x++y)=wD x++wD y:=by unfold wD;rw[uj5]
theorem OO:∀(r y:Nat),nb (r+1) y=.int ((y/256 ^ r%256:Nat):Int)::nb r y
 |0,y=>by rw[nb,nb,nb,kg,Nat.div_one];rfl
 |r+1,y=>by
   rw[show nb (r+1+1) y=nb (r+1) (y/256)++[.int ((y%256:Nat):Int)] from rfl,OO r (y/256),uh7,show nb (r+1) y=nb r (y/256)++[.int ((y%256:Nat):Int)] from rfl,uc3,show 256*256 ^ r=256 ^ (r+1) by rw[um3,kf]]
variable{kvs:List (Key×D)}
theorem Bj{x:Str}{d:D}(e:t.S[n]?=some (.dct kvs))(e2:Ba kvs (.inr x)=some d)(h:P d t):W (Bh (.obj n) (.str x)) t P:=
 ⟨d,t,by simp only[Bh,e,e2];rfl,h⟩
theorem N5{g:M D}{d:D}{U:Unit->T->Prop}(h:W f t λo t1=>W g t1 λi t2=>W (Hg o i d) t2 U):W (GJ f g d) t U:=C8 (h.mono λo t1 h1=>C8 h1)
theorem CA{x:Str}{d:D}{U:Unit->T->Prop}(e:t.S[n]?=some (.dct kvs))(hl:kvs.length<LIM)(h:U () ⟨t.env,t.S.set n (.dct (BJ kvs (.inr x) d))⟩):W (Hg (.obj n) (.str x) d) t U:=
 ⟨(),_,by simp only[Hg,e,kQ hl],h⟩
theorem HN{l:List (Str×M D)}(h:W (Ep l) ⟨t.env,t.S++[.dct []]⟩ λps t1=>t1.S[t.S.length]?=some (.dct [])/\ps.length<=15/\P (.obj t.S.length) ⟨t1.env,t1.S.set t.S.length (.dct (Bc ps))⟩):W (EU l) t P:=by
 clear 5 h ps t1 e1 e2 e3 p;refine⟨_,_,?_,p⟩;unfold EU bnd;simp only[e1];unfold F0;simp only[e2,kQ e3]
theorem D7{Q:List (Key×D)->T->Prop}(h:Q [] t):W (Ep []) t Q:=⟨_,_,rfl,h⟩
theorem Bp{k:Str}{r:List (Str×M D)}{Q:List (Key×D)->T->Prop}(h:W f t λd t1=>W (Ep r) t1 λps t2=>Q ((.inr k,d)::ps) t2):W (Ep ((k,f)::r)) t Q:=
 C8 (h.mono λd t1 h1=>C8 (h1.mono λps t2 h2=>⟨_,_,rfl,h2⟩))
structure St where
 rest:Int
 mixed:Bool
 turn:Int
noncomputable def St.ob(s:St):Ob:=.dct [(.inr (Str.ofString "rest"),.int s.rest),(.inr (Str.ofString "mixed"),.bl s.mixed),(.inr (Str.ofString "turn"),.int s.turn)]
noncomputable def take(s:St)(m:Int):Int×St:=
 if s.mixed=false then(s.rest%m,⟨s.rest/m,s.mixed,s.turn⟩)
 else
  let stir:=(s.rest%2147483579+70001*(s.turn+1))%2147483579
  let rest:=(stir*stir%2147483563*50021+7)%2147483579
  (rest/5%m,⟨rest,s.mixed,s.turn+1⟩)
theorem D4(a:Int)(n:Nat):(Bv a n).length=n:=by simp[Bv]
inductive GS where
 |fin
 |st (side:Str) (ws:List (Str×Sh×Int))
def wdD(w:Str×Sh×Int):D:=.tup [.str w.1,w.2.1.d,.int w.2.2]
def GS.d:GS->D
 |.fin=>.tup [.str (Str.ofString "end")]
 |.st side ws=>.tup [.str side,.lst (ws.map wdD)]
noncomputable def GS.isFin:GS->Bool
 |.fin=>true
 |_=>false
theorem Fr{a:Int}{d:D}{r:List D}(e:d::r=(Bv a n).drop j):d=.int (a+j)/\r=(Bv a n).drop (j+1)/\j<n:=by
 have hj:j<(Bv a n).length:=by
  rcases kh j (Bv a n).length with h|h
  .exact h
  .rw[ig h] at e;cases e
 rw[ub1 hj] at e;injection e with e1 e2
 rw[D4] at hj;refine⟨?_,e2,hj⟩;rw[e1];simp[Bv]
structure WOk(n:Int)(w:Str×Sh×Int):Prop where
 ok:wf w.2.1=true
 dep:w.2.1.depth<=3
 lo:0<=w.2.2
 hi:w.2.2<n
 nm:w.1.length<=90000
inductive GSOk(n:Int):GS->Prop
 |fin:GSOk n .fin
 |st {side:Str}{ws:List (Str×Sh×Int)}:(side=Str.ofString "left"\/side=Str.ofString "right")->0<ws.length->ws.length<=9->(ws.map (·.1)).Nodup->(∀w∈ws,WOk n w)->GSOk n (.st side ws)
structure GOk(g:List GS):Prop where
 ne:0<g.length
 le:g.length<=30
 all:∀x∈g,GSOk g.length x
def EG(f:Fn):Prop:=∀(n:Int) (x:GS),GSOk n x->Pure1 f [x.d] (.bl x.isFin)
theorem Rk:EG (fnOf 1 1 JO):=by
 intro n x hx S;refine Ak rfl ?_;unfold JO
 cases hx with
 |fin=>
   rw[GS.d];right;exact⟨by simp[GS.isFin],rfl⟩
 |st hs _ _ _ _=>
   rw[GS.d];right;refine⟨?_,rfl⟩;rcases hs with rfl|rfl<;>simp[GS.isFin]
def GS.words:GS->D
 |.fin=>.tup []
 |.st _ ws=>.lst (ws.map wdD)
noncomputable def GS.ws:GS->List (Str×Sh×Int)
 |.fin=>[]
 |.st _ ws=>ws
def K6(f:Fn):Prop:=∀(n:Int) (x:GS),GSOk n x->Pure1 f [x.d] x.words
variable{ce:Fn}
theorem UN(he:EG ce):K6 (fnOf 1 1 (HD ce)):=by
 intro n x hx S;refine Ak rfl ?_;unfold HD
 cases x with
 |fin=>
   right;refine(he n .fin hx).use ?_;right;exact⟨rfl,rfl⟩
 |st side ws=>
   right;refine(he n (.st side ws) hx).use ?_;rw[GS.d];right;exact⟨rfl,rfl⟩
noncomputable def NG:Option Nat->D
 |some i=>.int i
 |none=>.non
def JE(f:Fn):Prop:=∀(n:Int) (x:GS) (nm:Str),GSOk n x->Pure1 f [x.d,.str nm] (NG (x.ws.findIdx? λw=>w.1==nm))
theorem Iw{p:α->Bool}{l:List α}(h:∀i (hi:i<l.length),i<j->p l[i]=false){x:α}(hx:l[j]?=some x)(hp:p x=true):l.findIdx? p=some j:=by
 clear 5(ua9.mp hx)hj e;rw[List.findIdx?_eq_some_iff_getElem];exact⟨hj,by rw[e];exact hp,λi hi=>by simpa using h i (by lia) hi⟩
theorem Lu(hw:K6 cw):JE (fnOf 2 4 (FP cw)):=by
 intro n x nm hx S;refine Ak rfl ?_;unfold FP;right;refine(hw n x hx).use ?_;have key:∀(ws:List (Str×Sh×Int)) (d:D),ws.length<=9->(∀(t:T) (P:D->T->Prop),P (.int ws.length) t->W (A6 [d]) t P)->(∀(t:T) (P:D->T->Prop) (i:Nat) (w:Str×Sh×Int),ws[i]?=some w->P (wdD w) t->W (ixD d (.int i)) t P)->
  W (Ah (Cn (Da (Ab (fB (Ab (Aa 2) Ad) A6) Ad)) (AS 3)
  (ifS (Ao (Ac (Ac (Ac (Aa 2) (Aa 3) ixD) (gb 0) ixD) (Aa 1) (eqS id)))
  (An (Aa 3))
  Aq))
 (An (fC .non))) ⟨[vw x.d,vw (.str nm),vw d,none],S⟩ λo t=>match o with
   |.ret r=>r=NG (ws.findIdx? λw=>w.1==nm)/\t.S=S
   |.next=>D.non=NG (ws.findIdx? λw=>w.1==nm)/\t.S=S
   |_=>False:=by
   intro ws d hl len ix;right;refine len _ _ ?_;right;refine GX (BO (by lia) (by lia)) ?_;refine Dn (λr t=>∃(j:Nat) (e3:Option Sl),(∀i (hi:i<ws.length),i<j->(ws[i].1==nm)=false)/\j<=ws.length/\r=(Bv 0 ((ws.length:Nat):Int).toNat).drop j/\t=⟨[vw x.d,vw (.str nm),vw d,e3],S⟩) _ _ ⟨0,none,λi hi h=>absurd h (by lia),by lia,rfl,rfl⟩ ?_ ?_
   .rintro d' r t ⟨j,e3,hj,hjl,hr,rfl⟩ _;clear 5(Fr hr)rfl hr' hjn;rw[uf7] at hjn;have e:ws[j]?=some ws[j]:=ub3 hjn;rw[um5];right;refine ix _ _ j _ e ?_;unfold wdD;right;refine Eh (λq=>?_) λq=>?_
    .right;refine⟨?_,rfl⟩;rw[Iw hj e q];rfl
    .right;refine⟨j+1,_,λi hi hij=>?_,by lia,hr',rfl⟩;rcases kh i j with h|h
     .exact hj i hi h
     .have:i=j:=by lia
      subst this;exact q
   .rintro t ⟨j,e3,hj,hjl,hr,rfl⟩;have hj':j=ws.length:=by
     have:=kr List.length hr;rw[uj1,ug9,D4,uf7] at this;lia
    subst hj';right;refine⟨?_,rfl⟩;rw[List.findIdx?_eq_none_iff.mpr]
    .rfl
    .intro w hw';clear 5(List.mem_iff_getElem.mp hw')i hi rfl;exact hj i hi hi
 cases hx with
 |fin=>
   refine FE ?_;refine key [] (.tup []) (by decide) (λt P h=>Vb h) λt P i w e h=>?_;simp at e
 |@st side ws h1 h2 h3 h4 h5=>
   refine FE ?_;refine key ws (.lst (ws.map wdD)) h3 (λt P h=>Qk (by rw[ui3];exact h)) λt P i w e h=>?_;obtain⟨hi,_⟩:=ua9.mp e;refine By ?_ h;unfold atI;rw[Df (by lia) (by rw[ui3];lia)];show(ws.map wdD)[(i:Int).toNat]?=_;rw[uf7,uf6,e];rfl
theorem Vo{x:Int}:eqN n (.int x) (.int x)=some true:=by
 cases n<;>(show some (x==x)=some true;rw[ui0])
theorem Vq(h:∀x∈xs,eqN n x x=some true):eqN (n+1) (.tup xs) (.tup xs)=some true:=by
 rw[eqN,DW h];simp
theorem Vp(h:∀x∈xs,eqN n x x=some true):eqN (n+1) (.lst xs) (.lst xs)=some true:=by
 rw[eqN,kQ rfl,DW h]
noncomputable def GS.side:GS->Str
 |.fin=>Str.ofString "end"
 |.st s _=>s
noncomputable def Ap(g:List GS)(q:Nat):GS:=g.getD q .fin
def wdAt(g:List GS)(q p:Nat):Str×Sh×Int:=(Ap g q).ws.getD p (Str.ofString "",.nothing,0)
def Co(g:List GS)(q p:Nat):Nat:=(wdAt g q p).2.2.toNat
def ED(g:List GS)(q p:Nat)(v:D):D:=.tup [.str (Ap g q).side,.str (wdAt g q p).1,v]
abbrev Mv:=Nat×D
def Aj(g:List GS):Nat->List Mv->Nat
 |q,[]=>q
 |q,(p,_)::r=>Aj g (Co g q p) r
def AB(g:List GS):Nat->List Mv->List D
 |_,[]=>[]
 |q,(p,v)::r=>ED g q p v::AB g (Co g q p) r
def BP(g:List GS):Nat->List Mv->List D
 |_,[]=>[]
 |q,(p,_)::r=>.tup [.int q,.int p]::BP g (Co g q p) r
structure MvOk(g:List GS)(q:Nat)(p:Nat)(v:D):Prop where
 lt:q<g.length
 pl:p<(Ap g q).ws.length
 fit:Al (wdAt g q p).2.1 v=true
def okQ(g:List GS):Nat->List Mv->Prop
 |_,[]=>True
 |q,(p,v)::r=>MvOk g q p v/\okQ g (Co g q p) r
theorem Cq(g:List GS):∀(q:Nat) (a b:List Mv),Aj g q (a++b)=Aj g (Aj g q a) b
 |q,[],b=>rfl
 |q,(p,v)::r,b=>by rw[uh7,Aj,Aj,Cq g _ r b]
theorem IG(g:List GS):∀(q:Nat) (a b:List Mv),AB g q (a++b)=AB g q a++AB g (Aj g q a) b
 |q,[],b=>rfl
 |q,(p,v)::r,b=>by rw[uh7,AB,AB,Aj,IG g _ r b];rfl
theorem HJ(g:List GS):∀(q:Nat) (a b:List Mv),BP g q (a++b)=BP g q a++BP g (Aj g q a) b
 |q,[],b=>rfl
 |q,(p,v)::r,b=>by rw[uh7,BP,BP,Aj,HJ g _ r b];rfl
theorem Ec(g:List GS):∀(q:Nat) (a b:List Mv),okQ g q (a++b)↔okQ g q a/\okQ g (Aj g q a) b
 |q,[],b=>by simp[okQ,Aj]
 |q,(p,v)::r,b=>by rw[uh7,okQ,okQ,Aj,Ec g _ r b,and_assoc]
theorem CV(g:List GS):∀(q:Nat) (a:List Mv),(AB g q a).length=a.length
 |q,[]=>rfl
 |q,(p,v)::r=>by rw[AB,ug6,CV g _ r,ug6]
theorem E6(g:List GS):∀(q:Nat) (a:List Mv),(BP g q a).length=a.length
 |q,[]=>rfl
 |q,(p,v)::r=>by rw[BP,ug6,E6 g _ r,ug6]
theorem IH(g:List GS):∀(q:Nat) (a:List Mv) (i:Nat) (p:Nat) (v:D),a[i]?=some (p,v)->(AB g q a)[i]?=some (ED g (Aj g q (a.take i)) p v)
 |q,[],i,p,v,h=>by simp at h
 |q,(p',v')::r,0,p,v,h=>by
   simp at h;clear 5 h rfl rfl;rfl
 |q,(p',v')::r,i+1,p,v,h=>by
   rw[AB,ic,IH g _ r i p v (by simpa using h),ue3,Aj]
variable{g:List GS}{q:Nat}
theorem TX{a:List Mv}(h:okQ g q a)(i:Nat):okQ g q (a.take i):=by
 rw[<-ud1 i a,Ec] at h;exact h.1
theorem Lq{a:List Mv}(h:okQ g q a){i p:Nat}{v:D}(e:a[i]?=some (p,v)):MvOk g (Aj g q (a.take i)) p v:=by
 clear 5(ua9.mp e)hi e';have hd:a.drop i=(p,v)::a.drop (i+1):=by rw[ub1 hi,e']
 rw[<-ud1 i a,Ec,hd,okQ] at h;exact h.2.1
theorem CK(h:GOk g){q:Nat}(hq:q<g.length):GSOk g.length (Ap g q):=by
 unfold Ap;rw[ua8,ub3 hq];exact h.all _ (uh6 hq)
theorem C5(hq:q<g.length):atI (g.map GS.d) q=some (Ap g q).d:=by
 unfold atI;rw[Df (by lia) (by rw[ui3];lia)];show(g.map GS.d)[(q:Int).toNat]?=_;unfold Ap;rw[uf7,uf6,ua8,ub3 hq];rfl
variable{p:Nat}
theorem E5(hp:p<(Ap g q).ws.length):∃side ws,Ap g q=.st side ws/\p<ws.length/\ws[p]?=some (wdAt g q p):=by
 unfold wdAt
 cases e:Ap g q with
 |fin=>rw[e] at hp;simp[GS.ws] at hp
 |st side ws=>
   rw[e] at hp;have hp:p<ws.length:=hp;refine⟨side,ws,rfl,hp,?_⟩;show ws[p]?=some (ws.getD p _);rw[ua8,ub3 hp];rfl
theorem IT{ws:List (Str×Sh×Int)}{w:Str×Sh×Int}(e:ws[p]?=some w):atI (ws.map wdD) p=some (wdD w):=by
 obtain⟨hp,_⟩:=ua9.mp e;unfold atI;rw[Df (by lia) (by rw[ui3];lia)];show(ws.map wdD)[(p:Int).toNat]?=_;rw[uf7,uf6,e];rfl
theorem E8(h:GOk g){q p:Nat}(hq:q<g.length)(hp:p<(Ap g q).ws.length):WOk g.length (wdAt g q p):=by
 clear 5(E5 hp)side ws e hp' e2;have:=CK h hq;rw[e] at this
 cases this with
 |st _ _ _ _ h5=>exact h5 _ (ud6 e2)
theorem OP(h:GOk g){q p:Nat}(hq:q<g.length)(hp:p<(Ap g q).ws.length):Co g q p<g.length:=by
 have:=E8 h hq hp;unfold Co;have h1:=this.lo;have h2:=this.hi;lia
theorem Jj{g:List GS}(h:GOk g):∀{a:List Mv}{q:Nat},q<g.length->okQ g q a->Aj g q a<g.length
 |[],q,hq,_=>hq
 |(p,v)::r,q,hq,hk=>by
   rw[okQ] at hk;rw[Aj];exact Jj h (OP h hq hk.1.pl) hk.2
theorem Py{ws:List (Str×Sh×Int)}(nd:(ws.map (·.1)).Nodup){p:Nat}{w:Str×Sh×Int}(e:ws[p]?=some w):(ws.findIdx? λx=>x.1==w.1)=some p:=by
 clear 5(ua9.mp e)hp ep;refine Iw (λi hi hip=>?_) e (by simp);rw[<-ep];have hne:¬ws[i].1=ws[p].1:=λz=>by
  have h1:i<(ws.map (·.1)).length:=by rw[ui3];exact hi
  have h2:p<(ws.map (·.1)).length:=by rw[ui3];exact hp
  have:(ws.map (·.1))[i]=(ws.map (·.1))[p]:=by rw[List.getElem_map,List.getElem_map];exact z
  have:=(ug5 nd).mp this;lia
 simpa using hne
theorem OR:∀{xs:List D},(∀d∈xs,okD d=true)->oks xs=true
 |[],_=>by rw[oks]
 |d::r,h=>by rw[oks,h d ue5,OR λx m=>h x (ud4 _ m)];rfl
theorem Gc:∀(n:Nat) (s:Sh),s.depth<=n->wf s=true->∀v,Al s v=true->okD v=true
 |0,s,h,_,_,_=>absurd s.depth_pos (by lia)
 |n+1,s,hd,hw,v,h=>by
   cases s with
   |nothing=>cases v<;>first|rfl|(simp[Al,GD] at h;done)
   |number lo hi=>cases v<;>first|rfl|(simp[Al] at h;done)
   |text q=>
     simp only[wf,uh0,ug3] at hw
     cases v<;>simp only[Al,ue9] at h
     simp only[uh0,ug3] at h;rw[okD,ug3];lia
   |list s q=>
     rw[Sh.depth] at hd;simp only[wf,uh0,ug3] at hw
     cases v<;>simp only[Al,ue9] at h
     simp only[uh0,ug3,uh4] at h;rw[okD];exact OR λd m=>Gc n s (by lia) hw.2 d (h.2 d m)
   |pair a b=>
     rw[Sh.depth] at hd;simp only[wf,uh0] at hw;unfold Al at h
     split at h
     .rw[uh0] at h;rw[okD,oks,oks,oks,Gc n a (by lia) hw.1 _ h.1,Gc n b (by lia) hw.2 _ h.2];rfl
     .cases h
   |choice ss=>
     rw[Sh.depth] at hd;simp only[wf,uh0,ug3] at hw;unfold Al at h
     split at h
     .next o k x=>
      simp only[uh0,ug3] at h;have hk:k.toNat<ss.length:=by lia
      have e1:ss[k.toNat]?=some ss[k.toNat]:=ub3 hk;have h2:=h.2;rw[Cp ss _ _ _ e1] at h2;have ho:o=("of":Str):=eq_of_beq h.1.1;have hx:=Gc n _ (ul9 (Cr ss _ _ e1) (by lia)) (Ef hw.2 _ (uh6 hk)) x h2;subst ho;have hl:okD (.str ("of":Str))=true:=by decide +kernel
      rw[okD,oks,oks,oks,oks,hl,hx];rfl
     .cases h
def Hl(f:Fn):Prop:=∀(g:List GS) (q p:Nat) (v:D),GOk g->MvOk g q p v->Pure1 f [(Ap g q).d,ED g q p v] (.int p)
variable{cf:Fn}
theorem Mh(hf:GY cf 3)(hp:JE cp):Hl (fnOf 2 3 (Gm cf cp)):=by
 intro g q p v hg hm S;refine Ak rfl ?_;unfold Gm;clear 5(E5 hm.pl)side ws e hpl ew;have hgs:=CK hg hm.lt;have hw:=E8 hg hm.lt hm.pl;have hfit:=hm.fit;unfold ED;rw[e] at hgs⊢;generalize wdAt g q p=w at ew hw hfit⊢;have hov:okD v=true:=Gc 3 w.2.1 hw.dep hw.ok v hfit;show W _ ⟨[vw (.tup [.str side,.lst (ws.map wdD)]),vw (.tup [.str side,.str w.1,v]),none],S⟩ _;right;refine Ff (by simp) ?_;right;have hpn:=hp g.length (.st side ws) w.1 hgs;have hidx:((GS.st side ws).ws.findIdx? λx=>x.1==w.1)=some p:=by
  cases hgs with
  |st _ _ _ h4 _=>exact Py h4 ew
 rw[hidx] at hpn;refine hpn.use ?_;show Dj _ _ .next ⟨[vw (.tup [.str side,.lst (ws.map wdD)]),vw (.tup [.str side,.str w.1,v]),vw (.int p)],S⟩;right;refine By (IT ew) ?_;unfold wdD;right;refine(hf w.2.1 hw.dep v hov).use ?_;rw[hfit];right;exact⟨rfl,rfl⟩
def Ib(f:Fn):Prop:=∀(g:List GS) (q p:Nat),GOk g->q<g.length->p<(Ap g q).ws.length->Pure1 f [.lst (g.map GS.d),.tup [.int q,.int p]] (.int (Co g q p))
theorem V5:Ib (fnOf 2 2 Go):=by
 intro g q p hg hq hp S;refine Ak rfl ?_;unfold Go;clear 5(E5 hp)side ws e hpl ew;have hw:=E8 hg hq hp;have hlo:=hw.lo;right;refine By (C5 hq) ?_;rw[e,GS.d];right;refine By (IT ew) ?_;unfold wdD;right;refine⟨?_,rfl⟩;unfold Co
 congr 1
 lia
def IW(f:Fn):Prop:=∀(g:List GS) (mv:List Mv),GOk g->okQ g 0 mv->mv.length<=5000->Pure1 f [.lst (g.map GS.d),.lst (AB g 0 mv)] (.lst (BP g 0 mv))
variable{y:D}
theorem t7{a0 a1 e4 e5 e6:Option Sl}{x:D}{X Y:List D}(h:x=y)(h2:X=Y):(⟨[a0,a1,vw x,some (.own X),e4,e5,e6],S⟩:T)=⟨[a0,a1,vw y,some (.own Y),e4,e5,e6],S⟩:=by subst h h2;rfl
theorem Uu(hn:Ib cn)(hp:Hl cp):IW (fnOf 2 7 (HB cn cp)):=by
 intro g mv hg hk hl S;have hL:LIM=100000:=rfl;refine Ak rfl ?_;unfold HB;right;rw[CV];refine GX (BO (by lia) (by lia)) ?_;refine Dn (λr t=>∃(j:Nat) (e4 e5 e6:Option Sl),j<=mv.length/\r=(Bv 0 ((mv.length:Nat):Int).toNat).drop j/\t=⟨[vw (.lst (g.map GS.d)),vw (.lst (AB g 0 mv)),vw (.int (Aj g 0 (mv.take j))),some (.own (BP g 0 (mv.take j))),e4,e5,e6],S⟩) _ _ ⟨0,none,none,none,by lia,rfl,rfl⟩ ?_ ?_
 .rintro d' r t ⟨j,e4,e5,e6,hjl,hr,rfl⟩ _;clear 5(Fr hr)rfl hr' hjn;rw[uf7] at hjn;rw[um5]
  cases em:mv[j]? with
  |none=>rw[ub2] at em;lia
  |some x=>
  clear 5 x p v;have hm:=Lq hk em;have hmsg:=IH g 0 mv j p v em;have hmi:atI (AB g 0 mv) j=some (ED g (Aj g 0 (mv.take j)) p v):=by
   unfold atI;rw[Df (by lia) (by rw[CV];lia)];show(AB g 0 mv)[(j:Int).toNat]?=_;rw[uf7,hmsg]
  have htk:mv.take (j+1)=mv.take j++[(p,v)]:=by
   rw[List.take_succ,em];rfl
  right;refine By (C5 hm.lt) ?_;right;refine By hmi ?_;right;refine(hp g _ p v hg hm).use ?_;right;refine CG (by rw[E6,ug8,hL];lia) ?_;right;refine(hn g _ p hg hm.lt hm.pl).use ?_;refine⟨j+1,_,_,_,hjn,hr',t7 ?_ ?_⟩
  .rw[htk,Cq];rfl
  .rw[htk,HJ];rfl
 .rintro t ⟨j,e4,e5,e6,hjl,hr,rfl⟩;have hj':j=mv.length:=by
   have:=kr List.length hr;rw[uj1,ug9,D4,uf7] at this;lia
  subst hj';rw[uh8];right;exact⟨rfl,rfl⟩
def Hj(f:Fn):Prop:=∀(g:List GS) (mv:List Mv),GOk g->okQ g 0 mv->mv.length<=5000->Pure1 f [.lst (g.map GS.d),.lst (AB g 0 mv)] (.int (Aj g 0 mv))
theorem QC{cs:Fn}(hn:Ib cn)(hs:IW cs):Hj (fnOf 2 3 (Fk cn cs)):=by
 intro g mv hg hk hl S;refine Ak rfl ?_;unfold Fk;right;refine(hs g mv hg hk hl).use ?_;right;rw[E6];refine Eh (λq=>?_) λq=>?_
 .have:mv=[]:=by
   have:(mv.length:Int)=0:=by simpa using q
   exact List.length_eq_zero_iff.mp (by lia)
  subst this;right;exact⟨rfl,rfl⟩
 .have hne:mv≠[]:=by intro z;subst z;simp at q
  obtain⟨mv',x,rfl⟩:∃l x,mv=l++[x]:=⟨mv.dropLast,mv.getLast hne,(List.dropLast_concat_getLast hne).symm⟩;clear 5 x p v;rw[Ec] at hk;have hm:=hk.2.1;have hst:BP g 0 (mv'++[(p,v)])=BP g 0 mv'++[.tup [.int (Aj g 0 mv'),.int p]]:=by rw[HJ];rfl
  rw[hst];have hlast:atI (BP g 0 mv'++[D.tup [.int (Aj g 0 mv'),.int p]]) (-1)=some (.tup [.int (Aj g 0 mv'),.int p]):=by
   unfold atI ixN;simp only[ue8,ug6,uj1];rw[kS (by lia),kQ (by lia)];rw[show(-1+((BP g 0 mv').length+(0+1):Nat):Int).toNat=(BP g 0 mv').length by lia];simp
  right;refine By hlast ?_;right;refine(hn g _ p hg hm.lt hm.pl).use ?_;rw[Cq];exact⟨rfl,rfl⟩
def JG(f:Fn):Prop:=∀(g:List GS) (mv:List Mv),GOk g->okQ g 0 mv->mv.length<=5000->Pure1 f [.lst (g.map GS.d),.lst (AB g 0 mv)] (.bl (Ap g (Aj g 0 mv)).isFin)
variable{cb:Fn}
theorem Qp(hb:Hj cb)(he:EG ce):JG (fnOf 2 2 (HA cb ce)):=by
 intro g mv hg hk hl S;refine Ak rfl ?_;unfold HA;right;refine(hb g mv hg hk hl).use ?_;have hlt:=Jj hg hg.ne hk;refine By (C5 hlt) ?_;right;exact(he _ _ (CK hg hlt)).use ⟨rfl,rfl⟩
abbrev kR:Key:=.inr (Str.ofString "rest")
abbrev kM:Key:=.inr (Str.ofString "mixed")
abbrev kC:Key:=.inr (Str.ofString "count")
abbrev ba(a b c:D):List (Key×D):=[(kR,a),(kM,b),(kC,c)]
def Room(k r:Nat)(S:List Ob):Prop:=∃(a c:Int) (b:Bool),S[k]?=some (.dct (ba (.int a) (.bl b) (.int c)))/\0<=c/\c+r<=1000000000000000000000000000000
theorem AD{k:Nat}{o o':Ob}(h:S[k]?=some o):(S.set k o')[k]?=some o':=Jf h
theorem BC{x:Ob}:(S++[x])[S.length]?=some x:=by simp
noncomputable def cs:Nat->Nat
 |0=>10
 |d+1=>10+3*cs d
structure Drawn(k r:Nat)(dp:Nat)(v:D)(S':List Ob):Prop where
 ex:∃s:Sh,v=s.d/\s.depth<=dp/\wf s=true
 pool:Room k r S'
noncomputable def vB:Nat->Nat
 |0=>10
 |m+1=>10+vB m*3
structure Val(k r:Nat)(s:Sh)(c:Nat)(v:D)(S':List Ob):Prop where
 fit:Al s v=true
 len:(AL s v).length<=c
 pool:Room k r S'
def hd1(x:Str):Option Nat:=x.cps.toList.head?
def okB(g:List GS):Nat->List Mv->Prop
 |_,[]=>True
 |q,(p,v)::r=>(AL (wdAt g q p).2.1 v).length<=400/\okB g (Co g q p) r
structure TOk(g:List GS)(mv:List Mv):Prop where
 ok:okQ g 0 mv
 bd:okB g 0 mv
 len:mv.length<=60
theorem KU{k:Nat}{h:List D->List D->Option (List D)}{g:M (List D)}(w:W f t λo t1=>o=.obj k/\∃xs0,t1.S[k]?=some (.lst xs0)/\W g t1 λds t2=>∃xs ys,t2.S[k]?=some (.lst xs)/\h xs ds=some ys/\P .non ⟨t2.env,t2.S.set k (.lst ys)⟩):W (objM h f g) t P:=by
 unfold objM;refine W_bnd.mpr (w.mono λo t1 z9=>?_);clear 5 z9 e xs0 e1 w;subst e;clear 5 w ds t2 e2 xs ys e3 e4 p;refine⟨_,_,?_,p⟩;simp only[e1,bnd,e2,e3,e4];rfl
def Ag(g:List GS)(sd:Str):Nat->List Mv->List D
 |_,[]=>[]
 |q,(p,v)::r=>(if (Ap g q).side=sd then .int p::AL (wdAt g q p).2.1 v else [])++Ag g sd (Co g q p) r
theorem Cj(g:List GS)(sd:Str):∀(q:Nat) (a b:List Mv),Ag g sd q (a++b)=Ag g sd q a++Ag g sd (Aj g q a) b
 |q,[],b=>rfl
 |q,(p,v)::r,b=>by rw[uh7,Ag,Ag,Aj,Cj g sd _ r b,uf9]
theorem KO(g:List GS):∀(q:Nat) (a:List Mv) (i:Nat) (p:Nat) (v:D),a[i]?=some (p,v)->(BP g q a)[i]?=some (.tup [.int (Aj g q (a.take i)),.int p])
 |q,[],i,p,v,h=>by simp at h
 |q,(p',v')::r,0,p,v,h=>by
   simp at h;clear 5 h rfl rfl;rfl
 |q,(p',v')::r,i+1,p,v,h=>by
   rw[BP,ic,KO g _ r i p v (by simpa using h),ue3,Aj]
abbrev kL:Key:=.inr (Str.ofString "left")
abbrev kRt:Key:=.inr (Str.ofString "right")
theorem kLR:¬kL=kRt:=by intro h;injection h with h;rw[IJ] at h;exact absurd h (by decide)
theorem kRL:¬kRt=kL:=λh=>kLR h.symm
theorem sLR:¬Str.ofString "left" = Str.ofString "right":=λh=>kLR (kr Sum.inr h)
theorem G9{a b:D}:Ba [(kL,a),(kRt,b)] kL=some a:=by simp[Ba,uj0]
theorem Ha{a b:D}:Ba [(kL,a),(kRt,b)] kRt=some b:=by
 unfold Ba;rw[uj0,show decide (kL=kRt)=false from uj8 kLR];simp[uj0]
theorem Fg{a b:D}:Bc [(kL,a),(kRt,b)]=[(kL,a),(kRt,b)]:=by
 unfold Bc;simp only[ui8,List.foldl_nil];have e1:BJ [] kL a=[(kL,a)]:=by simp[BJ]
 rw[e1];unfold BJ;rw[kS (by simp only[uk9,ki,uk7,ug3];exact kLR)];rfl
theorem VY{a b d:D}:BJ [(kL,a),(kRt,b)] kL d=[(kL,d),(kRt,b)]:=by
 unfold BJ;rw[kQ (by simp)];simp only[uk6,um1,kz,kS kRL]
theorem VZ{a b d:D}:BJ [(kL,a),(kRt,b)] kRt d=[(kL,a),(kRt,d)]:=by
 unfold BJ;rw[kQ (by simp)];simp only[uk6,um1,kz,kS kLR]
theorem LF(hg:GOk g){q p:Nat}{v:D}(h:MvOk g q p v):(Ap g q).side=Str.ofString "left"\/(Ap g q).side=Str.ofString "right":=by
 clear 5(E5 h.pl)side ws e hpl ew;have:=CK hg h.lt;rw[e] at this⊢
 cases this with
 |st hs _ _ _ _=>exact hs
abbrev sL:Str:=Str.ofString "left"
abbrev sR:Str:=Str.ofString "right"
structure Wr(K A B:Nat)(S:List Ob)(xs ys:List D):Prop where
 k:S[K]?=some (.dct [(kL,.obj A),(kRt,.obj B)])
 a:S[A]?=some (.lst xs)
 b:S[B]?=some (.lst ys)
 ab:A≠B
 ka:K≠A
 kb:K≠B
theorem KM{o x:Ob}(h:i≠j)(e:S[j]?=some o):(S.set i x)[j]?=some o:=by rw[ud5 h];exact e
variable{B:Nat}
theorem Wr.setA{K A:Nat}{zs:List D}(h:Wr K A B S xs ys):Wr K A B (S.set A (.lst zs)) zs ys:=⟨KM (Ne.symm h.ka) h.k,Jf h.a,KM h.ab h.b,h.ab,h.ka,h.kb⟩
theorem Wr.setB{K A:Nat}{zs:List D}(h:Wr K A B S xs ys):Wr K A B (S.set B (.lst zs)) xs zs:=⟨KM (Ne.symm h.kb) h.k,KM (Ne.symm h.ab) h.a,Jf h.b,h.ab,h.ka,h.kb⟩
def FrO(F:List (Nat×Ob))(k:Nat)(S:List Ob):Prop:=∀p∈F,p.1≠k/\S[p.1]?=some p.2
def fw(F:List (Nat×Ob))(S:List Ob):Prop:=∀p∈F,S[p.1]?=some p.2
def aw(F:List (Nat×Ob))(k r:Nat)(S:List Ob):Prop:=Room k r S/\FrO F k S
structure ValF(F:List (Nat×Ob))(k r:Nat)(s:Sh)(c:Nat)(v:D)(S':List Ob):Prop where
 fit:Al s v=true
 len:(AL s v).length<=c
 pool:aw F k r S'
noncomputable def GS.sd:GS->Str
 |.fin=>Str.ofString "end"
 |.st s _=>s
inductive Odd(x:GS):D->Prop
 |non:Odd x .non
 |lst {ds:List D}:Odd x (.lst ds)
 |two {a b:D}:Odd x (.tup [a,b])
 |four {a b c d:D}:Odd x (.tup [a,b,c,d])
 |sideN {b c:D}:Odd x (.tup [.non,b,c])
 |side {s:Str}{b c:D}:¬s=x.sd->Odd x (.tup [.str s,b,c])
 |nmN {s:Str}{c:D}:Odd x (.tup [.str s,.non,c])
 |nmI {s:Str}{i:Int}{c:D}:Odd x (.tup [.str s,.int i,c])
 |nm {s nm:Str}{c:D}:(x.ws.findIdx? λw=>w.1==nm)=none->Odd x (.tup [.str s,.str nm,c])
 |val {s nm:Str}{c:D}{p:Nat}{w:Str×Sh×Int}:(x.ws.findIdx? λw=>w.1==nm)=some p->x.ws[p]?=some w->okD c=true->Al w.2.1 c=false->Odd x (.tup [.str s,.str nm,c])
def Rq(n:Nat)(d:D):Prop:=∀m,n<=m->eqN m d d=some true
theorem Rq.mono{m:Nat}{d:D}(h:Rq n d)(e:n<=m):Rq m d:=λk hk=>h k (ul9 e hk)
theorem NP{i:Int}:Rq n (.int i):=λm _=>by cases m<;>(show some (i==i)=some true;rw[ui0])
theorem Sd{i:Str}:Rq n (.str i):=λm _=>by cases m<;>(show some (i==i)=some true;rw[ui0])
theorem KI(h:∀x∈xs,Rq n x):Rq (n+1) (.tup xs):=λm hm=>by
 obtain⟨k,rfl⟩:∃k,m=k+1:=ib (by lia);have e:DL (eqN k) xs xs=some true:=DW λx hx=>h x hx k (by lia);rw[eqN,e];simp
theorem Sc(h:∀x∈xs,Rq n x):Rq (n+1) (.lst xs):=λm hm=>by
 obtain⟨k,rfl⟩:∃k,m=k+1:=ib (by lia);rw[eqN,kQ rfl];exact DW λx hx=>h x hx k (by lia)
theorem cK{p:D->Prop}{a:D}(h:p a):∀x∈[a],p x:=λx hx=>by rw[uf0.mp hx];exact h
theorem cL{p:D->Prop}{a b:D}(h:p a)(h2:p b):∀x∈[a,b],p x:=λx hx=>(uk5.mp hx).elim (λe=>by rw[e];exact h) (cK h2 x)
theorem XD{p:D->Prop}{a b c:D}(h:p a)(h2:p b)(h3:p c):∀x∈[a,b,c],p x:=λx hx=>(uk5.mp hx).elim (λe=>by rw[e];exact h) (cL h2 h3 x)
def mB:Nat->Nat
 |0=>0
 |m+1=>10+vB m*2+mB m*2
structure Mis(n:Nat)(s:Sh)(v:D):Prop where
 ok:okD v=true
 no:Al s v=false
 rq:Rq n v
structure Fit(n:Nat)(s:Sh)(v:D):Prop where
 ok:okD v=true
 fit:Al s v=true
 rq:Rq n v
theorem Ym{s:Sh}(hn:s.depth<=n)(hw:wf s=true)(h:Al s v=true):Fit n s v:=by
 clear 5(G7 s.depth s (um8 _) hw v h)h1 h2 h3;exact⟨U6 h1,h,λm hm=>h3 m (ul9 hn hm)⟩
def Gr(S S':List Ob):Prop:=S.length<=S'.length/\∀i,i<S.length->S'[i]?=S[i]?
theorem Gr.trans{S S1 S2:List Ob}(a:Gr S S1)(b:Gr S1 S2):Gr S S2:=⟨ul9 a.1 b.1,λi h=>(b.2 i (ue4 h a.1)).trans (a.2 i h)⟩
theorem Gr.app{ex:List Ob}:Gr S (S++ex):=⟨by rw[ue8];lia,λi h=>ub0 h⟩
theorem Gr.set{S S':List Ob}{k:Nat}{o:Ob}(a:Gr S S')(h:S.length<=k):Gr S (S'.set k o):=⟨by rw[uj6];exact a.1,λi hi=>by rw[ud5 (by lia)];exact a.2 i hi⟩
theorem Gr.get{S S':List Ob}{k:Nat}{o:Ob}(a:Gr S S')(h:S[k]?=some o):S'[k]?=some o:=by rw[a.2 k (ua9.mp h).1];exact h
abbrev lr(a b:D):List (Key×D):=[(kL,a),(kRt,b)]
abbrev dW(l r:List Nat):List (Key×D):=lr (.lst (wD l)) (.lst (wD r))
abbrev dP(a b:Nat):List (Key×D):=lr (.int a) (.int b)
noncomputable def onS{α:Type}(s:Str)(a b:α):α:=if s=sL then a else b
variable{s:Str}
theorem IB{a b:D}(h:s=sL\/s=sR):Ba (lr a b) (.inr s)=some (onS s a b):=by
 unfold onS;rcases h with rfl|rfl
 .rw[kQ rfl];exact G9
 .rw[kS (Ne.symm sLR)];exact Ha
theorem Rv{a b d:D}(h:s=sL\/s=sR):BJ (lr a b) (.inr s) d=lr (onS s d a) (onS s b d):=by
 unfold onS;rcases h with rfl|rfl
 .rw[kQ rfl,kQ rfl];exact VY
 .rw[kS (Ne.symm sLR),kS (Ne.symm sLR)];exact VZ
inductive Sr where
 |stop
 |brk (k:Nat) (s:Str)
 |next (m:D) (h a b:Nat)
def msgR(side:Str)(ws:List (Str×Sh×Int))(w:List Nat)(p:Nat):RR×Nat:=match w[p]? with
 |none=>(.short,0)
 |some c=>match ws[c]? with
   |none=>(.broken p,0)
   |some wd=>((pSh 3 wd.2.1).run w (p+1),c)
def HE(side:Str)(ws:List (Str×Sh×Int))(w:List Nat)(p:Nat):D:=match msgR side ws w p with
 |(.short,_)=>.non
 |(.broken k,_)=>.exc "Broken" [.int k,.str side]
 |(.told v e,c)=>.tup [.tup [.str side,.str (ws.getD c (Str.ofString "",.nothing,0)).1,v],.int (ws.getD c (Str.ofString "",.nothing,0)).2.2,.int e]
def BK(g:List GS)(wl wr:List Nat)(h a b:Nat):Sr:=match Ap g h with
 |.fin=>.stop
 |.st side ws=>match msgR side ws (onS side wl wr) (onS side a b) with
   |(.short,_)=>.stop
   |(.broken k,_)=>.brk k side
   |(.told v e,c)=>.next (.tup [.str side,.str (ws.getD c (Str.ofString "",.nothing,0)).1,v]) (ws.getD c (Str.ofString "",.nothing,0)).2.2.toNat (onS side e a) (onS side b e)
abbrev Rs:=List D×Nat×Nat×Nat×Option (Nat×Str)
def A1(g:List GS)(wl wr:List Nat):Nat->Nat->Nat->Nat->List D->Rs
 |0,h,a,b,t=>(t,h,a,b,none)
 |f+1,h,a,b,t=>match BK g wl wr h a b with
   |.stop=>(t,h,a,b,none)
   |.brk k s=>(t,h,a,b,some (k,s))
   |.next m h' a' b'=>A1 g wl wr f h' a' b' (t++[m])
structure Pl(g:List GS)(wl wr:List Nat)(h a b:Nat):Prop where
 h:h<g.length
 a:a<=wl.length
 b:b<=wr.length
variable{wr:List Nat}
theorem YY{wl:List Nat}(ha:a<=wl.length)(hb:b<=wr.length):onS s a b<=(onS s wl wr).length:=by unfold onS;split<;>assumption
variable{h:Nat}
theorem GK{wl:List Nat}(hg:GOk g)(p:Pl g wl wr h a b){m:D}{h' a' b':Nat}(e:BK g wl wr h a b=.next m h' a' b'):Pl g wl wr h' a' b'/\a+b<a'+b':=by
 have hgs:=CK hg p.h;unfold BK at e
 cases eg:Ap g h with
 |fin=>rw[eg] at e;cases e
 |st side ws=>
   rw[eg] at e hgs
   cases hgs with
   |@st _ _ hs1 hs2 hs3 hs4 hs5=>
   dsimp only at e;unfold msgR at e
   cases hb:(onS side wl wr)[onS side a b]? with
   |none=>rw[hb] at e;cases e
   |some c=>
     rw[hb] at e;dsimp only at e
     cases hw:ws[c]? with
     |none=>rw[hw] at e;cases e
     |some wd=>
       rw[hw] at e;dsimp only at e;obtain⟨hpl,_⟩:=ua9.mp hb;have hwo:=hs5 wd (ud6 hw);have hlo:=hwo.lo;have hhi:=hwo.hi;have hgd:ws.getD c (Str.ofString "",.nothing,0)=wd:=by rw[ua8,hw];rfl
       cases er:(pSh 3 wd.2.1).run (onS side wl wr) (onS side a b+1) with
       |short=>rw[er] at e;cases e
       |broken k=>rw[er] at e;cases e
       |told v x=>
         rw[er] at e;dsimp only at e;rw[hgd] at e;injection e with e1 e2 e3 e4
         clear 5(Hh _ _ hpl er)l1 l2;have pa:=p.a;have pb:=p.b;subst e2;unfold onS at e3 e4 l1 l2
         by_cases q:side=sL
         .rw[kQ q] at e3 e4 l1 l2;exact⟨⟨by lia,by lia,by lia⟩,by lia⟩
         .rw[kS q] at e3 e4 l1 l2;exact⟨⟨by lia,by lia,by lia⟩,by lia⟩
theorem Qj{x:Str}{neg:Bool}(e:t.S[n]?=some (.dct kvs))(h:P (.bl (if neg then !(Ba kvs (.inr x)).isSome else(Ba kvs (.inr x)).isSome)) t):W (inS neg (.str x) (.obj n)) t P:=
 ⟨_,_,by simp only[inS,e],h⟩
theorem SE(e:t.S[n]?=some (.dct kvs))(h:P (.obj t.S.length) ⟨t.env,t.S++[.dct kvs]⟩):W (IZ [.obj n]) t P:=
 ⟨_,_,by simp only[IZ,e],h⟩
theorem Tb{a b:D}:Ba (lr a b) (.inr (Str.ofString "end"))=none:=by
 have h1:decide (kL=(Sum.inr (Str.ofString "end"):Key))=false:=by decide +kernel
 have h2:decide (kRt=(Sum.inr (Str.ofString "end"):Key))=false:=by decide +kernel
 unfold Ba;rw[uj0,show decide ((kL,a).1=(Sum.inr (Str.ofString "end"):Key))=false from h1];dsimp only;rw[uj0,show decide ((kRt,b).1=(Sum.inr (Str.ofString "end"):Key))=false from h2];rfl
theorem t9{a0 a1 a2 a3 a6 e7 e8:Option Sl}{X Y:List D}{x:D}(h1:X=Y)(h2:x=y):(⟨[a0,a1,a2,a3,some (.own X),vw x,a6,e7,e8],S⟩:T)=⟨[a0,a1,a2,a3,some (.own Y),vw y,a6,e7,e8],S⟩:=by subst h1 h2;rfl
def Wir(S:List Ob)(d:D)(w:List Nat):Prop:=d=.lst (wD w)\/∃k,d=.obj k/\S[k]?=some (.lst (wD w))
def PureS(S:List Ob)(f:Fn)(ds:List D)(r:D):Prop:=Wf f ds S λr' S'=>r'=r/\S'=S
theorem PureS.use{f:Fn}{r:D}(h:PureS S f ds r){P:D->List Ob->Prop}(p:P r S):Wf f ds S P:=h.mono λ_ _ ⟨e1,e2⟩=>by subst e1 e2;exact p
theorem Mu{d:D}(h:Wir t.S d w)(p:P (.int (w.length:Nat)) t):W (A6 [d]) t P:=by
 rcases h with rfl|⟨k,rfl,e⟩
 .refine Qk ?_;rw[AE];exact p
 .refine HQ e ?_;rw[AE];exact p
theorem UF{d:D}(h:Wir t.S d w)(e:w[a]?=some b)(p:P (.int (b:Int)) t):W (ixD d (.int (a:Int))) t P:=by
 rcases h with rfl|⟨k,rfl,e'⟩
 .exact By (IY (SD e)) p
 .exact W_ix_obj.mpr ⟨_,e',_,IY (SD e),p⟩
def BXw(f:Fn):Prop:=∀(S:List Ob) (wv:D) (w:List Nat) (a:Nat),Wir S wv w->PureS S f [wv,.int (a:Int)] (byX w[a]?)
theorem XN:BXw (fnOf 2 2 Gj):=by
 intro S wv w a hv;refine Ak rfl ?_;unfold Gj;have hl:=AE w
 cases h:w[a]? with
 |none=>
   have:=ub2.mp h;symm;refine Mu hv ?_;symm;refine Gh (uk3 (by lia)) ?_;symm;exact⟨rfl,rfl⟩
 |some b=>
   obtain⟨hj,_⟩:=ua9.mp h;symm;refine Mu hv ?_;symm;refine Ff (uj8 (by lia)) ?_;symm;refine UF hv h ?_;exact⟨rfl,rfl,rfl⟩
variable{S':List Ob}
theorem Wir.gr{d:D}(h:Wir S d w)(g:Gr S S'):Wir S' d w:=h.imp id λ⟨k,e1,e2⟩=>⟨k,e1,g.get e2⟩
local macro_rules | `(tactic| walk_at"y1")=>`(tactic| walk_at"x1")
def nbD(r:D):Prop:=∀a,r≠exB a
theorem E3:nbD exS:=λa h=>by injection h with h1;revert h1;decide
theorem Nv{i:Int}:nbD (.int i):=λa h=>by cases h
theorem YS{x:Str}:nbD (.str x):=λa h=>by cases h
theorem II:nbD (.tup xs):=λa h=>by cases h
def PureB(S:List Ob)(f:Fn)(ds:List D)(r:D):Prop:=nbD r->PureS S f ds r
theorem PureB.use{f:Fn}{ds:List D}{r:D}{S:List Ob}(h:PureB S f ds r)(n:nbD r){P:D->List Ob->Prop}(p:P r S):Wf f ds S P:=PureS.use (h n) p
def UXn(f:Fn):Prop:=∀(S:List Ob) (wv:D) (m:Int) (w:List Nat) (a:Nat),Wir S wv w->PureB S f [.int m,wv,.int (a:Int)] (upX m a w[a]?)
theorem Z9(hc:BXw c):UXn (fnOf 3 4 (EZ c)):=by
 intro S wv m w a hv hnb;refine Ak rfl ?_;unfold EZ;have hb:=hc S wv w a hv
 cases h:w[a]? with
 |none=>
   rw[h,byX] at hb;symm;refine hb.use ?_;symm;exact⟨rfl,rfl⟩
 |some b=>
   rw[h,byX] at hb;symm;refine hb.use ?_;symm;rw[h,upX] at hnb;rw[upX]
   by_cases q:(b:Int)<=m
   .rw[kQ q];refine Ff (uj8 (by lia)) ?_;symm;exact⟨rfl,rfl,rfl⟩
   .rw[kS q] at hnb;exact(hnb _ rfl).elim
def SXn(f:Fn):Prop:=∀(S:List Ob) (wv:D) (w:List Nat) (a:Nat),Wir S wv w->PureB S f [wv,.int (a:Int)] (sgX a w[a]?)
theorem Z0{cs:Fn}(hs:J9 cs)(hb:BXw cb):SXn (fnOf 2 3 (Gn cs cb)):=by
 intro S wv w a hv hnb;refine Ak rfl ?_;unfold Gn;have hb:=hb S wv w a hv
 cases h:w[a]? with
 |none=>
   rw[h,byX] at hb;symm;refine hb.use ?_;symm;exact⟨rfl,rfl⟩
 |some c=>
   rw[h,byX] at hb;symm;rw[h,sgX] at hnb;refine hb.use ?_;symm;refine(hs c).use ?_;rw[sgX]
   by_cases q:B6 c=true
   .rw[kQ q,q];symm;refine W_ix_str.mpr ⟨by decide +kernel,c,ZU q,?_⟩;exact⟨rfl,rfl,rfl⟩
   .have q':B6 c=false:=by simpa using q
    rw[kS q] at hnb;exact(hnb _ rfl).elim
theorem ZJ{cl:Fn}(hl:Ia cl)(hb:BXw cb)(hw:Kb cw){lo hi:Int}(hwf:wf (.number lo hi)=true)(w:List Nat)(a:Nat){S:List Ob}{wv:D}(hv:Wir S wv w):PureB S (fnOf 3 7 (DA cl cb cw)) [(Sh.number lo hi).d,wv,.int (a:Int)] (rrD ((HG lo (hi-lo).toNat (wid (hi-lo).toNat) 0).run w a)):=by
 intro hnb;have hsp:=O6 hwf;have hwd:=KZ 9 _ hsp;refine Ak rfl ?_;unfold DA;rw[Sh.d];have em:hi-lo=(((hi-lo).toNat:Nat):Int):=by
  simp only[wf,uh0,ug3] at hwf;lia
 have hww:=λS P p=>(hw (hi-lo).toNat hsp).use (S:=S) (P:=P) p;rw[<-em] at hww;generalize (hi-lo).toNat=M at *;generalize hW:wid M=n at *;symm;refine hww _ _ ?_;rw[em];symm;refine GX (BO (by lia) (by lia)) ?_;refine Dn (λr t=>∃(j x:Nat) (e6:Option Sl),j<=n/\r=(Bv 0 ((n:Nat):Int).toNat).drop j/\(HG lo M n 0).run w a=(HG lo M (n-j) x).run w (a+j)/\t=⟨[vw (.tup [.str "number",.int lo,.int hi]),vw wv,vw (.int a),vw (.int M),vw (.int n),vw (.int x),e6],S⟩) _ _ ⟨0,0,none,um9 _,rfl,rfl,rfl⟩ ?_ ?_
 .rintro d r t ⟨j,x,e6,hj,hr,hrun,rfl⟩ _;clear 5(Ly hr)rfl hr' hjn;rw[uf7] at hjn;rw[um5];obtain⟨e,he⟩:∃e,n-j=e+1:=⟨n-j-1,by lia⟩;rw[he,HG] at hrun;have hby:=hb S wv w (a+j) hv;symm;refine Qm (ON (by decide) (by decide)) ?_;symm;rw[show((a:Int)+(j:Int))=((a+j:Nat):Int) by lia]
  cases h:w[a+j]? with
  |none=>
    rw[h,byX] at hby;rw[Cz h] at hrun;refine hby.use ?_;symm;exact⟨by rw[hrun];rfl,rfl⟩
  |some b=>
    rw[h,byX] at hby;rw[Bx h] at hrun;refine hby.use ?_;symm;refine⟨rfl,?_⟩;symm;rw[show((n:Int)-1-(j:Int))=((e:Nat):Int) by lia,show((x:Int)*256+(b:Int))=((x*256+b:Nat):Int) by lia];refine(hl M e (by lia)).use ?_;symm
    by_cases q:x*256+b<=M/2 ^ (8*e)
    .rw[kQ (uk3 q)] at hrun;refine Ff (uj8 (by lia)) ?_;symm;exact⟨j+1,x*256+b,_,hjn,hr',by rw[show n-(j+1)=e by lia,hrun,ul3],rfl⟩
    .rw[kS (by rw[ug3];exact q)] at hrun;rw[hrun] at hnb;exact(hnb _ rfl).elim
 .rintro t ⟨j,x,e6,hj,hr,hrun,rfl⟩;have hj':j=n:=by
   have:=kr List.length hr;rw[uj1,ug9,KH,uf7] at this;lia
  subst hj';rw[um6,HG,Rd.run] at hrun;symm;exact⟨rfl,by rw[hrun];rfl,rfl⟩
variable{cu:Fn}
theorem WI{ca:Fn}(ha:SXn ca)(hu:UXn cu){q:Int}(hwf:wf (.text q)=true)(n:Nat)(w:List Nat)(a:Nat){S:List Ob}{wv:D}(hv:Wir S wv w):PureB S (fnOf 3 7 (Eb ca cu)) [(Sh.text q).d,wv,.int (a:Int)] (rrD ((pSh (n+1) (.text q)).run w a)):=by
 intro hnb;have hL:LIM=100000:=rfl;refine Ak rfl ?_;unfold Eb;rw[Sh.d,pSh];rw[pSh] at hnb;simp only[wf,uh0,ug3] at hwf;have hup:=hu S wv q w a hv;symm
 cases h:w[a]? with
 |none=>
   rw[h,upX] at hup;rw[Cz h];refine hup.use E3 ?_;symm;exact⟨rfl,rfl⟩
 |some b=>
   rw[h,upX] at hup;rw[Bx h] at hnb⊢
   by_cases hb:(b:Int)<=q
   .rw[kQ hb] at hup;rw[kQ (uk3 hb)] at hnb⊢;refine hup.use Nv ?_;symm;refine GX (BO (by lia) (by lia)) ?_;refine Dn (λr t=>∃(j:Nat) (y:Str) (e6:Option Sl),j<=b/\r=(Bv 0 ((b:Nat):Int).toNat).drop j/\y.cps.toList.length=j/\(IL b []).run w (a+1)=(IL (b-j) y.cps.toList).run w (a+1+j)/\t=⟨[vw (.tup [.str "text",.int q]),vw wv,vw (.int a),vw (.int b),vw (.int ((a:Int)+1)),vw (.str y),e6],S⟩) _ _ ⟨0,Str.ofString "",none,um9 _,rfl,by decide +kernel,by rw[Nat.sub_zero,Nat.add_zero,show(Str.ofString "").cps.toList=[] by decide +kernel],rfl⟩ ?_ ?_
    .rintro d r t ⟨j,y,e6,hj,hr,hyl,hrun,rfl⟩ _;clear 5(Ly hr)rfl hr' hjn;rw[uf7] at hjn;rw[um5];obtain⟨e,he⟩:∃e,b-j=e+1:=⟨b-j-1,by lia⟩;rw[he,IL] at hrun;have hsg:=ha S wv w (a+1+j) hv;symm;rw[show((a:Int)+1+(j:Int))=((a+1+j:Nat):Int) by lia]
     cases h2:w[a+1+j]? with
     |none=>
       rw[h2,sgX] at hsg;rw[Cz h2] at hrun;refine hsg.use E3 ?_;symm;exact⟨by rw[hrun];rfl,rfl⟩
     |some c=>
       rw[h2,sgX] at hsg;rw[Bx h2] at hrun
       by_cases hc:B6 c=true
       .rw[kQ hc] at hsg hrun;refine hsg.use YS ?_;symm;refine CG (by rw[GG y,hyl,hL];show j+1<=_;lia) ?_;refine⟨rfl,?_⟩;symm;refine⟨j+1,_,_,hjn,hr',?_,?_,rfl⟩
        .rw[LN,ue8,hyl];rfl
        .rw[hrun,LN,show b-(j+1)=e by lia,ul3 (a+1)]
       .rw[kS hc] at hsg hrun;rw[hrun] at hnb;exact(hnb _ rfl).elim
    .rintro t ⟨j,y,e6,hj,hr,hyl,hrun,rfl⟩;have hj':j=b:=by
      have:=kr List.length hr;rw[uj1,ug9,KH,uf7] at this;lia
     subst hj';rw[um6,IL,Rd.run] at hrun;have ey:(⟨y.cps.toList.toArray⟩:Str)=y:=Xc (by simp);rw[ey] at hrun;symm;refine⟨rfl,?_,rfl⟩;rw[hrun,rrD,show((a:Int)+1+(j:Int))=((a+1+j:Nat):Int) by lia]
   .rw[kS (by rw[ug3];exact hb)] at hnb;exact(hnb _ rfl).elim
def RXn(c:Fn)(s:Sh)(p:Rd):Prop:=∀(S:List Ob) (wv:D) (w:List Nat) (a:Nat),Wir S wv w->a<=w.length->PureB S c [s.d,wv,.int (a:Int)] (rrD (p.run w a))
theorem WG{s:Sh}{p:Rd}{q:Int}(hu:UXn cu)(hq2:q<=250)(hc:RXn c s p)(w:List Nat)(a:Nat){S:List Ob}{wv:D}(hv:Wir S wv w):PureB S (fnOf 3 8 (D9 c cu)) [(Sh.list s q).d,wv,.int (a:Int)] (rrD ((Rd.need (λb=>decide ((b:Int)<=q)) λb=>HF p b []).run w a)):=by
 intro hnb;have hL:LIM=100000:=rfl;refine Ak rfl ?_;unfold D9;rw[Sh.d];have hup:=hu S wv q w a hv;symm
 cases h:w[a]? with
 |none=>
   rw[h,upX] at hup;rw[Cz h];refine hup.use E3 ?_;symm;exact⟨rfl,rfl⟩
 |some b=>
   have hal:=(ua9.mp h).1;rw[h,upX] at hup;rw[Bx h] at hnb⊢
   by_cases hb:(b:Int)<=q
   .rw[kQ hb] at hup;rw[kQ (uk3 hb)] at hnb⊢;refine hup.use Nv ?_;symm;refine GX (BO (by lia) (by lia)) ?_;refine Dn (λr t=>∃(j a':Nat) (ds:List D) (e6 e7:Option Sl),j<=b/\r=(Bv 0 ((b:Nat):Int).toNat).drop j/\ds.length=j/\a'<=w.length/\(HF p b []).run w (a+1)=(HF p (b-j) ds).run w a'/\t=⟨[vw (.tup [.str "list",s.d,.int q]),vw wv,vw (.int a),vw (.int b),vw (.int (a':Int)),some (.own ds),e6,e7],S⟩) _ _ ⟨0,a+1,[],none,none,um9 _,rfl,rfl,hal,rfl,rfl⟩ ?_ ?_
    .rintro d r t ⟨j,a',ds,e6,e7,hj,hr,hdl,ha',hrun,rfl⟩ _;clear 5(Ly hr)rfl hr' hjn;rw[uf7] at hjn;obtain⟨e,he⟩:∃e,b-j=e+1:=⟨b-j-1,by lia⟩;rw[he,HF,Ed] at hrun;have hcc:=hc S wv w a' hv ha'
     cases h2:p.run w a' with
     |short=>
       rw[h2] at hrun hcc;symm;refine hcc.use E3 ?_;rw[rrD];symm;exact⟨by rw[hrun];rfl,rfl⟩
     |broken k=>
       rw[h2] at hrun hcc;rw[hrun] at hnb;exact(hnb _ rfl).elim
     |told v a2=>
       have hle:=Hh p a' ha' h2;rw[h2] at hrun hcc;symm;refine hcc.use II ?_;rw[rrD];symm;refine CG (by rw[hdl,hL];lia) ?_;symm;exact⟨j+1,a2,ds++[v],_,_,hjn,hr',by rw[ue8,hdl];rfl,hle.2,by rw[hrun,show b-(j+1)=e by lia];rfl,rfl⟩
    .rintro t ⟨j,a',ds,e6,e7,hj,hr,hdl,ha',hrun,rfl⟩;have hj':j=b:=by
      have:=kr List.length hr;rw[uj1,ug9,KH,uf7] at this;lia
     subst hj';rw[um6,HF,Rd.run] at hrun;symm;exact⟨rfl,by rw[hrun];rfl,rfl⟩
   .rw[kS (by rw[ug3];exact hb)] at hnb;exact(hnb _ rfl).elim
theorem WH{s r:Sh}{p p':Rd}(hs:RXn c s p)(hr:RXn c r p')(w:List Nat)(a:Nat){S:List Ob}{wv:D}(hv:Wir S wv w)(ha:a<=w.length):PureB S (fnOf 3 5 (Ea c)) [(Sh.pair s r).d,wv,.int (a:Int)] (rrD ((p.bnd λv=>p'.bnd λu=>.done (.tup [v,u])).run w a)):=by
 intro hnb;refine Ak rfl ?_;unfold Ea;rw[Sh.d,Ed];rw[Ed] at hnb;have h1:=hs S wv w a hv ha
 cases e1:p.run w a with
 |short=>
   rw[e1] at h1;symm;refine h1.use E3 ?_;rw[rrD];symm;exact⟨rfl,rfl⟩
 |broken k=>
   rw[e1] at hnb;exact(hnb _ rfl).elim
 |told v a'=>
   have hle:=Hh p a ha e1;rw[e1] at h1 hnb;have h2:=hr S wv w a' hv hle.2;rw[RR.thn,Ed] at hnb⊢;symm;refine h1.use II ?_;rw[rrD];symm
   cases e2:p'.run w a' with
   |short=>rw[e2] at h2;refine h2.use E3 ?_;rw[rrD];symm;exact⟨rfl,rfl⟩
   |broken k=>rw[e2] at hnb;exact(hnb _ rfl).elim
   |told u a2=>rw[e2] at h2;refine h2.use II ?_;rw[rrD];symm;exact⟨rfl,rfl,rfl⟩
theorem Sa{ss:List Sh}{p:Nat->Rd}(hu:UXn cu)(hc:∀(k:Nat) (h:k<ss.length),RXn c ss[k] (p k))(w:List Nat)(a:Nat){S:List Ob}{wv:D}(hv:Wir S wv w):PureB S (fnOf 3 5 (Dz c cu)) [(Sh.choice ss).d,wv,.int (a:Int)] (rrD ((Rd.need (λb=>decide (b<ss.length)) λb=>(p b).bnd λv=>.done (.tup [.str "of",.int b,v])).run w a)):=by
 intro hnb;refine Ak rfl ?_;unfold Dz;rw[Sh.d];have hup:=hu S wv ((ss.length:Int)-1) w a hv;symm;rw[Ee]
 cases h:w[a]? with
 |none=>
   rw[h,upX] at hup;rw[Cz h];refine hup.use E3 ?_;symm;exact⟨rfl,rfl⟩
 |some b=>
   have hal:=(ua9.mp h).1;rw[h,upX] at hup;rw[Bx h] at hnb⊢
   by_cases hb:b<ss.length
   .rw[kQ (show(b:Int)<=(ss.length:Int)-1 by lia)] at hup;rw[kQ (uk3 hb),Ed] at hnb⊢;refine hup.use Nv ?_;have e0:ss[b]?=some ss[b]:=ub3 hb;have hsd:atI (shD ss) (b:Int)=some ss[b].d:=IY (by rw[Hf,e0];rfl);have h2:=hc b hb S wv w (a+1) hv hal;symm;refine En hsd ?_;symm;rw[show((a:Int)+1)=((a+1:Nat):Int) by lia]
    cases e2:(p b).run w (a+1) with
    |short=>rw[e2] at h2;refine h2.use E3 ?_;rw[rrD];symm;exact⟨rfl,rfl⟩
    |broken k=>rw[e2] at hnb;exact(hnb _ rfl).elim
    |told u a2=>rw[e2] at h2;refine h2.use II ?_;rw[rrD];symm;exact⟨rfl,rfl,rfl⟩
   .rw[kS (by rw[ug3];exact hb)] at hnb;exact(hnb _ rfl).elim
def Ie(f:Fn)(n:Nat):Prop:=∀s:Sh,s.depth<=n->wf s=true->RXn f s (pSh n s)
theorem Sb{cl:Fn}(hn:∀lo hi,wf (.number lo hi)=true->RXn cn (.number lo hi) (pSh (n+1) (.number lo hi)))(ht:∀q,wf (.text q)=true->RXn ct (.text q) (pSh (n+1) (.text q)))
 (hl:∀s q,q<=250->s.depth<=n->wf s=true->RXn cl (.list s q) (pSh (n+1) (.list s q))) (hp:∀s r,s.depth<=n->r.depth<=n->wf s=true->wf r=true->RXn cp (.pair s r) (pSh (n+1) (.pair s r)))
 (hc:∀ss:List Sh,(∀(k:Nat) (h:k<ss.length),ss[k].depth<=n/\wf ss[k]=true)->RXn cc (.choice ss) (pSh (n+1) (.choice ss))):Ie (fnOf 3 4 (DQ cc cp cl ct cn)) (n+1):=by
 intro s hs hwf S wv w a hv ha hnb;refine Ak rfl ?_;unfold DQ
 cases s with
 |nothing=>
   rw[Sh.d,pSh,Rd.run,rrD];symm;exact⟨rfl,rfl,rfl⟩
 |number lo hi=>
   have h:=hn lo hi hwf S wv w a hv ha;rw[Sh.d] at h⊢;symm;exact h.use hnb ⟨rfl,rfl⟩
 |text q=>
   have h:=ht q hwf S wv w a hv ha;rw[Sh.d] at h⊢;symm;exact h.use hnb ⟨rfl,rfl⟩
 |list s q=>
   simp only[wf,uh0,ug3] at hwf;rw[Sh.depth] at hs;have h:=hl s q hwf.1.2 (by lia) hwf.2 S wv w a hv ha;rw[Sh.d] at h⊢;symm;exact h.use hnb ⟨rfl,rfl⟩
 |pair s r=>
   simp only[wf,uh0] at hwf;rw[Sh.depth] at hs;have h:=hp s r (by lia) (by lia) hwf.1 hwf.2 S wv w a hv ha;rw[Sh.d] at h⊢;symm;exact h.use hnb ⟨rfl,rfl⟩
 |choice ss=>
   simp only[wf,uh0,ug3] at hwf;rw[Sh.depth] at hs;have h:=hc ss (λk hk=>⟨ul9 (Cr ss _ _ (ub3 hk)) (by lia),Ef hwf.2 _ (uh6 hk)⟩) S wv w a hv ha;rw[Sh.d] at h⊢;symm;exact h.use hnb ⟨rfl,rfl⟩
theorem Qa{ca cl' cl:Fn}(e1:cc=fnOf 3 5 (Dz c cu))(e2:cp=fnOf 3 5 (Ea c))(e3:cl=fnOf 3 8 (D9 c cu))(e4:ct=fnOf 3 7 (Eb ca cu))(e5:cn=fnOf 3 7 (DA cl' cb cw))
 (hu:UXn cu) (ha:SXn ca) (hl':Ia cl') (hb:BXw cb) (hw:Kb cw) (hc:Ie c n):Ie (fnOf 3 4 (DQ cc cp cl ct cn)) (n+1):=by
 subst e1 e2 e3 e4 e5;refine Sb (λlo hi h S wv w a hv _=>?_) (λq h S wv w a hv _=>WI ha hu h n w a hv) (λs q h2 hd h S wv w a hv _=>?_) (λs r d1 d2 w1 w2 S wv w a hv ha=>?_) λss h S wv w a hv _=>?_
 .rw[pSh];exact ZJ hl' hb hw h w a hv
 .rw[pSh];exact WG hu h2 (hc s hd h) w a hv
 .rw[pSh];exact WH (hc s d1 w1) (hc r d2 w2) w a hv ha
 .rw[pSh];refine Sa hu (p:=λb=>pSh n (ss.getD b .nothing)) (λk hk=>?_) w a hv;show RXn c ss[k] (pSh n (ss.getD k .nothing));rw[ua8,ub3 hk,Option.getD_some];exact hc _ (h k hk).1 (h k hk).2
abbrev J2(xs:List D):Prop:=∀x∈xs,∃i:Int,x=.int i
theorem L5:∀{xs:List D},J2 xs->Fo xs=true
 |[],_=>rfl
 |x::r,h=>by
   clear 5(h x ue5)i rfl;rw[Fo,L5 λy m=>h y (ud4 _ m)];rfl
theorem Vr{L R:List D}(hl:J2 L)(hr:J2 R):eqN EQD (.tup [.lst L,.lst R]) (.tup [.lst L,.lst R])=some true:=by
 have key:∀{X:List D},J2 X->eqN (38+1) (.lst X) (.lst X)=some true:=λ{X} h=>Vp λx hx=>by
  clear 5(h x hx)i rfl;exact Vo
 show eqN (39+1) _ _=_;exact Vq (by simp only[List.forall_mem_cons];exact⟨key hl,key hr,λ_ z=>nomatch z⟩)
theorem af{g:Bool->Bool}{x d:D}(hx:E4 t.S x=d)(hy:E4 t.S y=d)(hp:BM d=true)(he:eqN EQD d d=some true)(h:P (.bl (g true)) t):W (eqT g x y) t P:=
 ⟨_,_,by unfold eqT;rw[hx,hy,hp,he];rfl,h⟩
theorem WF{A:Nat}(ha:S[A]?=some (.lst xs))(hb:S[B]?=some (.lst ys)):E4 S (.tup [.obj A,.obj B])=.tup [.lst xs,.lst ys]:=by
 simp only[E4,uk6,um1,DG,ha,hb]
def isB(l:List D):Prop:=∀d∈l,∃x:Nat,d=.int (x:Int)/\x<256
theorem Rg:∀{l:List D},isB l->∃w:List Nat,l=wD w/\∀x∈w,x<256
 |[],_=>⟨[],rfl,λx z=>nomatch z⟩
 |d::r,h=>by
   clear 5(h d ue5)x rfl hx;obtain⟨w,rfl,hw⟩:=Rg λd m=>h d (ud4 _ m);refine⟨x::w,rfl,λy hy=>?_⟩;rcases uk5.mp hy with rfl|hy
   .exact hx
   .exact hw y hy
theorem Ln{a b:List D}(ha:isB a)(hb:isB b):isB (a++b):=λd h=>(ui1.mp h).elim (ha d) (hb d)
theorem Gf{x:Nat}{b:List D}(hx:x<256)(hb:isB b):isB (.int (x:Int)::b):=λd h=>by
 rcases uk5.mp h with rfl|h
 .exact⟨x,rfl,hx⟩
 .exact hb d h
theorem RK:∀(w n:Nat),isB (nb w n)
 |0,n=>λd h=>nomatch h
 |w+1,n=>Ln (RK w _) (Gf (Nat.mod_lt _ (by decide)) λd h=>nomatch h)
theorem F7:∀(n:Nat) (s:Sh),s.depth<=n->wf s=true->∀v,Al s v=true->isB (AL s v)
 |0,s,h,_,_,_=>absurd s.depth_pos (by lia)
 |n+1,s,hs,hw,v,hf=>by
   cases s with
   |nothing=>rw[AL];exact λd h=>nomatch h
   |number lo hi=>
     cases v<;>simp[Al] at hf
     rw[AL];exact RK _ _
   |text q=>
     simp only[wf,uh0,ug3] at hw
     cases v<;>simp only[Al,ue9] at hf
     rename_i x;simp only[uh0,ug3,uh4] at hf;rw[AL];refine Gf (by lia) λd h=>?_;clear 5(um4.mp h)c hc rfl;have:=hf.2 c hc;simp only[B6,uh0,ug3] at this;exact⟨c,rfl,by lia⟩
   |list s q=>
     simp only[wf,uh0,ug3] at hw;rw[Sh.depth] at hs
     cases v<;>simp only[Al,ue9] at hf
     rename_i ds;simp only[uh0,ug3,uh4] at hf;rw[AL];refine Gf (by lia) λd h=>?_;clear 5(List.mem_flatten.mp h)l hl hd;clear 5(um4.mp hl)e he rfl;exact F7 n s (by lia) hw.2 e (hf.2 e he) d hd
   |pair s r=>
     simp only[wf,uh0] at hw;rw[Sh.depth] at hs;unfold Al at hf
     split at hf
     .rw[uh0] at hf;rw[AL];exact Ln (F7 n s (by lia) hw.1 _ hf.1) (F7 n r (by lia) hw.2 _ hf.2)
     .cases hf
   |choice ss=>
     simp only[wf,uh0,ug3] at hw;rw[Sh.depth] at hs;unfold Al at hf
     split at hf
     .next o k x=>
      simp only[uh0,ug3] at hf;clear 5(ub6 hf.1.2.1)j rfl;have hj:j<ss.length:=by have:=hf.1.2.2;lia
      have e1:ss[j]?=some ss[j]:=ub3 hj;have h2:=hf.2;rw[uf7,Cp ss _ _ _ e1] at h2;rw[AL,uf7,Fz ss _ _ _ e1];exact Gf (by lia) (F7 n _ (ul9 (Cr ss _ _ e1) (by lia)) (Ef hw.2 _ (uh6 hj)) x h2)
     .cases hf
theorem XR:B3 (wD w) none (some (a:Int))=wD (w.take a):=by
 unfold B3;rw[HT.Jp,HT.NS,uk2,Nat.sub_zero];unfold wD;rw[ul0];exact(ud2 ..).symm
theorem XS:B3 (wD w) (some (a:Int)) none=wD (w.drop a):=by
 unfold B3;rw[HT.Jp,HT.NS];unfold wD;rw[jq,ui3,uc2 (by rw[ug9,ui3];lia)]
 by_cases h:a<=w.length
 .rw[Nat.min_eq_left h]
 .rw[Nat.min_eq_right (by lia),uc5 (by rw[ui3];lia),uc5 (by rw[ui3];lia)]
structure Mvs(g:List GS)(wl wr:List Nat)(mv:List Mv)(h a b:Nat)(t:List D):Prop where
 t:t=AB g 0 mv
 ok:okQ g 0 mv
 h:Aj g 0 mv=h
 a:Ag g sL 0 mv=wD (wl.take a)
 b:Ag g sR 0 mv=wD (wr.take b)
theorem O5{side:Str}(h:side=sL\/side=sR):(side=sL/\¬side=sR)\/(¬side=sL/\side=sR):=by
 rcases h with rfl|rfl
 .exact .inl ⟨rfl,sLR⟩
 .exact .inr ⟨Ne.symm sLR,rfl⟩
def Agr(c:Nat)(w w2:List Nat):Prop:=∀i,i<c->w2[i]?=w[i]?
theorem TJ{w2:List Nat}{c:Nat}(hw:Agr c w w2):∀(p:Rd) (a:Nat),p.run w a=.told v b->b<=c->p.run w2 a=.told v b:=by
 intro p
 induction p with
 |done v'=>intro a h _;exact h
 |need ok nx ih=>
   intro a h hb
   cases e:w[a]? with
   |none=>rw[Cz e] at h;cases h
   |some x=>
     rw[Bx e] at h;have hl:=(ua9.mp e).1
     by_cases q:ok x=true
     .rw[kQ q] at h;have hlt:a<c:=by have:=(Hh _ (a+1) hl h).1;lia
      rw[Bx ((hw a hlt).trans e),kQ q];exact ih x (a+1) h hb
     .rw[kS q] at h;cases h
theorem Rz{side:Str}{ws:List (Str×Sh×Int)}{w2:List Nat}{c e x:Nat}(hw:Agr c w w2)(h:msgR side ws w p=(.told v e,x))(he:e<=c):msgR side ws w2 p=(.told v e,x):=by
 unfold msgR at h⊢
 cases hb:w[p]? with
 |none=>rw[hb] at h;cases h
 |some y=>
   rw[hb] at h;dsimp only at h;obtain⟨hpl,_⟩:=ua9.mp hb
   cases hws:ws[y]? with
   |none=>rw[hws] at h;cases h
   |some wd=>
     rw[hws] at h;injection h with h1 h2
     have hlt:p<c:=by have:=(Hh _ _ hpl h1).1;lia
     rw[(hw p hlt).trans hb];dsimp only;rw[hws];dsimp only;rw[TJ hw _ _ h1 he,h2]
variable{vl vr:List Nat}
theorem V9{side:Str}{wl:List Nat}(h1:Agr a wl vl)(h2:Agr b wr vr):Agr (onS side a b) (onS side wl wr) (onS side vl vr):=by unfold onS;split<;>assumption
theorem Ss{wl:List Nat}{ca cb:Nat}(hl:Agr ca vl wl)(hr:Agr cb vr wr){m:D}{h' a' b':Nat}(e:BK g vl vr h a b=.next m h' a' b')(ha:a'<=ca)(hb:b'<=cb):BK g wl wr h a b=.next m h' a' b':=by
 unfold BK at e⊢
 cases eg:Ap g h with
 |fin=>rw[eg] at e;cases e
 |st side ws=>
   rw[eg] at e;dsimp only at e⊢;generalize hm:msgR side ws (onS side vl vr) (onS side a b)=r at e;clear 5 r r0 c
   cases r0 with
   |short=>cases e
   |broken k'=>cases e
   |told v x=>
     have hx:x<=onS side ca cb:=by
      injection e with e1 e2 e3 e4
      unfold onS at e3 e4⊢
      split at e3
      .next q=>rw[kQ q] at e4⊢;lia
      .next q=>rw[kS q] at e4⊢;lia
     rw[Rz (V9 hl hr) hm hx];exact e
def Ml(f:Fn):Prop:=∀(g:List GS) (q p:Nat) (v:D),GOk g->MvOk g q p v->(AL (wdAt g q p).2.1 v).length<=50000->Pure1 f [(Ap g q).d,.int p,v] (.lst (.int p::AL (wdAt g q p).2.1 v))
theorem YQ(hc:IU c 3):Ml (fnOf 3 3 (E2 c)):=by
 intro g q p v hg hm hb S;have hL:LIM=100000:=rfl;refine Ak rfl ?_;unfold E2;clear 5(E5 hm.pl)side ws e hpl ew;have hw:=E8 hg hm.lt hm.pl;have hfit:=hm.fit;rw[e,GS.d];right;refine Hi ?_;right;refine By (IT ew) ?_;unfold wdD;right;refine(hc _ hw.dep hw.ok v hfit (by lia)).use ?_;refine⟨_,rfl,?_⟩;right;refine CG (by rw[hL];show 1+_<=_;lia) ?_;exact⟨rfl,rfl⟩
theorem GL(g:List GS)(sd:Str)(mv:List Mv)(j:Nat):(Ag g sd 0 (mv.take j)).length<=(Ag g sd 0 mv).length:=by
 have e:Ag g sd 0 mv=Ag g sd 0 (mv.take j++mv.drop j):=by rw[ud1]
 rw[e,Cj,ue8];exact uh3 _ _
theorem Nu{g:List GS}(hg:GOk g):∀(q:Nat) (mv:List Mv),okQ g q mv->mv.length<=(Ag g sL q mv).length+(Ag g sR q mv).length
 |q,[],_=>um9 _
 |q,(p,v)::r,h=>by
   rw[okQ] at h;have ih:=Nu hg _ r h.2;rw[Ag,Ag,ue8,ue8,ug6];rcases LF hg h.1 with e|e
   .rw[kQ e,ug6];lia
   .rw[kQ (show(Ap g q).side=sR from e),ug6];lia
def At(w:List Nat)(a:Nat)(xs:List D):Prop:=∃p q,wD w=p++(xs++q)/\p.length=a
theorem At.left(h:At w a (xs++ys)):At w a xs:=by
 clear 5 h p q e l;exact⟨p,ys++q,by rw[e,uf9],l⟩
theorem At.right(h:At w a (xs++ys)):At w (a+xs.length) ys:=by
 clear 5 h p q e l;exact⟨p++xs,q,by rw[e,uf9,uf9],by rw[ue8,l]⟩
theorem At.head{c:Nat}(h:At w a (.int (c:Int)::xs)):w[a]?=some c/\At w (a+1) xs:=by
 refine⟨?_,At.right (xs:=[.int (c:Int)]) h⟩;clear 5 h p q e l;have e1:(wD w)[a]?=some (.int (c:Int)):=by rw[e,ua6 (by lia),l,um6];rfl
 unfold wD at e1;rw[uf6] at e1
 cases e2:w[a]? with
 |none=>rw[e2] at e1;cases e1
 |some x=>
   rw[e2] at e1;injection e1 with e1
   injection e1 with e1
   rw[show x=c by lia]
theorem NA{lo:Int}{M:Nat}{w:List Nat}:∀(r x y a:Nat),y/256 ^ r=x->y<=M->At w a (nb r y)->(HG lo M r x).run w a=.told (.int (lo+y)) (a+r)
 |0,x,y,a,hx,hy,h=>by
   rw[kg,Nat.div_one] at hx;subst hx;rfl
 |r+1,x,y,a,hx,hy,h=>by
   rw[OO] at h;clear 5 h.head h1 h2;have e:x*256+y/256 ^ r%256=y/256 ^ r:=by
    rw[<-hx,um3,<-uc3];lia
   rw[HG,Bx h1,kQ (uk3 (by rw[e,Nat.pow_mul];exact Nat.div_le_div_right hy)),NA r _ y (a+1) e.symm hy h2]
   congr 1
   lia
theorem NV{w:List Nat}:∀(xs cs:List Nat) (a:Nat),(∀c∈xs,B6 c=true)->At w a (xs.map λ(n:Nat)=>D.int (n:Int))->(IL xs.length cs).run w a=.told (.str ⟨(cs++xs).toArray⟩) (a+xs.length)
 |[],cs,a,_,_=>by rw[ui5];rfl
 |x::r,cs,a,hs,h=>by
   clear 5(At.head h)h1 h2;rw[ug6,IL,Bx h1,kQ (hs x ue5),NV r (cs++[x]) (a+1) (λc hc=>hs c (ud4 _ hc)) h2,uf9]
   congr 1
   lia
theorem Nn{w:List Nat}{s:Sh}{p:Rd}(hp:∀(v:D) (a:Nat),Al s v=true->At w a (AL s v)->p.run w a=.told v (a+(AL s v).length)):∀(es ds:List D) (a:Nat),(∀e∈es,Al s e=true)->At w a (es.map λd=>AL s d).flatten->(HF p es.length ds).run w a=.told (.lst (ds++es)) (a+((es.map λd=>AL s d).flatten).length)
 |[],ds,a,_,_=>by rw[ui5];rfl
 |e::r,ds,a,hf,h=>by
   rw[uk6,uf8] at h;rw[ug6,HF,Ed,hp e a (hf e ue5) h.left,RR.thn,Nn hp r (ds++[e]) _ (λx hx=>hf x (ud4 _ hx)) h.right,uf9,uk6,uf8,ue8]
   congr 1
   lia
theorem SH:∀(k n:Nat),wid n<=k->n<256 ^ k
 |0,n,h=>by
   by_cases z:n=0
   .subst z;decide
   .rw[JY (by lia)] at h;lia
 |k+1,n,h=>by
   by_cases z:n=0
   .subst z;exact Nat.pow_pos (by decide)
   .rw[JY (by lia)] at h;have:=SH k (n/256) (by lia);rw[Nat.div_lt_iff_lt_mul (by decide)] at this;rw[um3];exact this
theorem VS{o:Str}(h:Hy o=true):o=Str.ofString "of":=by
 unfold Hy at h;simpa using h
theorem back:∀(n:Nat) (s:Sh),s.depth<=n->wf s=true->∀(w:List Nat) (v:D) (a:Nat),Al s v=true->At w a (AL s v)->(pSh n s).run w a=.told v (a+(AL s v).length)
 |0,s,hs,_,_,_,_,_,_=>absurd s.depth_pos (by lia)
 |n+1,s,hs,hwf,w,v,a,hf,h=>by
   cases s with
   |nothing=>
     have:v=.non:=by cases v<;>simp[Al,GD] at hf<;>rfl
     subst this;rfl
   |number lo hi=>
     simp only[wf,uh0,ug3] at hwf
     cases v with
     |int i=>
       simp only[Al,uh0,ug3] at hf;rw[AL] at h⊢;rw[pSh,NA (wid (hi-lo).toNat) 0 (i-lo).toNat a ?_ (by lia) h,Nw]
       .congr 2;lia
       .exact Nat.div_eq_of_lt (Nat.lt_of_le_of_lt (show(i-lo).toNat<=(hi-lo).toNat by lia) (SH _ _ (um8 _)))
     |_=>simp[Al] at hf
   |text q=>
     cases v with
     |str x=>
       simp only[Al,uh0,ug3,uh4] at hf;rw[AL] at h⊢;clear 5(At.head h)h1 h2;rw[pSh,Bx h1,kQ (uk3 hf.1)];have hl:x.length=x.cps.toList.length:=rfl;rw[hl,NV x.cps.toList [] (a+1) hf.2 h2,ui9,ug6,ui3]
       congr 1
       lia
     |_=>simp[Al] at hf
   |list s q=>
     simp only[wf,uh0,ug3] at hwf;rw[Sh.depth] at hs
     cases v with
     |lst ds=>
       rw[Al,uh0,ug3,uh4] at hf;rw[AL] at h⊢;clear 5(At.head h)h1 h2;rw[pSh,Bx h1,kQ (uk3 hf.1),Nn (λv a=>back n s (by lia) hwf.2 w v a) ds [] (a+1) hf.2 h2,ui9,ug6]
       congr 1
       lia
     |_=>simp[Al] at hf
   |pair s r=>
     simp only[wf,uh0] at hwf;rw[Sh.depth] at hs;unfold Al at hf
     split at hf
     .rw[uh0] at hf;rw[AL] at h⊢;rw[pSh,Ed,back n s (by lia) hwf.1 w _ a hf.1 h.left,RR.thn,Ed,back n r (by lia) hwf.2 w _ _ hf.2 h.right,RR.thn,Rd.run,ue8,ul3]
     .cases hf
   |choice ss=>
     simp only[wf,uh0,ug3] at hwf;rw[Sh.depth] at hs;unfold Al at hf
     split at hf
     .next o k x=>
      simp only[uh0,ug3] at hf;clear 5(ub6 hf.1.2.1)j rfl;have hj:j<ss.length:=by have:=hf.1.2.2;lia
      have e1:ss[j]?=some ss[j]:=ub3 hj;have h2:=hf.2;rw[uf7,Cp ss _ _ _ e1] at h2;rw[AL,uf7,Fz ss _ _ _ e1] at h⊢;clear 5(At.head h)h3 h4;have ho:o=Str.ofString "of":=VS hf.1.1;subst ho;rw[pSh,Bx h3,kQ (uk3 hj),ua8,e1,Option.getD_some,Ed,back n _ (ul9 (Cr ss _ _ e1) (by lia)) (Ef hwf.2 _ (uh6 hj)) w x (a+1) h2 h4,RR.thn,Rd.run,ug6]
      congr 1
      lia
     .cases hf
theorem N0{c:Nat}:∀(p:Rd) (a:Nat),p.run w a=.told v b->a<=c->c<b->p.run (w.take c) a=.short:=by
 intro p
 induction p with
 |done v'=>intro a h h1 h2;rw[Rd.run] at h;cases h;lia
 |need ok nx ih=>
   intro a h h1 h2
   cases e:w[a]? with
   |none=>rw[Cz e] at h;cases h
   |some x=>
     rw[Bx e] at h
     by_cases q:ok x=true
     .rw[kQ q] at h
      by_cases hac:a<c
      .rw[Bx (b:=x) (by rw[uf1,kQ hac];exact e),kQ q];exact ih x (a+1) h hac h2
      .exact Cz (by rw[uf1,kS hac])
     .rw[kS q] at h;cases h
theorem Sq{wl:List Nat}(hg:GOk g){q p a b:Nat}{v:D}(hm:MvOk g q p v)(ha:At wl a (if (Ap g q).side=sL then .int (p:Int)::AL (wdAt g q p).2.1 v else []))(hb:At wr b (if (Ap g q).side=sR then .int (p:Int)::AL (wdAt g q p).2.1 v else [])) :
 BK g wl wr q a b=.next (ED g q p v) (Co g q p) (a+(if (Ap g q).side=sL then D.int (p:Int)::AL (wdAt g q p).2.1 v else []).length) (b+(if (Ap g q).side=sR then D.int (p:Int)::AL (wdAt g q p).2.1 v else []).length):=by
 have hw:=E8 hg hm.lt hm.pl;have hsd:=LF hg hm;have hfit:=hm.fit;clear 5(E5 hm.pl)side ws e hpl ew;have es:(Ap g q).side=side:=by rw[e];rfl
 have hgd:ws.getD p (Str.ofString "",.nothing,0)=wdAt g q p:=by rw[ua8,ew];rfl
 rw[es] at ha hb hsd;have key:∀(w:List Nat) (c:Nat),At w c (.int (p:Int)::AL (wdAt g q p).2.1 v)->msgR side ws w c=(.told v (c+(AL (wdAt g q p).2.1 v).length+1),p):=λw c h=>by
  clear 5(At.head h)h1 h2;unfold msgR;rw[h1];dsimp only;rw[ew];dsimp only;rw[back 3 _ hw.dep hw.ok w v (c+1) hfit h2]
  congr 2
  lia
 unfold BK;rw[e];dsimp only;unfold ED Co;rw[es];rcases O5 hsd with⟨q1,q2⟩|⟨q1,q2⟩
 .rw[kQ q1] at ha;unfold onS;simp only[kQ q1,key wl a ha,hgd];rw[show(GS.st side ws).side=side from rfl,kQ q1,kS q2,ug6,uj1];rfl
 .rw[kQ q2] at hb;unfold onS;simp only[kS q1,key wr b hb,hgd];rw[show(GS.st side ws).side=side from rfl,kS q1,kQ q2,ug6,uj1];rfl
theorem IS{g:List GS}{wl wr:List Nat}(hg:GOk g):∀(mv:List Mv) (q a b F:Nat) (t:List D),okQ g q mv->At wl a (Ag g sL q mv)->At wr b (Ag g sR q mv)->A1 g wl wr (F+mv.length) q a b t=A1 g wl wr F (Aj g q mv) (a+(Ag g sL q mv).length) (b+(Ag g sR q mv).length) (t++AB g q mv)
 |[],q,a,b,F,t,_,_,_=>by rw[AB,ui5];rfl
 |(p,v)::r,q,a,b,F,t,hk,ha,hb=>by
   rw[okQ] at hk;rw[Ag] at ha hb;rw[ug6,<-ul3,A1,Sq hg hk.1 ha.left hb.left];dsimp only;rw[IS hg r _ _ _ F _ hk.2 ha.right hb.right,Ag,Ag,AB,Aj,ue8,ue8,uf9,List.singleton_append,ul3,ul3]
theorem Ut{wl:List Nat}(e:(Ap g h).isFin=true):BK g wl wr h a b=.stop:=by
 unfold BK
 cases e1:Ap g h with
 |fin=>rfl
 |st s w=>rw[e1] at e;cases e
theorem Us{wl:List Nat}:BK g wl wr h wl.length wr.length=.stop:=by
 unfold BK
 cases e1:Ap g h with
 |fin=>rfl
 |st s ws=>
   dsimp only;unfold msgR;rw[show(onS s wl wr)[onS s wl.length wr.length]?=none by unfold onS;split<;>exact ud3 (um8 _)]
theorem FF{wl:List Nat}{t:List D}(e:BK g wl wr h a b=.stop):∀F,A1 g wl wr F h a b t=(t,h,a,b,none)
 |0=>rfl
 |F+1=>by unfold A1;rw[e]
theorem UI{wl:List Nat}(hg:GOk g){mv:List Mv}(hk:okQ g 0 mv)(ml mr:List Nat)(el:wD wl=Ag g sL 0 mv)(er:wD wr=Ag g sR 0 mv)(h:(ml=[]/\mr=[])\/(Ap g (Aj g 0 mv)).isFin=true):A1 g (wl++ml) (wr++mr) ((wl++ml).length+(wr++mr).length+1) 0 0 0 []=(AB g 0 mv,Aj g 0 mv,wl.length,wr.length,none):=by
 have hlen:=Nu hg 0 mv hk;rw[<-el,<-er,AE,AE] at hlen;obtain⟨F,hF⟩:∃F,(wl++ml).length+(wr++mr).length+1=F+mv.length:=⟨(wl++ml).length+(wr++mr).length+1-mv.length,by rw[ue8,ue8];lia⟩;rw[hF,IS hg mv 0 0 0 F [] hk ⟨[],wD ml,by rw[<-el,ui9,E7],rfl⟩ ⟨[],wD mr,by rw[<-er,ui9,E7],rfl⟩,<-el,<-er,AE,AE,um7,um7,ui9];refine FF ?_ F;rcases h with⟨rfl,rfl⟩|h
 .rw[ui5,ui5];exact Us
 .exact Ut h
theorem HS(g:List GS)(wl wr:List Nat):∀(F h a b:Nat) (t:List D),A1 g wl wr F h a b t=(t++(A1 g wl wr F h a b []).1,(A1 g wl wr F h a b []).2)
 |0,h,a,b,t=>by show(t,h,a,b,none)=(t++[],h,a,b,none);rw[ui5]
 |F+1,h,a,b,t=>by
   unfold A1
   cases BK g wl wr h a b with
   |stop=>show(t,_)=(t++[],_);rw[ui5]
   |brk k s=>show(t,_)=(t++[],_);rw[ui5]
   |next m h' a' b'=>
     dsimp only;rw[HS g wl wr F h' a' b' (t++[m]),HS g wl wr F h' a' b' ([]++[m])];rw[ui9,uf9]
theorem KW{g:List GS}{wl wr:List Nat}(hg:GOk g):∀(F F' h a b:Nat) (t:List D),Pl g wl wr h a b->wl.length+wr.length+1<=F+(a+b)->wl.length+wr.length+1<=F'+(a+b)->A1 g wl wr F h a b t=A1 g wl wr F' h a b t
 |0,F',h,a,b,t,p,hf,_=>by have:=p.a;have:=p.b;lia
 |F+1,0,h,a,b,t,p,_,hf=>by have:=p.a;have:=p.b;lia
 |F+1,F'+1,h,a,b,t,p,h1,h2=>by
   unfold A1
   cases e:BK g wl wr h a b with
   |stop=>rfl
   |brk k s=>rfl
   |next m h' a' b'=>
     clear 5(GK hg p e)p' hlt;exact KW hg F F' h' a' b' (t++[m]) p' (by lia) (by lia)
abbrev Fu(wl wr:List Nat):Nat:=wl.length+wr.length+1
theorem MI{v x:List Nat}:Agr v.length v (v++x):=λi hi=>ub0 hi
theorem Pl.more(p:Pl g vl vr h a b)(xl xr:List Nat):Pl g (vl++xl) (vr++xr) h a b:=
 ⟨p.h,ul9 p.a (by rw[ue8];lia),ul9 p.b (by rw[ue8];lia)⟩
theorem JX{g:List GS}{vl vr:List Nat}(hg:GOk g)(xl xr:List Nat):∀(F h a b:Nat) (t t':List D) (h' a' b':Nat),Pl g vl vr h a b->A1 g vl vr F h a b t=(t',h',a',b',none)->
 Pl g vl vr h' a' b'/\A1 g (vl++xl) (vr++xr) (Fu (vl++xl) (vr++xr)) h a b t=A1 g (vl++xl) (vr++xr) (Fu (vl++xl) (vr++xr)) h' a' b' t'
 |0,h,a,b,t,t',h',a',b',p,e=>by cases e;exact⟨p,rfl⟩
 |F+1,h,a,b,t,t',h',a',b',p,e=>by
   unfold A1 at e
   cases es:BK g vl vr h a b with
   |stop=>rw[es] at e;cases e;exact⟨p,rfl⟩
   |brk k s=>rw[es] at e;cases e
   |next m h1 a1 b1=>
     rw[es] at e;clear 5(GK hg p es)p1 hlt;clear 5(JX hg xl xr F h1 a1 b1 (t++[m]) t' h' a' b' p1 e)q1 q2;refine⟨q1,?_⟩;rw[<-q2];have e2:=Ss MI MI es p1.a p1.b (wl:=vl++xl) (wr:=vr++xr);have hs:A1 g (vl++xl) (vr++xr) (Fu (vl++xl) (vr++xr)) h a b t=A1 g (vl++xl) (vr++xr) ((vl++xl).length+(vr++xr).length) h1 a1 b1 (t++[m]):=by
      show A1 g (vl++xl) (vr++xr) ((vl++xl).length+(vr++xr).length+1) h a b t=_;rw[A1,e2]
     rw[hs];exact KW hg _ _ _ _ _ _ (p1.more xl xr) (by lia) (by show _<=(vl++xl).length+(vr++xr).length+1+_;lia)
def Rch(g:List GS)(vl vr:List Nat)(tk:List D)(h a b:Nat):Prop:=Pl g vl vr h a b/\∀xl xr:List Nat,A1 g (vl++xl) (vr++xr) (Fu (vl++xl) (vr++xr)) 0 0 0 []=A1 g (vl++xl) (vr++xr) (Fu (vl++xl) (vr++xr)) h a b tk
theorem Rch.start(hg:GOk g):Rch g [] [] [] 0 0 0:=⟨⟨hg.ne,um9 _,um9 _⟩,λ_ _=>rfl⟩
theorem Rch.more{g:List GS}{vl vr:List Nat}{tk:List D}{h a b:Nat}(r:Rch g vl vr tk h a b)(xl xr:List Nat):Rch g (vl++xl) (vr++xr) tk h a b:=
 ⟨r.1.more xl xr,λyl yr=>by rw[uf9,uf9];exact r.2 _ _⟩
theorem Rch.all{tk:List D}(r:Rch g vl vr tk h a b):A1 g vl vr (Fu vl vr) 0 0 0 []=(tk++(A1 g vl vr (Fu vl vr) h a b []).1,(A1 g vl vr (Fu vl vr) h a b []).2):=by
 have:=r.2 [] [];rw[ui5,ui5] at this;rw[this,HS]
theorem Rch.step(hg:GOk g){vl vr:List Nat}{tk t:List D}{h a b h' a' b':Nat}(r:Rch g vl vr tk h a b)(e:A1 g vl vr (Fu vl vr) h a b []=(t,h',a',b',none)):Rch g vl vr (tk++t) h' a' b':=by
 have e1:A1 g vl vr (Fu vl vr) h a b tk=(tk++t,h',a',b',none):=by rw[HS,e]
 refine⟨(JX hg [] [] _ _ _ _ _ _ _ _ _ r.1 e1).1,λxl xr=>?_⟩;rw[r.2 xl xr];exact(JX hg xl xr _ _ _ _ _ _ _ _ _ r.1 e1).2
def Fed(g:List GS)(vl vr:List Nat)(tk:List D)(h a b:Nat)(fl:D):Prop:=Rch g vl vr tk h a b/\match A1 g vl vr (Fu vl vr) 0 0 0 [] with
 |(t',h',a',b',none)=>tk=t'/\h=h'/\a=a'/\b=b'/\fl=.non
 |(_,_,_,_,some (k,s))=>fl=.tup [.int (k:Nat),.str s]
section
variable{f:Str}{t:T}{P:D->T->Prop}{O:Out->T->Prop}{k:Nat}{n:Str}{fs:List (Str×D)}{v:D}
def Tn(f:Str)(d:D):M D:=Ge d λ_ _ fs t=>(fs.lookup f).map λv=>(v,t)
def LD(f:Str)(v d:D):M Out:=Ge d λk n fs t=>if fs.length<1000 then some (.next,{t with S:=t.S.set k (.ins n (Gs f v fs))}) else none
theorem UE{a:M D}(h:W a t λd t1=>W (Tn f d) t1 P):W (Br f a) t P:=C8 h
theorem AO(e:t.S[k]?=some (.ins n fs))(l:fs.lookup f=some v)(h:P v t):W (Tn f (.obj k)) t P:=⟨_,_,by simp only[Tn,Ge,e,l];rfl,h⟩
theorem LL{gv ga:M D}(h:W gv t λv t1=>W ga t1 λd t2=>W (LD f v d) t2 O):W (CY f gv ga) t O:=C8 (h.mono λ_ _ z=>C8 z)
theorem Bz(e:t.S[k]?=some (.ins n fs))(l:fs.length<1000)(h:O .next ⟨t.env,t.S.set k (.ins n (Gs f v fs))⟩):W (LD f v (.obj k)) t O:=⟨_,_,by simp only[LD,Ge,e,kQ l],h⟩
theorem Vc{g:Fn}{fl:M (List D)}(h:W fl t λds t1=>Wf g (.obj t1.S.length::ds) (t1.S++[.ins n []]) λr S'=>r=.non/\P (.obj t1.S.length) ⟨t1.env,S'⟩):W (FV n g fl) t P:=
 C8 (h.mono λds t1 ⟨r,S',e,e2,p⟩=>by subst e2;exact⟨_,_,by simp only[e],p⟩)
theorem Vd{g:Fn}{o:M D}{fl:M (List D)}(h:W o t λd t1=>∃k fs,d=.obj k/\t1.S[k]?=some (.ins n fs)/\W fl t1 λds t2=>Wf g (d::ds) t2.S λr S'=>P r ⟨t2.env,S'⟩):W (AF n g o fl) t P:=by
 refine C8 (h.mono λd t1 z=>?_);clear 5 z k fs e1 e2 w;subst e1;clear 5 w ds t2 w1 r S' w2 p;refine⟨r,_,?_,p⟩;simp only[Ge,e2,kQ,bnd,w1,w2]
theorem SF(h:P (.obj t.S.length) ⟨t.env,t.S++[.dct []]⟩):W (FB []) t P:=by
 refine⟨_,_,?_,h⟩;simp[FB,Jb,bnd,L2.ret,F0,Bc]
end
local macro_rules | `(tactic| walk_at"y1")=>`(tactic| first
 |walk_at"x1" |clear 31 UE LL SF N5)
def Mj(f:Fn):Prop:=∀g:List GS,GOk g->Pure1 f [.lst (g.map GS.d)] (.lst (g.map GS.d))
theorem Tu(hc:EG c):Mj (fnOf 1 1 (Fi c)):=by
 intro g hg S;have hL:LIM=100000:=rfl;refine Ak rfl ?_;unfold Fi;symm;refine(Ih (f:=id) (fr:=[]) (λd hd=>?_)).mono λxs t' ⟨e1,e2⟩=>?_
 .clear 5(um4.mp hd)x hx rfl;have hok:=hg.all x hx;symm;refine(hc _ x hok).use ?_
  cases x with
  |fin=>
    rw[GS.isFin];symm;exact⟨rfl,rfl⟩
  |st side ws=>
    rw[show(GS.st side ws).isFin=false from rfl,GS.d];symm;exact⟨rfl,rfl⟩
 .subst e1;rw[List.map_id];have:=hg.le;refine CG (by rw[ui3,hL];lia) ?_;symm;exact⟨rfl,e2⟩
abbrev rdF(g:List GS)(h W P:Nat):List (Str×D):=[("grammar",.lst (g.map GS.d)),("standing",.int (h:Nat)),("wires",.obj W),("places",.obj P)]
structure Rdr(n0:Nat)(S:List Ob)(k:Nat)(g:List GS)(vl vr:List Nat)(h a b W P l r:Nat):Prop where
 k0:n0<=k
 l0:n0<=l
 r0:n0<=r
 ne:l≠r
 k:S[k]?=some (.ins "Reader" (rdF g h W P))
 w:S[W]?=some (.dct (lr (.obj l) (.obj r)))
 p:S[P]?=some (.dct (dP a b))
 l:S[l]?=some (.lst (wD vl))
 r:S[r]?=some (.lst (wD vr))
def Low(n0:Nat)(S S':List Ob):Prop:=n0<=S'.length/\∀i,i<n0->S'[i]?=S[i]?
variable{n0 l r:Nat}
theorem Rdr.gr{k:Nat}{W P:Nat}(R:Rdr n0 S k g vl vr h a b W P l r)(G:Gr S S'):Rdr n0 S' k g vl vr h a b W P l r:=
 ⟨R.k0,R.l0,R.r0,R.ne,G.get R.k,G.get R.w,G.get R.p,G.get R.l,G.get R.r⟩
variable{u:Ob}
theorem Af{o:Ob}(h:S[i]?=some u)(n:j≠i):(S.set j o)[i]?=some u:=by rw[ud5 n];exact h
theorem Ae{o:Ob}(h:S[i]?=some o)(h':S[j]?=some u)(n:o≠u):i≠j:=λe=>by subst e;rw[h] at h';exact n (ui2 h')
theorem Rdr.ext{k:Nat}{W P:Nat}{side:Str}(x:List Nat)(R:Rdr n0 S k g vl vr h a b W P l r) :
 S[onS side l r]?=some (.lst (wD (onS side vl vr)))/\Rdr n0 (S.set (onS side l r) (.lst (wD (onS side vl vr)++wD x))) k g (onS side (vl++x) vl) (onS side vr (vr++x)) h a b W P l r:=by
 unfold onS
 split
 .refine⟨R.l,R.k0,R.l0,R.r0,R.ne,Af R.k (Ae R.l R.k (by simp)),Af R.w (Ae R.l R.w (by simp)),Af R.p (Ae R.l R.p (by simp)),?_,Af R.r R.ne⟩;rw[<-E7];exact AD R.l
 .refine⟨R.r,R.k0,R.l0,R.r0,R.ne,Af R.k (Ae R.r R.k (by simp)),Af R.w (Ae R.r R.w (by simp)),Af R.p (Ae R.r R.p (by simp)),Af R.l (Ne.symm R.ne),?_⟩;rw[<-E7];exact AD R.r
theorem Rdr.put{k:Nat}{h' a' b' W P Q:Nat}(R:Rdr n0 S k g vl vr h a b W P l r)(e:S[Q]?=some (.dct (dP a' b'))):Rdr n0 (S.set k (.ins "Reader" (rdF g h' W Q))) k g vl vr h' a' b' W Q l r:=
 ⟨R.k0,R.l0,R.r0,R.ne,AD R.k,Af R.w (Ae R.k R.w (by simp)),Af e (Ae R.k e (by simp)),Af R.l (Ae R.k R.l (by simp)),Af R.r (Ae R.k R.r (by simp))⟩
def My(f:Fn):Prop:=∀(S:List Ob) (k:Nat) (g:List GS),GOk g->S[k]?=some (.ins "Reader" [])->Wf f [.obj k,.lst (g.map GS.d)] S λq S'=>q=.non/\(∀i,i<S.length->i≠k->S'[i]?=S[i]?)/\S.length<=S'.length/\∃W P l r,Rdr k S' k g [] [] 0 0 0 W P l r
def K0(f:Fn):Prop:=∀(S:List Ob) (k:Nat) (g:List GS),GOk g->S[k]?=some (.ins "Reader" [])->Wf f [.obj k,.lst (g.map GS.d),.tup [.str sL,.str sR]] S λq S'=>q=.non/\(∀i,i<S.length->i≠k->S'[i]?=S[i]?)/\S.length<=S'.length/\∃W P l r,Rdr k S' k g [] [] 0 0 0 W P l r
def Kp(k:Nat)(S S':List Ob):Prop:=S.length<=S'.length/\∀i,i<S.length->i≠k->S'[i]?=S[i]?
theorem Kp.refl{k:Nat}:Kp k S S:=⟨um8 _,λ_ _ _=>rfl⟩
theorem Kp.setk{k:Nat}{o:Ob}(a:Kp k S S'):Kp k S (S'.set k o):=⟨by rw[uj6];exact a.1,λi h n=>by rw[ud5 (Ne.symm n)];exact a.2 i h n⟩
theorem Kp.set{k j:Nat}{S S':List Ob}{o:Ob}(a:Kp k S S')(h:S.length<=j):Kp k S (S'.set j o):=⟨by rw[uj6];exact a.1,λi hi n=>by rw[ud5 (by lia)];exact a.2 i hi n⟩
theorem Kp.app{k:Nat}{o:Ob}(a:Kp k S S'):Kp k S (S'++[o]):=⟨by rw[ue8];exact ul9 a.1 (uh3 _ _),λi hi n=>by rw[ub0 (ue4 hi a.1)];exact a.2 i hi n⟩
theorem AG{o:Ob}(h:S[i]?=some u):(S++[o])[i]?=some u:=by rw[ub0 (ua9.mp h).1];exact h
theorem AX(h:S[i]?=some u):i<S.length:=(ua9.mp h).1
theorem TC(hc:Mj c):K0 (fnOf 3 4 (CU c)):=by
 intro S k g hg hk;have hkl:=AX hk;refine Ak rfl ?_;unfold CU;symm;refine(hc g hg).use ?_;symm;refine Bz hk (by show 0<1000;decide) ?_;have k1:Kp k S (S.set k (.ins "Reader" [("grammar",.lst (g.map GS.d))])):=Kp.refl.setk;have g1:(S.set k (.ins "Reader" [("grammar",.lst (g.map GS.d))]))[k]?=some (.ins "Reader" [("grammar",.lst (g.map GS.d))]):=AD hk;show Dj _ _ Out.next ⟨_,S.set k (.ins "Reader" [("grammar",.lst (g.map GS.d))])⟩;generalize S.set k (.ins "Reader" [("grammar",.lst (g.map GS.d))])=S1 at k1 g1⊢;symm;refine Bz g1 (by show 1<1000;decide) ?_;have k2:Kp k S (S1.set k (.ins "Reader" [("grammar",.lst (g.map GS.d)),("standing",.int (0:Nat))])):=k1.setk;have g2:(S1.set k (.ins "Reader" [("grammar",.lst (g.map GS.d)),("standing",.int (0:Nat))]))[k]?=some (.ins "Reader" [("grammar",.lst (g.map GS.d)),("standing",.int (0:Nat))]):=AD g1;show Dj _ _ Out.next ⟨_,S1.set k (.ins "Reader" [("grammar",.lst (g.map GS.d)),("standing",.int (0:Nat))])⟩;generalize S1.set k (.ins "Reader" [("grammar",.lst (g.map GS.d)),("standing",.int (0:Nat))])=S2 at k2 g2⊢;symm;refine Bz (AG g2) (by show 2<1000;decide) ?_;obtain⟨W,hW⟩:∃W,W=S2.length:=⟨_,rfl⟩;have w3:((S2++[Ob.dct []]).set k (.ins "Reader" [("grammar",.lst (g.map GS.d)),("standing",.int (0:Nat)),("wires",.obj W)]))[W]?=some (.dct []):=by rw[hW];exact Af BC (ul8 (AX g2))
 have k3:Kp k S ((S2++[Ob.dct []]).set k (.ins "Reader" [("grammar",.lst (g.map GS.d)),("standing",.int (0:Nat)),("wires",.obj W)])):=k2.app.setk;have g3:((S2++[Ob.dct []]).set k (.ins "Reader" [("grammar",.lst (g.map GS.d)),("standing",.int (0:Nat)),("wires",.obj W)]))[k]?=some (.ins "Reader" [("grammar",.lst (g.map GS.d)),("standing",.int (0:Nat)),("wires",.obj W)]):=AD (AG g2);have hSW:S.length<=W:=by rw[hW];exact k2.1
 show Dj _ _ Out.next ⟨_,(S2++[Ob.dct []]).set k (.ins "Reader" [("grammar",.lst (g.map GS.d)),("standing",.int (0:Nat)),("wires",.obj S2.length)])⟩;rw[<-hW];generalize (S2++[Ob.dct []]).set k (.ins "Reader" [("grammar",.lst (g.map GS.d)),("standing",.int (0:Nat)),("wires",.obj W)])=S3 at w3 k3 g3⊢;symm;refine Bz (AG g3) (by show 3<1000;decide) ?_;obtain⟨P,hP⟩:∃P,P=S3.length:=⟨_,rfl⟩;have w4:((S3++[Ob.dct []]).set k (.ins "Reader" (rdF g 0 W P)))[W]?=some (.dct []):=Af (AG w3) (Ae g3 w3 (by simp));have p4:((S3++[Ob.dct []]).set k (.ins "Reader" (rdF g 0 W P)))[P]?=some (.dct []):=by rw[hP];exact Af BC (ul8 (AX g3))
 have k4:Kp k S ((S3++[Ob.dct []]).set k (.ins "Reader" (rdF g 0 W P))):=k3.app.setk;have g4:((S3++[Ob.dct []]).set k (.ins "Reader" (rdF g 0 W P)))[k]?=some (.ins "Reader" (rdF g 0 W P)):=AD (AG g3);have hWP:W<P:=by rw[hP];exact AX w3
 show Dj _ _ Out.next ⟨_,(S3++[Ob.dct []]).set k (.ins "Reader" (rdF g 0 W S3.length))⟩;rw[<-hP];generalize (S3++[Ob.dct []]).set k (.ins "Reader" (rdF g 0 W P))=S4 at w4 p4 k4 g4⊢;symm;have hWk:W≠k:=λe=>by subst e;lia
 have hPk:P≠k:=λe=>by subst e;lia
 refine W_forL_cons.mpr ?_;symm;refine AO (AG g4) rfl ?_;symm;refine CA (AG w4) (by show 0<100000;decide) ?_;obtain⟨l,hl⟩:∃l,l=S4.length:=⟨_,rfl⟩;have hlk:k<l:=by rw[hl];exact AX g4
 have hlW:W<l:=by rw[hl];exact AX w4
 have hlP:P<l:=by rw[hl];exact AX p4
 have k5:Kp k S ((S4++[Ob.lst []]).set W (.dct [(kL,.obj l)])):=k4.app.set hSW;have g5:((S4++[Ob.lst []]).set W (.dct [(kL,.obj l)]))[k]?=some (.ins "Reader" (rdF g 0 W P)):=Af (AG g4) hWk;have w5:((S4++[Ob.lst []]).set W (.dct [(kL,.obj l)]))[W]?=some (.dct [(kL,.obj l)]):=AD (AG w4);have p5:((S4++[Ob.lst []]).set W (.dct [(kL,.obj l)]))[P]?=some (.dct []):=Af (AG p4) (by lia);have l5:((S4++[Ob.lst []]).set W (.dct [(kL,.obj l)]))[l]?=some (.lst []):=by rw[hl];exact Af BC (by lia)
 have n5:((S4++[Ob.lst []]).set W (.dct [(kL,.obj l)])).length=l+1:=by rw[uj6,ue8,hl];rfl
 show Dj _ _ Out.next ⟨_,(S4++[Ob.lst []]).set W (.dct [(kL,.obj S4.length)])⟩;rw[<-hl];generalize (S4++[Ob.lst []]).set W (.dct [(kL,.obj l)])=S5 at k5 g5 w5 p5 l5 n5⊢;symm;refine AO g5 rfl ?_;symm;refine CA p5 (by show 0<100000;decide) ?_;have k6:Kp k S (S5.set P (.dct [(kL,.int (0:Nat))])):=k5.set (by lia);have g6:(S5.set P (.dct [(kL,.int (0:Nat))]))[k]?=some (.ins "Reader" (rdF g 0 W P)):=Af g5 hPk;have w6:(S5.set P (.dct [(kL,.int (0:Nat))]))[W]?=some (.dct [(kL,.obj l)]):=Af w5 (by lia);have p6:(S5.set P (.dct [(kL,.int (0:Nat))]))[P]?=some (.dct [(kL,.int (0:Nat))]):=AD p5;have l6:(S5.set P (.dct [(kL,.int (0:Nat))]))[l]?=some (.lst []):=Af l5 (by lia);have n6:(S5.set P (.dct [(kL,.int (0:Nat))])).length=l+1:=by rw[uj6];exact n5
 show L2.W (CF _ _ _) ⟨_,S5.set P (.dct [(kL,.int (0:Nat))])⟩ _;generalize S5.set P (.dct [(kL,.int (0:Nat))])=S6 at k6 g6 w6 p6 l6 n6⊢;refine W_forL_cons.mpr ?_;symm;refine AO (AG g6) rfl ?_;symm;refine CA (AG w6) (by show 1<100000;decide) ?_;have k7:Kp k S ((S6++[Ob.lst []]).set W (.dct (lr (.obj l) (.obj (l+1))))):=k6.app.set hSW;have g7:((S6++[Ob.lst []]).set W (.dct (lr (.obj l) (.obj (l+1)))))[k]?=some (.ins "Reader" (rdF g 0 W P)):=Af (AG g6) hWk;have w7:((S6++[Ob.lst []]).set W (.dct (lr (.obj l) (.obj (l+1)))))[W]?=some (.dct (lr (.obj l) (.obj (l+1)))):=AD (AG w6);have p7:((S6++[Ob.lst []]).set W (.dct (lr (.obj l) (.obj (l+1)))))[P]?=some (.dct [(kL,.int (0:Nat))]):=Af (AG p6) (by lia);have l7:((S6++[Ob.lst []]).set W (.dct (lr (.obj l) (.obj (l+1)))))[l]?=some (.lst []):=Af (AG l6) (by lia);have r7:((S6++[Ob.lst []]).set W (.dct (lr (.obj l) (.obj (l+1)))))[l+1]?=some (.lst []):=by rw[<-n6];exact Af BC (by lia)
 have hput:BJ [(kL,D.obj l)] (.inr sR) (.obj S6.length)=lr (.obj l) (.obj (l+1)):=by rw[n6];rfl
 rw[hput];generalize (S6++[Ob.lst []]).set W (.dct (lr (.obj l) (.obj (l+1))))=S7 at k7 g7 w7 p7 l7 r7⊢;symm;refine AO g7 rfl ?_;symm;refine CA p7 (by show 1<100000;decide) ?_;show L2.W (CF _ _ []) ⟨_,S7.set P (.dct (dP 0 0))⟩ _;refine W_forL_nil.mpr ?_;refine⟨rfl,λi h n=>(k7.set (by lia)).2 i h n,(k7.set (by lia)).1,W,P,l,l+1,?_⟩;exact⟨um8 _,by lia,by lia,by lia,Af g7 hPk,Af w7 (by lia),AD p7,Af l7 (by lia),Af r7 (by lia)⟩
theorem VQ(hc:K0 c):My (fnOf 2 2 (EX c)):=by
 intro S k g hg hk;refine Ak rfl ?_;unfold EX;symm;refine(hc S k g hg hk).mono λq S' z9=>?_;clear 5 z9 e h1 h2 h3;symm;exact⟨rfl,h1,h2,h3⟩
theorem Se{k:Nat}{W P:Nat}(R:Rdr n0 S k g vl vr h a b W P l r):PureS S (fnOf 1 1 Bl) [.obj k] (.int (h:Nat)):=by
 refine Ak rfl ?_;unfold Bl;symm;refine AO R.k rfl ?_;symm;exact⟨rfl,rfl⟩
local macro_rules | `(tactic| walk_at"y1")=>`(tactic| first
 |walk_at"x1" |clear 31 UE LL SF N5 Vd Vc)
section
variable{n0:Nat}{S:List Ob}{k:Nat}{g:List GS}{vl vr:List Nat}{h a b W P l r:Nat}
end
theorem c8{side:Str}(v x:List Nat):onS side (v++x) v=v++(if side=sL then x else []):=by
 unfold onS
 split
 .rfl
 .rw[ui5]
theorem c9{side:Str}(hs:side=sL\/side=sR)(v x:List Nat):onS side v (v++x)=v++(if side=sR then x else []):=by
 unfold onS;rcases hs with rfl|rfl
 .rw[kQ rfl,kS sLR,ui5]
 .rw[kS (Ne.symm sLR),kQ rfl]
mutual
noncomputable def Cv:Sh->Bool
 |.number lo hi=>decide (hi-lo<1000000000)
 |.list s _=>Cv s
 |.pair s r=>Cv s&&Cv r
 |.choice ss=>Hb ss
 |_=>true
noncomputable def Hb:List Sh->Bool
 |[]=>true
 |s::r=>Cv s&&Hb r
end
theorem JD:∀{ss:List Sh},Hb ss=true->∀s∈ss,Cv s=true
 |x::r,h,s,m=>by
   rw[Hb,uh0] at h;rcases uk5.mp m with e|m
   .subst e;exact h.1
   .exact JD h.2 s m
mutual
noncomputable def EF:Sh->Bool
 |.text m=>decide (m<=3)
 |.list s m=>decide (m<=3)&&EF s
 |.pair s r=>EF s&&EF r
 |.choice ss=>KQ ss
 |_=>true
noncomputable def KQ:List Sh->Bool
 |[]=>true
 |s::r=>EF s&&KQ r
end
theorem Ma:∀{ss:List Sh},KQ ss=true->∀s∈ss,EF s=true
 |x::r,h,s,m=>by
   rw[KQ,uh0] at h;rcases uk5.mp m with e|m
   .subst e;exact h.1
   .exact Ma h.2 s m
noncomputable def bt:Nat->Nat
 |0=>4
 |d+1=>1+3*bt d
theorem ML:∀d,4<=bt d
 |0=>um8 _
 |d+1=>by have:=ML d;rw[bt];lia
structure Dr(d:Nat)(s:Sh):Prop where
 ok:wf s=true
 dep:s.depth<=d+1
 nar:Cv s=true
 tin:EF s=true
 few:∀v,Al s v=true->(AL s v).length<=bt d
theorem Dr.nothing{d:Nat}:Dr d .nothing:=⟨rfl,by rw[Sh.depth];lia,rfl,rfl,λv h=>by
 have:v=.non:=by cases v<;>simp[Al,GD] at h<;>rfl
 subst this;exact um9 _⟩
theorem Dr.number{d:Nat}{lo w:Int}(h1 : -4<=lo)(h2:lo<=4)(h3:0<=w)(h4:w<=70000):Dr d (.number lo (lo+w)):=by
 refine⟨?_,by rw[Sh.depth];lia,?_,rfl,λv h=>?_⟩
 .simp only[wf,uh0,ug3];lia
 .simp only[Cv,ug3];lia
 .have hb:=ML d;have hw:=KZ 3 (lo+w-lo).toNat (by show _<16777216;lia)
  cases v with
  |int i=>rw[AL,Nw];lia
  |_=>simp[Al] at h
theorem Dr.text{d:Nat}{m:Int}(h1:0<=m)(h2:m<=3):Dr d (.text m):=by
 refine⟨?_,by rw[Sh.depth];lia,rfl,?_,λv h=>?_⟩
 .simp only[wf,uh0,ug3];lia
 .simp only[EF,ug3];lia
 .have hb:=ML d
  cases v with
  |str x=>
    simp only[Al,uh0,ug3] at h;have h:=h.1;rw[GG] at h;rw[AL,ug6,ui3];lia
  |_=>simp[Al] at h
theorem OB{s:Sh}{n:Nat}:∀(ds:List D),(∀d∈ds,(AL s d).length<=n)->((ds.map λd=>AL s d).flatten).length<=ds.length*n
 |[],_=>um9 _
 |d::r,h=>by
   have h1:=OB r λx m=>h x (ud4 _ m);have h2:=h d ue5;rw[uk6,uf8,ue8,ug6,Nat.add_mul,Nat.one_mul];lia
theorem Dr.list{d:Nat}{s:Sh}{m:Int}(h:Dr d s)(h1:0<=m)(h2:m<=3):Dr (d+1) (.list s m):=by
 have:=h.dep;refine⟨?_,by rw[Sh.depth];lia,by rw[Cv];exact h.nar,?_,λv hf=>?_⟩
 .simp only[wf,uh0,ug3,h.ok];exact⟨⟨by lia,by lia⟩,trivial⟩
 .simp only[EF,h.tin,ul1,ug3];lia
 .cases v with
  |lst ds=>
    rw[Al,uh0,ug3,uh4] at hf;have h3:=OB ds λx m=>h.few x (hf.2 x m);have h4:ds.length*bt d<=3*bt d:=Nat.mul_le_mul_right _ (by lia);rw[AL,ug6,bt];lia
  |_=>simp[Al] at hf
theorem Dr.pair{d:Nat}{s r:Sh}(h:Dr d s)(h':Dr d r):Dr (d+1) (.pair s r):=by
 have:=h.dep;have:=h'.dep;refine⟨by simp only[wf,h.ok,h'.ok,ul4],by rw[Sh.depth];lia,by simp only[Cv,h.nar,h'.nar,ul4],by simp only[EF,h.tin,h'.tin,ul4],λv hf=>?_⟩;unfold Al at hf
 split at hf
 .rw[uh0] at hf;have h1:=h.few _ hf.1;have h2:=h'.few _ hf.2;rw[AL,ue8,bt];lia
 .cases hf
theorem Dr.choice{d:Nat}{s r:Sh}(h:Dr d s)(h':Dr d r):Dr (d+1) (.choice [s,r]):=by
 have:=h.dep;have:=h'.dep;refine⟨?_,?_,by simp only[Cv,Hb,h.nar,h'.nar,ul4],by simp only[EF,KQ,h.tin,h'.tin,ul4],λv hf=>?_⟩
 .simp only[wf,wfs,h.ok,h'.ok,ul4,ul1,uh0,ug3,ug6,uj1];lia
 .rw[Sh.depth,FZ,FZ,FZ];lia
 .unfold Al at hf
  split at hf
  .next o k x=>
   simp only[uh0,ug3] at hf;clear 5(ub6 hf.1.2.1)j rfl;have hj:j < [s,r].length:=by have:=hf.1.2.2;lia
   have e1:[s,r][j]?=some [s,r][j]:=ub3 hj;have h2:=hf.2;rw[uf7,Cp [s,r] _ _ _ e1] at h2;rw[AL,uf7,Fz [s,r] _ _ _ e1,ug6,bt];have hm:[s,r][j]=s\/[s,r][j]=r:=by
    match j,hj with
    |0,_=>exact .inl rfl
    |1,_=>exact .inr rfl
   rcases hm with e|e
   .rw[e] at h2⊢;have:=h.few x h2;lia
   .rw[e] at h2⊢;have:=h'.few x h2;lia
  .cases hf
theorem YN(c:Int):c%7=0\/c%7=1\/c%7=2\/c%7=3\/c%7=4\/c%7=5\/c%7=6:=by lia
noncomputable def p4(k:Int):Int:=if k=0 then 1 else if k=1 then 4 else 16
theorem ah{x:Str}{i:Int}(h:x.length<=LIM)(e:atI x.cps.toList i=some n)(p:P (.str ⟨#[n]⟩) t):W (ixD (.str x) (.int i)) t P:=W_ix_str.mpr ⟨h,n,e,p⟩
theorem Fy{i j:Int}(h1 : -18446744073709551616<j)(h2:j<18446744073709551616)(h:P (.int (i*j)) t):W (CH (.int i) (.int j)) t P:=Qm (ON h1 h2) h
def Tin(x:GS):Prop:=∀w∈x.ws,Dr 2 w.2.1
theorem bh(i:Int):∃s:Str,atI [D.str (Str.ofString "left"),.str (Str.ofString "right")] (i%2)=some (.str s)/\(s=Str.ofString "left"\/s=Str.ofString "right"):=by
 have:i%2=0\/i%2=1:=by lia
 rcases this with h|h<;>rw[h]
 .exact⟨_,rfl,.inl rfl⟩
 .exact⟨_,rfl,.inr rfl⟩
theorem Nf(hq:q<g.length):Ap g q∈g:=by
 unfold Ap;rw[ua8,ub3 hq];exact uh6 hq
theorem Mc{g:List GS}(hg:GOk g)(sd:Str):∀(q:Nat) (mv:List Mv),okQ g q mv->isB (Ag g sd q mv)
 |_,[],_=>λd h=>nomatch h
 |q,(p,v)::r,h=>by
   rw[okQ] at h;have hw:=E8 hg h.1.lt h.1.pl;have hgs:=CK hg h.1.lt;have hp:=h.1.pl;have hp9:p<256:=by
    cases e:Ap g q with
    |fin=>rw[e] at hp;exact absurd hp (Nat.not_lt_zero _)
    |st s ws=>
      rw[e] at hp hgs
      cases hgs with
      |st _ _ h3 _ _=>exact ue4 hp (ul9 h3 (by decide))
   rw[Ag];refine Ln ?_ (Mc hg sd _ r h.2)
   split
   .exact Gf hp9 (F7 3 _ hw.dep hw.ok v h.1.fit)
   .exact λd h=>nomatch h
section
variable{α:Type}{o:Str}{x y z:α}
theorem IK:onS o (onS o x y) (onS o y x)=x:=by unfold onS;split<;>rfl
theorem YW:onS o x (onS o y z)=onS o x z:=by unfold onS;split<;>rfl
theorem YX:onS o (onS o y z) x=onS o y x:=by unfold onS;split<;>rfl
theorem c7(hs:s=sL\/s=sR)(ho:o=sL\/o=sR)(n:s≠o):onS s (onS o x y) (onS o y x)=y:=by
 unfold onS;rcases hs with rfl|rfl<;>rcases ho with rfl|rfl
 .exact absurd rfl n
 .rw[kQ rfl,kS (Ne.symm sLR)]
 .rw[kS (Ne.symm sLR),kQ rfl]
 .exact absurd rfl n
end
abbrev w1(g:List GS)(o:Str)(w:List Nat)(F h a:Nat)(t:List D):Rs:=A1 g (onS o w []) (onS o [] w) F h (onS o a 0) (onS o 0 a) t
abbrev s1(g:List GS)(o:Str)(w:List Nat)(h a:Nat):Sr:=BK g (onS o w []) (onS o [] w) h (onS o a 0) (onS o 0 a)
theorem NR(hg:GOk g){o:Str}(ho:o=sL\/o=sR){w:List Nat}{h a:Nat}(hh:h<g.length)(n:(Ap g h).side≠o):s1 g o w h a=.stop:=by
 have hgs:=CK hg hh;unfold s1 BK
 cases e:Ap g h with
 |fin=>rfl
 |st side ws=>
   rw[e] at hgs n;have hs:side=sL\/side=sR:=by cases hgs with|st hs1 _ _ _ _=>exact hs1
   dsimp only;rw[c7 hs ho n];rfl
theorem KJ{o:Str}{ws:List (Str×Sh×Int)}(e:Ap g h=.st o ws):s1 g o w h a=match msgR o ws w a with
 |(.short,_)=>.stop
 |(.broken k,_)=>.brk k o
 |(.told v e,c)=>.next (.tup [.str o,.str (ws.getD c (Str.ofString "",.nothing,0)).1,v]) (ws.getD c (Str.ofString "",.nothing,0)).2.2.toNat (onS o e 0) (onS o 0 e):=by
 unfold s1 BK;rw[e];dsimp only;rw[IK,IK];generalize msgR o ws w a=m;clear 5 m r c
 cases r<;>dsimp only
 rw[YW,YX]
theorem ZM(hg:GOk g){o:Str}(ho:o=sL\/o=sR){w:List Nat}{h a:Nat}(hh:h<g.length)(ha:w.length<=a):s1 g o w h a=.stop:=by
 by_cases n:(Ap g h).side=o
 .cases e:Ap g h with
  |fin=>unfold s1 BK;rw[e]
  |st side ws=>
    rw[e] at n;have n:side=o:=n;subst n;rw[KJ e];unfold msgR;rw[ud3 ha]
 .exact NR hg ho hh n
theorem At.take{w:List Nat}{a c:Nat}{xs:List D}(h:At w a xs)(l:a+xs.length<=c):At (w.take c) a xs:=by
 clear 5 h p q e rfl;refine⟨p,q.take (c-(p.length+xs.length)),?_,rfl⟩;have:wD (w.take c)=(wD w).take c:=by unfold wD;rw[ul0]
 rw[this,e,<-uf9,List.take_append,uc2 (by rw[ue8];exact l),ue8,uf9]
abbrev mbQ(g:List GS)(q p:Nat)(v:D):List D:=.int (p:Int)::AL (wdAt g q p).2.1 v
def E9(g:List GS)(o:Str):Nat->List Mv->Prop
 |_,[]=>True
 |q,(p,_)::r=>(Ap g q).side=o/\E9 g o (Co g q p) r
theorem Hn{g:List GS}{o:Str}:∀(q:Nat) (a b:List Mv),E9 g o q (a++b)↔E9 g o q a/\E9 g o (Aj g q a) b
 |q,[],b=>by simp[E9,Aj]
 |q,(p,v)::r,b=>by rw[uh7,E9,E9,Aj,Hn _ r b,and_assoc]
def Pd(g:List GS)(q a tk:Nat):List Mv->Prop
 |[]=>True
 |(p,v)::_=>tk<a+(mbQ g q p v).length
theorem TR(hg:GOk g){q p:Nat}{v:D}{ws:List (Str×Sh×Int)}{o:Str}(hm:MvOk g q p v)(e:Ap g q=.st o ws){w:List Nat}{c:Nat}(h:At w c (mbQ g q p v)):msgR o ws w c=(.told v (c+(mbQ g q p v).length),p)/\ws.getD p (Str.ofString "",.nothing,0)=wdAt g q p:=by
 have hw:=E8 hg hm.lt hm.pl;clear 5(E5 hm.pl)side ws' e' hpl ew;rw[e] at e'
 cases e'
 refine⟨?_,by rw[ua8,ew];rfl⟩;clear 5(At.head h)h1 h2;unfold msgR;rw[h1];dsimp only;rw[ew];dsimp only;rw[back 3 _ hw.dep hw.ok w v (c+1) hm.fit h2,ug6]
 congr 2
 lia
theorem RB(hg:GOk g){q p:Nat}{v:D}{ws:List (Str×Sh×Int)}{o:Str}(hm:MvOk g q p v)(e:Ap g q=.st o ws){w:List Nat}{c tk:Nat}(h:At w c (mbQ g q p v))(h1:c<=tk)(h2:tk<c+(mbQ g q p v).length):(msgR o ws (w.take tk) c).1=.short:=by
 have hw:=E8 hg hm.lt hm.pl;clear 5(E5 hm.pl)side ws' e' hpl ew;rw[e] at e'
 cases e'
 clear 5(At.head h)h3 h4;unfold msgR
 by_cases z:c<tk
 .rw[uf1,kQ z,h3];dsimp only;rw[ew];dsimp only;have hb:=back 3 _ hw.dep hw.ok w v (c+1) hm.fit h4;rw[ug6] at h2;exact N0 _ _ hb z (by lia)
 .rw[uf1,kS z]
theorem O8{g:List GS}(hg:GOk g){o:Str}(ho:o=sL\/o=sR){w:List Nat}{tk:Nat}(htl:tk<=w.length):∀(mv:List Mv) (q a F:Nat) (t:List D),q<g.length->okQ g q mv->E9 g o q mv->At w a (Ag g o q mv)->a+(Ag g o q mv).length=w.length->a<=tk->tk+1<=F+a->
 ∃m1 m2,mv=m1++m2/\a+(Ag g o q m1).length<=tk/\Pd g (Aj g q m1) (a+(Ag g o q m1).length) tk m2/\w1 g o (w.take tk) F q a t=(t++AB g q m1,Aj g q m1,onS o (a+(Ag g o q m1).length) 0,onS o 0 (a+(Ag g o q m1).length),none)
 |[],q,a,F,t,hq,_,_,_,hl,ha,_=>by
   have hl:a=w.length:=hl;refine⟨[],[],rfl,ha,trivial,?_⟩;rw[AB,ui5];exact FF (ZM hg ho hq (by rw[ug8];lia)) F
 |(p,v)::r,q,a,F,t,hq,hk,hA,hat,hl,ha,hF=>by
   rw[okQ] at hk;rw[E9] at hA;rw[Ag,kQ hA.1] at hat hl;have hat1:At w a (mbQ g q p v):=hat.left;obtain⟨ws,e⟩:∃ws,Ap g q=.st o ws:=by
    obtain⟨side,ws,e,_,_⟩:=E5 hk.1.pl;refine⟨ws,?_⟩;have h:=hA.1;rw[e] at h⊢;rw[<-show side=o from h]
   by_cases z:a+(mbQ g q p v).length<=tk
   .have hpos:0<(mbQ g q p v).length:=by rw[ug6];lia
    obtain⟨F',rfl⟩:∃F',F=F'+1:=⟨F-1,by lia⟩;clear 5(O8 hg ho htl r (Co g q p) (a+(mbQ g q p v).length) F' (t++[ED g q p v]) (OP hg hq hk.1.pl) hk.2 hA.2 hat.right (by have hl2:a+(mbQ g q p v++Ag g o (Co g q p) r).length=w.length:=hl;rw[ue8] at hl2;lia) z (by lia))m1 m2 em hle hcut hw;clear 5(TR hg hk.1 e (hat1.take z))hb1 hb2;have ewq:(Ag g o q ((p,v)::m1)).length=(mbQ g q p v).length+(Ag g o (Co g q p) m1).length:=by rw[Ag,kQ hA.1,ue8]
    refine⟨(p,v)::m1,m2,by rw[em];rfl,by lia,by rw[Aj,ewq,<-ul3];exact hcut,?_⟩;rw[ewq,<-ul3,Aj,AB,List.append_cons,<-hw];show A1 g _ _ (F'+1) q _ _ t=_;rw[A1,show BK g (onS o (w.take tk) []) (onS o [] (w.take tk)) q (onS o a 0) (onS o 0 a)=_ from KJ e,hb1];dsimp only;rw[hb2];unfold ED;rw[e];rfl
   .refine⟨[],(p,v)::r,rfl,ha,by show tk<a+0+(mbQ g q p v).length;lia,?_⟩;rw[AB,ui5];refine FF (?_:s1 g o (w.take tk) q a=.stop) F;rw[KJ e];have hs:=RB hg hk.1 e hat1 ha (by lia);generalize msgR o ws (w.take tk) a=m at hs⊢;clear 5 m r0 c0;have hs:r0=.short:=hs;subst hs;rfl
abbrev d1(o:Str)(d:D):List (Key×D):=[(.inr o,d)]
theorem GZ{o:Str}{d:D}:Ba (d1 o d) (.inr o)=some d:=by simp[Ba,uj0]
theorem XV{o:Str}{d:D}(n:s≠o):Ba (d1 o d) (.inr s)=none:=by
 unfold Ba;rw[uj0,show decide ((Sum.inr o:Key)=.inr s)=false from uj8 λh=>n (Sum.inr.inj h).symm];rfl
theorem XW{o:Str}{d e:D}:BJ (d1 o d) (.inr o) e=d1 o e:=by
 unfold BJ;rw[kQ (by simp)];simp only[uk6,um1,kz]
def Pg(f:Fn):Prop:=∀(S:List Ob) (wv:D) (n:Int) (side:Str) (ws:List (Str×Sh×Int)) (w:List Nat) (p:Nat),Wir S wv w->GSOk n (.st side ws)->p<=w.length->w.length<=50000->(∀j c,msgR side ws w p≠(.broken j,c))->PureS S f [(GS.st side ws).d,wv,.int p] (HE side ws w p)
theorem V2(hc:Ie c 3):Pg (fnOf 3 6 (Ei c)):=by
 intro S wv n side ws w p hv hgs hp hwl hnb
 cases hgs with
 |@st _ _ hs1 hs2 hs3 hs4 hs5=>
 refine Ak rfl ?_;unfold Ei;rw[GS.d]
 cases hb:w[p]? with
 |none=>
   have hpl:¬p<w.length:=by rw[ub2] at hb;lia
   rw[show HE side ws w p=.non by unfold HE msgR;rw[hb]];symm;refine Mu hv ?_;symm;refine Gh (by simp;lia) ?_;symm;exact⟨rfl,rfl⟩
 |some cc=>
   obtain⟨hpl,_⟩:=ua9.mp hb;symm;refine Mu hv ?_;symm;refine Ff (by simp;lia) ?_;symm;refine UF hv hb ?_;symm;rw[ui3]
   cases hw:ws[cc]? with
   |none=>exact(hnb p 0 (by unfold msgR;simp only[hb,hw])).elim
   |some wd=>
     obtain⟨hcl,_⟩:=ua9.mp hw;have hwo:=hs5 wd (ud6 hw);have hgd:ws.getD cc (Str.ofString "",.nothing,0)=wd:=by rw[ua8,hw];rfl
     have hrd:=hc wd.2.1 hwo.dep hwo.ok S wv w (p+1) hv hpl;refine Ff (by simp;lia) ?_;symm;refine UF hv hb ?_;symm;refine By (IT hw) ?_;unfold wdD;dsimp only;symm
     cases e:(pSh 3 wd.2.1).run w (p+1) with
     |told v b=>
       rw[show HE side ws w p=.tup [.tup [.str side,.str wd.1,v],.int wd.2.2,.int b] by unfold HE msgR;simp only[hb,hw,e,hgd]];rw[e,rrD] at hrd;refine hrd.use II ?_;symm;exact⟨rfl,rfl⟩
     |short=>
       rw[show HE side ws w p=.non by unfold HE msgR;simp only[hb,hw,e]];rw[e,rrD] at hrd;refine hrd.use E3 ?_;symm;exact⟨rfl,rfl⟩
     |broken k=>exact(hnb k cc (by unfold msgR;simp only[hb,hw,e])).elim
def IV(f:Fn):Prop:=∀(g:List GS) (wl wr:List Nat) (dl dr:D) (h a b W P:Nat) (S:List Ob) (t0:List D) (h0 a0 b0:Nat),GOk g->Pl g wl wr h a b->wl.length<=25000->wr.length<=25000->Wir S dl wl->Wir S dr wr->S[W]?=some (.dct (lr dl dr))->S[P]?=some (.dct (dP a b))->A1 g wl wr (wl.length+wr.length+1) h a b []=(t0,h0,a0,b0,none)->
 Wf f [.lst (g.map GS.d),.int h,.obj W,.obj P] S λr S'=>Gr S S'/\∃K,S.length<=K/\r=.tup [.lst t0,.int (h0:Nat),.obj K]/\S'[K]?=some (.dct (dP a0 b0))
theorem Oh(hc:Pg c):IV (fnOf 4 9 (D3 c)):=by
 intro g wl wr dl dr h a b W P S t0 h0 a0 b0 hg p hl1 hl2 hvl hvr hW hP hR;have hL:LIM=100000:=rfl;refine Ak rfl ?_;unfold D3;symm;refine SE hP ?_;symm;obtain⟨R,hRe⟩:∃R:Rs,R=(t0,h0,a0,b0,none):=⟨_,rfl⟩;rw[<-hRe] at hR;obtain⟨K,hK⟩:∃K,K=S.length:=⟨_,rfl⟩;rw[<-hK];refine Hm (λn t=>∃(h' a' b':Nat) (tk:List D) (S':List Ob) (e7 e8:Option Sl),Pl g wl wr h' a' b'/\wl.length+wr.length+1<=n+(a'+b')/\tk.length+n<=wl.length+wr.length+1/\A1 g wl wr n h' a' b' tk=R/\Gr S S'/\S'[K]?=some (.dct (dP a' b'))/\t=⟨[vw (.lst (g.map GS.d)),vw (.int h),vw (.obj W),vw (.obj P),some (.own tk),vw (.int h'),vw (.obj K),e7,e8],S'⟩) ?_ Ka (wl.length+wr.length+1) _ ?_ ?_
 .rintro n t ⟨h',a',b',tk,S',e7,e8,p',hn,ht,hR',hG,hK',rfl⟩;have pa:=p'.a;have pb:=p'.b;obtain⟨m,rfl⟩:∃m,n=m+1:=ib (by lia);have hgs:=CK hg p'.h;have hix:=C5 p'.h;have hW':=hG.get hW;unfold A1 BK at hR'
  cases eg:Ap g h' with
  |fin=>
    rw[eg] at hix hR';rw[GS.d] at hix;symm;refine By hix ?_;symm;refine Qj hW' ?_;rw[Tb];symm;show Dj _ _ Out.next _;symm;subst hR';simp only[ju] at hRe;obtain⟨rfl,rfl,rfl,rfl,_⟩:=hRe;exact⟨hG,K,by lia,rfl,hK'⟩
  |st side ws=>
    rw[eg] at hix hR' hgs;have hs:side=sL\/side=sR:=by cases hgs with|st hs1 _ _ _ _=>exact hs1
    have hix2:=hix;rw[GS.d] at hix2;symm;refine By hix2 ?_;symm;refine Qj hW' ?_;rw[IB hs];symm;refine⟨m,rfl,?_⟩;symm;refine By hix2 ?_;symm;refine By hix ?_;symm;refine Bj hW' (IB hs) ?_;symm;refine Bj hK' (IB hs) ?_;symm;have hon:(onS side (D.int (a':Int)) (D.int (b':Int)))=.int ((onS side a' b':Nat):Int):=by unfold onS;split<;>rfl
    have hon2:Wir S' (onS side dl dr) (onS side wl wr):=by unfold onS;split;exact hvl.gr hG;exact hvr.gr hG
    rw[hon];have hle:=YY (s:=side) pa pb;have hms:=hc S' (onS side dl dr) g.length side ws (onS side wl wr) (onS side a' b') hon2 hgs hle (by unfold onS;split<;>lia)
    unfold HE at hms;dsimp only at hR';generalize hmr:msgR side ws (onS side wl wr) (onS side a' b')=mr at hms hR';clear 5 mr r0 c0
    cases r0 with
    |short=>
      have hms:=hms λ_ _ h=>by cases h
      dsimp only at hms hR';refine hms.use ?_;symm;refine W_ret.mpr ?_;show Dj _ _ Out.next _;symm;subst hR';simp only[ju] at hRe;obtain⟨rfl,rfl,rfl,rfl,_⟩:=hRe;exact⟨hG,K,by lia,rfl,hK'⟩
    |broken k=>
      dsimp only at hR';subst hR'
      cases hRe
    |told v e=>
      have hms:=hms λ_ _ h=>by cases h
      dsimp only at hms hR';have hst:BK g wl wr h' a' b'=.next (.tup [.str side,.str (ws.getD c0 (Str.ofString "",.nothing,0)).1,v]) (ws.getD c0 (Str.ofString "",.nothing,0)).2.2.toNat (onS side e a') (onS side b' e):=by
       unfold BK;rw[eg];dsimp only;rw[hmr]
      clear 5(GK hg p' hst)p2 hlt;refine hms.use ?_;symm;refine CG (by rw[hL];lia) ?_;symm;refine CA hK' (by show 2<100000;decide) ?_;rw[Rv hs];have hwl:(0:Int)<=(ws.getD c0 (Str.ofString "",.nothing,0)).2.2:=by
       cases hgs with
       |st _ h2 _ _ h5=>
         cases hq:ws[c0]? with
         |none=>rw[ua8,hq];exact Int.le_refl _
         |some wd=>rw[ua8,hq];exact(h5 wd (ud6 hq)).lo
      have hd:lr (onS side (D.int (e:Int)) (D.int (a':Int))) (onS side (D.int (b':Int)) (D.int (e:Int)))=dP (onS side e a') (onS side b' e):=by unfold onS;split<;>rfl
      refine⟨_,_,_,tk++[_],_,_,_,p2,by lia,by rw[ue8,uc9];lia,hR',hG.set (by lia),(AD hK').trans (kr (λl=>some (Ob.dct l)) hd),t9 rfl (kr D.int (Int.toNat_of_nonneg hwl).symm)⟩
 .show _<1000000;lia
 .exact⟨h,a,b,[],_,none,none,p,by lia,by simp,hR,Gr.app,by rw[hK];exact BC,rfl⟩
def JF(f:Fn):Prop:=∀(g:List GS) (o:Str) (w:List Nat) (dw:D) (h a W P:Nat) (S:List Ob) (t0:List D) (h0 a0 b0:Nat),GOk g->(o=sL\/o=sR)->h<g.length->a<=w.length->w.length<=25000->Wir S dw w->S[W]?=some (.dct (d1 o dw))->S[P]?=some (.dct (d1 o (.int (a:Nat))))->w1 g o w (w.length+1) h a []=(t0,h0,a0,b0,none)->
 Wf f [.lst (g.map GS.d),.int (h:Nat),.obj W,.obj P] S λr S'=>Gr S S'/\∃K,S.length<=K/\r=.tup [.lst t0,.int (h0:Nat),.obj K]/\S'[K]?=some (.dct (d1 o (.int (onS o a0 b0:Nat))))
theorem NM(hc:Pg c):JF (fnOf 4 9 (D3 c)):=by
 intro g o w dw h a W P S t0 h0 a0 b0 hg ho hh ha hl hv hW hP hR;have hL:LIM=100000:=rfl;refine Ak rfl ?_;unfold D3;symm;refine SE hP ?_;symm;obtain⟨R,hRe⟩:∃R:Rs,R=(t0,h0,a0,b0,none):=⟨_,rfl⟩;rw[<-hRe] at hR;obtain⟨K,hK⟩:∃K,K=S.length:=⟨_,rfl⟩;rw[<-hK];refine Hm (λn t=>∃(h' a':Nat) (tk:List D) (S':List Ob) (e7 e8:Option Sl),h'<g.length/\a'<=w.length/\w.length+1<=n+a'/\tk.length+n<=w.length+1/\w1 g o w n h' a' tk=R/\Gr S S'/\S'[K]?=some (.dct (d1 o (.int (a':Nat))))/\t=⟨[vw (.lst (g.map GS.d)),vw (.int h),vw (.obj W),vw (.obj P),some (.own tk),vw (.int h'),vw (.obj K),e7,e8],S'⟩) ?_ Ka (w.length+1) _ ?_ ?_
 .rintro n t ⟨h',a',tk,S',e7,e8,hh',ha',hn,ht,hR',hG,hK',rfl⟩;obtain⟨m,rfl⟩:∃m,n=m+1:=ib (by lia);have hgs:=CK hg hh';have hix:=C5 hh';have hW':=hG.get hW
  by_cases z:(Ap g h').side=o
  .cases eg:Ap g h' with
   |fin=>
     rw[eg] at z;rcases ho with rfl|rfl<;>exact absurd z (by decide +kernel)
   |st side ws=>
     rw[eg] at z;have z:side=o:=z;subst z;rw[eg] at hix hgs;have hix2:=hix;rw[GS.d] at hix2;symm;refine By hix2 ?_;symm;refine Qj hW' ?_;rw[GZ];symm;refine⟨m,rfl,?_⟩;symm;refine By hix2 ?_;symm;refine By hix ?_;symm;refine Bj hW' GZ ?_;symm;refine Bj hK' GZ ?_;symm;have hst:s1 g side w h' a'=_:=KJ eg;have hms:=hc S' dw g.length side ws w a' (hv.gr hG) hgs ha' (by lia);have hR2:A1 g (onS side w []) (onS side [] w) (m+1) h' (onS side a' 0) (onS side 0 a') tk=R:=hR';rw[A1,show BK g (onS side w []) (onS side [] w) h' (onS side a' 0) (onS side 0 a')=_ from hst] at hR2;unfold HE at hms;generalize hmr:msgR side ws w a'=mr at hms hR2 hst;clear 5 mr r0 c0
     cases r0 with
     |short=>
       have hms:=hms λ_ _ h=>by cases h
       dsimp only at hms hR2;refine hms.use ?_;symm;refine W_ret.mpr ?_;show Dj _ _ Out.next _;symm;subst hR2;simp only[ju] at hRe;obtain⟨rfl,rfl,rfl,rfl,_⟩:=hRe;exact⟨hG,K,by lia,rfl,by rw[IK];exact hK'⟩
     |broken k=>
       dsimp only at hR2;subst hR2
       cases hRe
     |told v e=>
       have hms:=hms λ_ _ h=>by cases h
       dsimp only at hms hR2 hst;have pl:Pl g (onS side w []) (onS side [] w) h' (onS side a' 0) (onS side 0 a'):=⟨hh',by unfold onS;split<;>first|exact ha'|exact um9 _,by unfold onS;split<;>first|exact ha'|exact um9 _⟩
       clear 5(GK hg pl hst)p2 hlt;have hae:a'<e:=by unfold onS at hlt;split at hlt<;>lia
       have hel:e<=w.length:=by
        have h1:=p2.a;have h2:=p2.b;unfold onS at h1 h2
        split at h1
        .exact h1
        .next q=>simp only[kS q] at h2;exact h2
       refine hms.use ?_;symm;refine CG (by rw[hL];lia) ?_;symm;refine CA hK' (by show 1<100000;decide) ?_;rw[XW];have hwl:(0:Int)<=(ws.getD c0 (Str.ofString "",.nothing,0)).2.2:=by
        cases hgs with
        |st _ h2 _ _ h5=>
          cases hq:ws[c0]? with
          |none=>rw[ua8,hq];exact Int.le_refl _
          |some wd=>rw[ua8,hq];exact(h5 wd (ud6 hq)).lo
       refine⟨_,e,tk++[_],_,_,_,p2.h,hel,by lia,by rw[ue8,uc9];lia,hR2,hG.set (by lia),AD hK',t9 rfl (kr D.int (Int.toNat_of_nonneg hwl).symm)⟩
  .have hR2:R=(tk,h',onS o a' 0,onS o 0 a',none):=by rw[<-hR'];exact FF (NR hg ho hh' z) _
   have hsd:atI [(D.str (Ap g h').side)] 0=some (.str (Ap g h').side):=rfl;have fin:∀(t:T) (Q:D->T->Prop),Q (.str (Ap g h').side) t->L2.W (ixD (Ap g h').d (.int 0)) t Q:=λt Q h=>by
    cases e:Ap g h' with
    |fin=>rw[e] at h;rw[GS.d];exact En FU h
    |st s w=>rw[e] at h;rw[GS.d];exact En FU h
   symm;refine By hix ?_;symm;refine fin _ _ ?_;symm;refine Qj hW' ?_;rw[XV z];symm;show Dj _ _ Out.next _;symm;subst hR2;simp only[ju] at hRe;obtain⟨rfl,rfl,rfl,rfl,_⟩:=hRe;exact⟨hG,K,by lia,rfl,by rw[IK];exact hK'⟩
 .show _<1000000;lia
 .exact⟨h,a,[],_,none,none,hh,ha,by lia,by simp,hR,Gr.app,by rw[hK];exact BC,rfl⟩
def K4(f:Fn):Prop:=∀(g:List GS) (wl wr:List Nat) (S:List Ob) (t0:List D) (h0 a0 b0:Nat),GOk g->wl.length<=25000->wr.length<=25000->A1 g wl wr (wl.length+wr.length+1) 0 0 0 []=(t0,h0,a0,b0,none)->Wf f [.lst (g.map GS.d),.lst (wD wl),.lst (wD wr)] S λr S'=>Gr S S'/\r=.tup [.lst t0,.int (h0:Nat),.tup [.int (a0:Nat),.int (b0:Nat)]]
theorem Oj(hc:IV c):K4 (fnOf 3 4 (Gp c)):=by
 intro g wl wr S t0 h0 a0 b0 hg hl1 hl2 hw0;refine Ak rfl ?_;unfold Gp;symm;refine HN ?_;refine Bp ?_;symm;refine Bp ?_;symm;refine D7 ?_;refine⟨by simp,by show 2<=15;decide,?_⟩;have hA:Gr S ((S++[Ob.dct []]).set S.length (.dct (Bc (dW wl wr)))):=Gr.app.set (um8 _);have hB:((S++[Ob.dct []]).set S.length (.dct (Bc (dW wl wr))))[S.length]?=some (.dct (dW wl wr)):=by rw[Fg];exact AD BC
 show W _ ⟨_,(S++[Ob.dct []]).set S.length (.dct (Bc (dW wl wr)))⟩ _;generalize (S++[Ob.dct []]).set S.length (.dct (Bc (dW wl wr)))=S1 at hA hB⊢;symm;refine HN ?_;refine Bp ?_;symm;refine Bp ?_;symm;refine D7 ?_;refine⟨by simp,by show 2<=15;decide,?_⟩;have hC:Gr S1 ((S1++[Ob.dct []]).set S1.length (.dct (Bc (dP 0 0)))):=Gr.app.set (um8 _);have hD:((S1++[Ob.dct []]).set S1.length (.dct (Bc (dP 0 0))))[S1.length]?=some (.dct (dP 0 0)):=by rw[Fg];exact AD BC
 show W _ ⟨_,(S1++[Ob.dct []]).set S1.length (.dct (Bc (dP 0 0)))⟩ _;generalize (S1++[Ob.dct []]).set S1.length (.dct (Bc (dP 0 0)))=S2 at hC hD⊢;symm;refine(hc g wl wr _ _ 0 0 0 S.length S1.length S2 t0 h0 a0 b0 hg ⟨hg.ne,um9 _,um9 _⟩ hl1 hl2 (.inl rfl) (.inl rfl) (hC.get hB) hD hw0).mono ?_;rintro r S3 ⟨hG,K,_,rfl,hK⟩;symm;refine Bj hK G9 ?_;symm;refine Bj hK Ha ?_;symm;exact⟨hA.trans (hC.trans hG),rfl⟩
def Kx(F:List Nat)(S S':List Ob):Prop:=S.length<=S'.length/\∀i,i<S.length->i∉F->S'[i]?=S[i]?
section
variable{F:List Nat}{S S1 S2:List Ob}{k:Nat}{o:Ob}
theorem Kx.refl:Kx F S S:=⟨um8 _,λ_ _ _=>rfl⟩
theorem Kx.set(a:Kx F S S1)(h:k∈F):Kx F S (S1.set k o):=⟨by rw[uj6];exact a.1,λi hi n=>by rw[ud5 (λe=>n (by rw[<-e];exact h))];exact a.2 i hi n⟩
theorem Kx.gr(a:Kx F S S1)(b:Gr S1 S2):Kx F S S2:=⟨ul9 a.1 b.1,λi h n=>(b.2 i (ue4 h a.1)).trans (a.2 i h n)⟩
theorem Kx.get(a:Kx F S S1)(n:k∉F)(h:S[k]?=some o):S1[k]?=some o:=by rw[a.2 k (AX h) n];exact h
end
abbrev lsF(g:List GS)(x:Str)(h tk hd W P q:Nat):List (Str×D):=[("grammar",.lst (g.map GS.d)),("standing",.int (h:Nat)),("wires",.obj W),("places",.obj P),("side",.str x),("said",.obj q),("taken",.int (tk:Nat)),("handed",.int (hd:Nat))]
structure Lst(S:List Ob)(g:List GS)(x o:Str)(h a tk hd:Nat)(w sd:List Nat)(k l q W P:Nat):Prop where
 ik:S[k]?=some (.ins "Lasting" (lsF g x h tk hd W P q))
 iw:S[W]?=some (.dct (d1 o (.obj l)))
 ip:S[P]?=some (.dct (d1 o (.int (a:Nat))))
 il:S[l]?=some (.lst (wD w))
 iq:S[q]?=some (.lst (wD sd))
 ne:l≠q
section
variable{S S':List Ob}{g:List GS}{x o:Str}{h a tk hd:Nat}{w sd:List Nat}{k l q W P:Nat}
end
def Two(x o:Str):Prop:=(x=sL/\o=sR)\/(x=sR/\o=sL)
theorem Two.swap{x o:Str}(h:Two x o):Two o x:=h.elim (λh=>.inr ⟨h.2,h.1⟩) λh=>.inl ⟨h.2,h.1⟩
theorem Two.x{x o:Str}(h:Two x o):x=sL\/x=sR:=h.imp (·.1) (·.1)
theorem Two.o{x o:Str}(h:Two x o):o=sL\/o=sR:=h.swap.x
theorem Two.ne{x o:Str}(h:Two x o):x≠o:=by
 rcases h with⟨rfl,rfl⟩|⟨rfl,rfl⟩
 .exact sLR
 .exact Ne.symm sLR
def Eu(f:Fn):Prop:=∀x o:Str,Two x o->Pure1 f [.str x] (.str o)
theorem Zc:Eu (fnOf 1 1 Gk):=by
 intro x o h S;refine Ak rfl ?_;unfold Gk;rcases h with⟨rfl,rfl⟩|⟨rfl,rfl⟩
 .symm;exact⟨rfl,rfl⟩
 .symm;exact⟨rfl,rfl⟩
theorem aj{k:Nat}{lo hi:Option Int}(e:t.S[k]?=some (.lst ds))(h:P (.lst (B3 ds lo hi)) t):W (LG (.obj k) lo hi) t P:=⟨_,_,by simp only[LG,e],h⟩
abbrev heF(g:List GS)(W P:Nat):List (Str×D):=[("grammar",.lst (g.map GS.d)),("standing",.int (0:Nat)),("wires",.obj W),("places",.obj P)]
structure Hea(S S':List Ob)(k W P l:Nat)(o:Str)(fs:List (Str×D)):Prop where
 kp:Kp k S S'
 ik:S'[k]?=some (.ins "Lasting" fs)
 iw:S'[W]?=some (.dct (d1 o (.obj l)))
 ip:S'[P]?=some (.dct (d1 o (.int (0:Nat))))
 il:S'[l]?=some (.lst [])
 gw:S.length<=W
 gp:S.length<=P
 gl:S.length<=l
def Gw(S S':List Ob):Prop:=S.length<=S'.length/\∀i,i<S.length->S'[i]?=S[i]?
mutual
inductive Ow(S:List Ob):D->D->List Nat->Prop
 |non:Ow S .non .non []
 |int (i:Int):Ow S (.int i) (.int i) []
 |str (x:Str):Ow S (.str x) (.str x) []
 |tup {ds vs:List D}{fp:List Nat}:Ows S ds vs fp->Ow S (.tup ds) (.tup vs) fp
 |obj {k:Nat}{ds vs:List D}{fp:List Nat}:S[k]?=some (.lst ds)->Ows S ds vs fp->k∉fp->Ow S (.obj k) (.lst vs) (k::fp)
inductive Ows(S:List Ob):List D->List D->List Nat->Prop
 |nil:Ows S [] [] []
 |cons {d v:D}{fp fp':List Nat}{ds vs:List D}:Ow S d v fp->Ows S ds vs fp'->(∀k∈fp,k∉fp')->Ows S (d::ds) (v::vs) (fp++fp')
end
variable{Q:List D->T->Prop}
theorem Ql{k:Nat}(e:t.S[k]?=some (.lst ds))(h:Q ds t):W (Dg [.obj k]) t Q:=⟨_,_,by simp only[Dg,e],h⟩
def prt(g:List GS)(mv:List Mv)(i:Nat):List D:=match mv[i]? with
 |some (p,v)=>.int (p:Int)::AL (wdAt g (Aj g 0 (mv.take i)) p).2.1 v
 |none=>[]
structure Due(g:List GS)(mv:List Mv)(rl rr k:Nat):Prop where
 le:k<=mv.length
 a:(Ag g sL 0 (mv.take k)).length<=rl
 b:(Ag g sR 0 (mv.take k)).length<=rr
 z:k=mv.length\/(k<mv.length/\onS (Ap g (Aj g 0 (mv.take k))).side rl rr<onS (Ap g (Aj g 0 (mv.take k))).side (Ag g sL 0 (mv.take k)).length (Ag g sR 0 (mv.take k)).length+(prt g mv k).length)
theorem Xk(w:List Nat)(r:Nat):wD (w.take r)=(wD w).take r:=by unfold wD;rw[ul0]
theorem QB{m:List Nat}{R:List D}(e:wD w=xs++R)(h:xs.length<=r):At (w.take r++m) 0 xs:=by
 refine⟨[],R.take (r-xs.length)++wD m,?_,rfl⟩;rw[ui9,E7,Xk,e,List.take_append,uc2 h,uf9]
variable{mv:List Mv}
theorem HU(sd:Str)(k:Nat):Ag g sd 0 mv=Ag g sd 0 (mv.take k)++Ag g sd (Aj g 0 (mv.take k)) (mv.drop k):=by
 have e:Ag g sd 0 mv=Ag g sd 0 (mv.take k++mv.drop k):=by rw[ud1]
 rw[e,Cj]
theorem YO{k:Nat}{sd:Str}(em:mv[k]?=some (p,v))(es:(Ap g (Aj g 0 (mv.take k))).side=sd)(e:wD w=Ag g sd 0 mv):At w (Ag g sd 0 (mv.take k)).length (prt g mv k):=by
 have hk:=(ua9.mp em).1;have ed:mv.drop k=(p,v)::mv.drop (k+1):=by
  rw[ub1 hk];rw[ub3 hk] at em;rw[ui2 em]
 refine⟨Ag g sd 0 (mv.take k),Ag g sd (Co g (Aj g 0 (mv.take k)) p) (mv.drop (k+1)),?_,rfl⟩;rw[e,HU sd k,ed,Ag,kQ es];unfold prt;rw[em]
theorem SZ{k:Nat}{side:Str}{ws:List (Str×Sh×Int)}(hg:GOk g)(hok:okQ g 0 mv)(em:mv[k]?=some (p,v))(eg:Ap g (Aj g 0 (mv.take k))=.st side ws)(e:wD w=Ag g side 0 mv)(h:r<(Ag g side 0 (mv.take k)).length+(prt g mv k).length):(msgR side ws (w.take r) (Ag g side 0 (mv.take k)).length).1=.short:=by
 have hm:=Lq hok em;have hw:=E8 hg hm.lt hm.pl;have hfit:=hm.fit;have hA:=YO em (by rw[eg];rfl) e;have hp:prt g mv k=.int (p:Int)::AL (wdAt g (Aj g 0 (mv.take k)) p).2.1 v:=by unfold prt;rw[em]
 rw[hp] at hA h;rw[ug6] at h;clear 5(At.head hA)h1 h2;have hrun:=back 3 _ hw.dep hw.ok w v _ hfit h2;generalize (Ag g side 0 (mv.take k)).length=a at *;clear 5(E5 hm.pl)side' ws' eg' hpl ew;rw[eg] at eg'
 cases eg'
 unfold msgR
 by_cases hr:a<r
 .rw[show(w.take r)[a]?=some p by rw[uf1,kQ hr];exact h1];dsimp only;rw[ew];dsimp only;exact N0 _ _ hrun hr (by lia)
 .rw[show(w.take r)[a]?=none by rw[uf1,kS hr]]
variable{rl rr:Nat}
theorem UJ{wl ml mr:List Nat}{k:Nat}(hg:GOk g)(hok:okQ g 0 mv)(el:wD wl=Ag g sL 0 mv)(er:wD wr=Ag g sR 0 mv)(hrl:rl<=wl.length)(hrr:rr<=wr.length)(hD:Due g mv rl rr k)(hml:ml=[]\/(Ap g (Aj g 0 (mv.take k))).side≠sL)(hmr:mr=[]\/(Ap g (Aj g 0 (mv.take k))).side≠sR) :
 A1 g (wl.take rl++ml) (wr.take rr++mr) ((wl.take rl++ml).length+(wr.take rr++mr).length+1) 0 0 0 []=(AB g 0 (mv.take k),Aj g 0 (mv.take k),(Ag g sL 0 (mv.take k)).length,(Ag g sR 0 (mv.take k)).length,none):=by
 have hokk:=TX hok k;have hlen:=Nu hg 0 (mv.take k) hokk;have ha:=hD.a;have hb:=hD.b;have l1:(wl.take rl).length=rl:=by rw[ug8];lia
 have l2:(wr.take rr).length=rr:=by rw[ug8];lia
 obtain⟨F,hF⟩:∃F,(wl.take rl++ml).length+(wr.take rr++mr).length+1=F+(mv.take k).length:=⟨(wl.take rl++ml).length+(wr.take rr++mr).length+1-(mv.take k).length,by rw[ue8,ue8];lia⟩;rw[hF,IS hg (mv.take k) 0 0 0 F [] hokk (QB (el.trans (HU sL k)) ha) (QB (er.trans (HU sR k)) hb),um7,um7,ui9];refine FF ?_ F;unfold BK
 cases eg:Ap g (Aj g 0 (mv.take k)) with
 |fin=>rfl
 |st side ws=>
   rw[eg] at hml hmr;have hz:=hD.z;rw[eg] at hz;have hs:side=sL\/side=sR:=by
    have hgs:=CK hg (Jj hg hg.ne hokk);rw[eg] at hgs
    cases hgs with
    |st h1 _ _ _ _=>exact h1
   dsimp only;have key:(msgR side ws (onS side (wl.take rl++ml) (wr.take rr++mr)) (onS side (Ag g sL 0 (mv.take k)).length (Ag g sR 0 (mv.take k)).length)).1=.short:=by
    have one:∀(w:List Nat) (r:Nat),wD w=Ag g side 0 mv->r<=w.length->(Ag g side 0 (mv.take k)).length<=r->(k=mv.length\/(k<mv.length/\r<(Ag g side 0 (mv.take k)).length+(prt g mv k).length))->(msgR side ws (w.take r) (Ag g side 0 (mv.take k)).length).1=.short:=λw r e h1 h2 h3=>by
     rcases h3 with h3|⟨h3,h4⟩
     .subst h3;rw[uh8] at h2⊢;rw[<-e,AE] at h2⊢;unfold msgR;rw[show(w.take r)[w.length]?=none by rw[uf1];split<;>first|exact ud3 (um8 _)|rfl]
     .obtain⟨p,v,hpv⟩:∃p v,mv[k]?=some (p,v):=⟨mv[k].1,mv[k].2,ub3 h3⟩;exact SZ hg hok hpv eg e h4
    have hsd:(GS.st side ws).side=side:=rfl;rw[hsd] at hml hmr hz;unfold onS at hz⊢;rcases O5 hs with⟨q1,q2⟩|⟨q1,q2⟩
    .rw[kQ q1,kQ q1] at hz⊢;have hml:ml=[]:=by rcases hml with h|h;exact h;exact absurd q1 h
     rw[hml,ui5];subst q1;exact one wl rl el hrl ha hz
    .rw[kS q1,kS q1] at hz⊢;have hmr:mr=[]:=by rcases hmr with h|h;exact h;exact absurd q2 h
     rw[hmr,ui5];subst q2;exact one wr rr er hrr hb hz
   generalize msgR side ws (onS side (wl.take rl++ml) (wr.take rr++mr)) (onS side (Ag g sL 0 (mv.take k)).length (Ag g sR 0 (mv.take k)).length)=mr' at key;clear 5 mr' r0 c0;have key:r0=.short:=key;subst key;rfl
noncomputable def nvO:Nat->D->Bool
 |_,.non=>true
 |_,.int _=>true
 |_,.str _=>true
 |n+1,.lst xs=>decide (xs.length<=1000)&&xs.all (nvO n)
 |n+1,.tup xs=>decide (xs.length<=1000)&&xs.all (nvO n)
 |_,_=>false
theorem Gb:∀(n:Nat) (s:Sh),s.depth<=n->wf s=true->∀v,Al s v=true->nvO n v=true
 |0,s,h,_,_,_=>absurd s.depth_pos (by lia)
 |n+1,s,hs,hw,v,hf=>by
   cases s with
   |nothing=>cases v<;>simp[Al,GD] at hf;rfl
   |number lo hi=>cases v<;>simp[Al] at hf;rfl
   |text q=>cases v<;>simp only[Al,ue9] at hf;rfl
   |list s q=>
     simp only[wf,uh0,ug3] at hw;rw[Sh.depth] at hs
     cases v<;>simp only[Al,ue9] at hf
     rename_i ds;simp only[uh0,ug3,uh4] at hf;rw[nvO,uh0,ug3,uh4];exact⟨by lia,λd hd=>Gb n s (by lia) hw.2 d (hf.2 d hd)⟩
   |pair s r=>
     simp only[wf,uh0] at hw;rw[Sh.depth] at hs;unfold Al at hf
     split at hf
     .rw[uh0] at hf;have h1:=Gb n s (by lia) hw.1 _ hf.1;have h2:=Gb n r (by lia) hw.2 _ hf.2;simp[nvO,h1,h2]
     .cases hf
   |choice ss=>
     simp only[wf,uh0,ug3] at hw;rw[Sh.depth] at hs;unfold Al at hf
     split at hf
     .next o k x=>
      simp only[uh0,ug3] at hf;clear 5(ub6 hf.1.2.1)j rfl;have hj:j<ss.length:=by have:=hf.1.2.2;lia
      have e1:ss[j]?=some ss[j]:=ub3 hj;have h2:=hf.2;rw[uf7,Cp ss _ _ _ e1] at h2;have h3:=Gb n _ (ul9 (Cr ss _ _ e1) (by lia)) (Ef hw.2 _ (uh6 hj)) x h2;have g1:∀o:Str,nvO n (.str o)=true:=λo=>by cases n<;>rfl
      have g2:∀i:Int,nvO n (.int i)=true:=λo=>by cases n<;>rfl
      simp[nvO,h3,g1,g2]
     .cases hf
theorem Lx:∀{xs:List D},(∀x∈xs,BM x=true)->Fo xs=true
 |[],_=>rfl
 |x::r,h=>by rw[Fo,h x ue5,Lx λy m=>h y (ud4 _ m)];rfl
theorem NJ:∀(n:Nat) (v:D),nvO n v=true->BM v=true
 |0,v,h=>by cases v<;>first|rfl|(simp[nvO] at h;done)
 |n+1,v,h=>by
   cases v<;>first|rfl|(simp[nvO] at h;done)|skip
   all_goals
    rw[nvO,uh0,uh4] at h;rw[BM];exact Lx λx hx=>NJ n x (h.2 x hx)
abbrev EN(S:List Ob)(f:Fn)(ds:List D)(r:D):Prop:=Wf f ds S λx S'=>x=r/\S'=S
noncomputable def dH:List D->Bool
 |[_,_]=>true
 |[.str _,.int _,_]=>true
 |_=>false
mutual
def tm:D->Bool
 |.non=>true
 |.int _=>true
 |.str x=>decide (x.length<=90000)
 |.lst xs=>decide (xs.length<=1000)&&tms xs
 |.tup xs=>tms xs&&dH xs
 |_=>false
def tms:List D->Bool
 |[]=>true
 |d::r=>tm d&&tms r
end
abbrev bsF(g:List GS)(x:Str)(h W P:Nat)(E:List (Str×D)):List (Str×D):=("grammar",.lst (g.map GS.d))::("standing",.int (h:Nat))::("wires",.obj W)::("places",.obj P)::("side",.str x)::E
structure Ins(S:List Ob)(n:Str)(E:List (Str×D))(g:List GS)(x o:Str)(h a:Nat)(w:List Nat)(k l W P:Nat):Prop where
 ik:S[k]?=some (.ins n (bsF g x h W P E))
 iw:S[W]?=some (.dct (d1 o (.obj l)))
 ip:S[P]?=some (.dct (d1 o (.int (a:Nat))))
 il:S[l]?=some (.lst (wD w))
 el:E.length<=100
variable{F:List Nat}
section
variable{S S':List Ob}{n:Str}{E:List (Str×D)}{g:List GS}{x o:Str}{h a:Nat}{w:List Nat}{k l W P:Nat}
theorem Ins.keep(R:Ins S n E g x o h a w k l W P)(K:Kx F S S')(n1:k∉F)(n2:l∉F)(n4:W∉F)(n5:P∉F):Ins S' n E g x o h a w k l W P:=
 ⟨K.get n1 R.ik,K.get n4 R.iw,K.get n5 R.ip,K.get n2 R.il,R.el⟩
theorem Ins.gr(R:Ins S n E g x o h a w k l W P)(G:Gr S S'):Ins S' n E g x o h a w k l W P:=⟨G.get R.ik,G.get R.iw,G.get R.ip,G.get R.il,R.el⟩
theorem Ins.ext(R:Ins S n E g x o h a w k l W P)(y:List Nat):Ins (S.set l (.lst (wD w++wD y))) n E g x o h a (w++y) k l W P:=
 ⟨Af R.ik (Ae R.il R.ik (by simp)),Af R.iw (Ae R.il R.iw (by simp)),Af R.ip (Ae R.il R.ip (by simp)),by rw[<-E7];exact AD R.il,R.el⟩
theorem Ins.put{h' a' Q:Nat}{E':List (Str×D)}(R:Ins S n E g x o h a w k l W P)(e:S[Q]?=some (.dct (d1 o (.int (a':Nat)))))(l':E'.length<=100):Ins (S.set k (.ins n (bsF g x h' W Q E'))) n E' g x o h' a' w k l W Q:=
 ⟨AD R.ik,Af R.iw (Ae R.ik R.iw (by simp)),Af e (Ae R.ik e (by simp)),Af R.il (Ae R.ik R.il (by simp)),l'⟩
theorem Ins.fl(R:Ins S n E g x o h a w k l W P):(bsF g x h W P E).length<1000:=by
 have:=R.el;show E.length+1+1+1+1+1<1000;lia
end
structure HeaG(n:Str)(S S':List Ob)(k W P l:Nat)(o:Str)(fs:List (Str×D)):Prop where
 kp:Kp k S S'
 ik:S'[k]?=some (.ins n fs)
 iw:S'[W]?=some (.dct (d1 o (.obj l)))
 ip:S'[P]?=some (.dct (d1 o (.int (0:Nat))))
 il:S'[l]?=some (.lst [])
 gw:S.length<=W
 gp:S.length<=P
 gl:S.length<=l
theorem HeaG.put{n:Str}{k W P:Nat}{o:Str}{fs fs':List (Str×D)}(R:HeaG n S S' k W P l o fs):HeaG n S (S'.set k (.ins n fs')) k W P l o fs':=
 ⟨R.kp.setk,AD R.ik,Af R.iw (Ae R.ik R.iw (by simp)),Af R.ip (Ae R.ik R.ip (by simp)),Af R.il (Ae R.ik R.il (by simp)),R.gw,R.gp,R.gl⟩
def Qt(f:Fn):Prop:=∀(n:Str) (S:List Ob) (k:Nat) (g:List GS) (o:Str),GOk g->S[k]?=some (.ins n [])->Wf f [.obj k,.lst (g.map GS.d),.tup [.str o]] S λr S'=>r=.non/\∃W P l,HeaG n S S' k W P l o (heF g W P)
theorem Rb(hc:Mj c):Qt (fnOf 3 4 (CU c)):=by
 intro n S k g o hg hk;have hkl:=AX hk;refine Ak rfl ?_;unfold CU;symm;refine(hc g hg).use ?_;symm;refine Bz hk (by show 0<1000;decide) ?_;have k1:Kp k S (S.set k (.ins n [("grammar",.lst (g.map GS.d))])):=Kp.refl.setk;have g1:(S.set k (.ins n [("grammar",.lst (g.map GS.d))]))[k]?=some (.ins n [("grammar",.lst (g.map GS.d))]):=AD hk;show Dj _ _ Out.next ⟨_,S.set k (.ins n [("grammar",.lst (g.map GS.d))])⟩;generalize S.set k (.ins n [("grammar",.lst (g.map GS.d))])=S1 at k1 g1⊢;symm;refine Bz g1 (by show 1<1000;decide) ?_;have k2:Kp k S (S1.set k (.ins n [("grammar",.lst (g.map GS.d)),("standing",.int (0:Nat))])):=k1.setk;have g2:(S1.set k (.ins n [("grammar",.lst (g.map GS.d)),("standing",.int (0:Nat))]))[k]?=some (.ins n [("grammar",.lst (g.map GS.d)),("standing",.int (0:Nat))]):=AD g1;show Dj _ _ Out.next ⟨_,S1.set k (.ins n [("grammar",.lst (g.map GS.d)),("standing",.int (0:Nat))])⟩;generalize S1.set k (.ins n [("grammar",.lst (g.map GS.d)),("standing",.int (0:Nat))])=S2 at k2 g2⊢;symm;refine Bz (AG g2) (by show 2<1000;decide) ?_;obtain⟨W,hW⟩:∃W,W=S2.length:=⟨_,rfl⟩;have w3:((S2++[Ob.dct []]).set k (.ins n [("grammar",.lst (g.map GS.d)),("standing",.int (0:Nat)),("wires",.obj W)]))[W]?=some (.dct []):=by rw[hW];exact Af BC (ul8 (AX g2))
 have k3:Kp k S ((S2++[Ob.dct []]).set k (.ins n [("grammar",.lst (g.map GS.d)),("standing",.int (0:Nat)),("wires",.obj W)])):=k2.app.setk;have g3:((S2++[Ob.dct []]).set k (.ins n [("grammar",.lst (g.map GS.d)),("standing",.int (0:Nat)),("wires",.obj W)]))[k]?=some (.ins n [("grammar",.lst (g.map GS.d)),("standing",.int (0:Nat)),("wires",.obj W)]):=AD (AG g2);have hSW:S.length<=W:=by rw[hW];exact k2.1
 show Dj _ _ Out.next ⟨_,(S2++[Ob.dct []]).set k (.ins n [("grammar",.lst (g.map GS.d)),("standing",.int (0:Nat)),("wires",.obj S2.length)])⟩;rw[<-hW];generalize (S2++[Ob.dct []]).set k (.ins n [("grammar",.lst (g.map GS.d)),("standing",.int (0:Nat)),("wires",.obj W)])=S3 at w3 k3 g3⊢;symm;refine Bz (AG g3) (by show 3<1000;decide) ?_;obtain⟨P,hP⟩:∃P,P=S3.length:=⟨_,rfl⟩;have w4:((S3++[Ob.dct []]).set k (.ins n (heF g W P)))[W]?=some (.dct []):=Af (AG w3) (Ae g3 w3 (by simp));have p4:((S3++[Ob.dct []]).set k (.ins n (heF g W P)))[P]?=some (.dct []):=by rw[hP];exact Af BC (ul8 (AX g3))
 have k4:Kp k S ((S3++[Ob.dct []]).set k (.ins n (heF g W P))):=k3.app.setk;have g4:((S3++[Ob.dct []]).set k (.ins n (heF g W P)))[k]?=some (.ins n (heF g W P)):=AD (AG g3);have hWP:W<P:=by rw[hP];exact AX w3
 show Dj _ _ Out.next ⟨_,(S3++[Ob.dct []]).set k (.ins n (heF g W S3.length))⟩;rw[<-hP];generalize (S3++[Ob.dct []]).set k (.ins n (heF g W P))=S4 at w4 p4 k4 g4⊢;symm;have hWk:W≠k:=λe=>by subst e;lia
 have hPk:P≠k:=λe=>by subst e;lia
 refine W_forL_cons.mpr ?_;symm;refine AO (AG g4) rfl ?_;symm;refine CA (AG w4) (by show 0<100000;decide) ?_;obtain⟨l,hl⟩:∃l,l=S4.length:=⟨_,rfl⟩;have hlk:k<l:=by rw[hl];exact AX g4
 have hlW:W<l:=by rw[hl];exact AX w4
 have hlP:P<l:=by rw[hl];exact AX p4
 have k5:Kp k S ((S4++[Ob.lst []]).set W (.dct (d1 o (.obj l)))):=k4.app.set hSW;have g5:((S4++[Ob.lst []]).set W (.dct (d1 o (.obj l))))[k]?=some (.ins n (heF g W P)):=Af (AG g4) hWk;have w5:((S4++[Ob.lst []]).set W (.dct (d1 o (.obj l))))[W]?=some (.dct (d1 o (.obj l))):=AD (AG w4);have p5:((S4++[Ob.lst []]).set W (.dct (d1 o (.obj l))))[P]?=some (.dct []):=Af (AG p4) (by lia);have l5:((S4++[Ob.lst []]).set W (.dct (d1 o (.obj l))))[l]?=some (.lst []):=by rw[hl];exact Af BC (by lia)
 show Dj _ _ Out.next ⟨_,(S4++[Ob.lst []]).set W (.dct (d1 o (.obj S4.length)))⟩;rw[<-hl];generalize (S4++[Ob.lst []]).set W (.dct (d1 o (.obj l)))=S5 at k5 g5 w5 p5 l5⊢;symm;refine AO g5 rfl ?_;symm;refine CA p5 (by show 0<100000;decide) ?_;show L2.W (CF _ _ []) ⟨_,S5.set P (.dct (d1 o (.int (0:Nat))))⟩ _;refine W_forL_nil.mpr ?_;exact⟨rfl,W,P,l,k5.set (by lia),Af g5 hPk,Af w5 (by lia),AD p5,Af l5 (by lia),hSW,by lia,by lia⟩
def J8(f:Fn):Prop:=∀(n:Str) (S:List Ob) (k:Nat) (g:List GS) (x o:Str),GOk g->Two x o->S[k]?=some (.ins n [])->Wf f [.obj k,.lst (g.map GS.d),.str x] S λr S'=>r=.non/\∃W P l,HeaG n S S' k W P l o (bsF g x 0 W P [])
variable{co:Fn}
theorem Sj{ch:Fn}(h1:Eu co)(h2:Qt ch):J8 (fnOf 3 3 (FL co ch)):=by
 intro n S k g x o hg ho hk;refine Ak rfl ?_;unfold FL;symm;refine(h1 x o ho).use ?_;symm;refine(h2 n S k g o hg hk).mono λr S' z9=>?_;clear 5 z9 e W P l R;subst e;symm;refine Bz R.ik (by show 4<1000;decide) ?_;symm;exact⟨rfl,W,P,l,R.put⟩
theorem bX{l u:M (Option Int)}(h:L2.W f t λd t1=>L2.W l t1 λa t2=>L2.W u t2 λb t3=>L2.W (slF d a b) t3 Q):L2.W (Pu f l u) t Q:=C8 (h.mono λ_ _ h=>C8 (h.mono λ_ _ h=>C8 h))
theorem bY{k:Nat}{lo hi:Option Int}(e:t.S[k]?=some (.lst ds))(h:Q (B3 ds lo hi) t):L2.W (slF (.obj k) lo hi) t Q:=⟨_,_,by simp only[slF,e],h⟩
theorem YH{b:Bool}{m1 m2:M Out}{K:Out->T->Prop}(Pm:Out->T->Prop)(h1:b=true->L2.W m1 t Pm)(h2:b=false->L2.W m2 t Pm)(h:∀o t',Pm o t'->K o t'):FJ b (L2.W m1 t K) (L2.W m2 t K):=Eh (λz=>(h1 z).mono h) λz=>(h2 z).mono h
variable{E:List (Str×D)}
theorem Ins.setL{n:Str}{x o:Str}{k W P:Nat}{b:Ob}{d:List D}(R:Ins S n E g x o h a w k l W P)(e:S[j]?=some (.lst d))(n1:j≠l):Ins (S.set j b) n E g x o h a w k l W P:=
 ⟨Af R.ik (Ae e R.ik (by simp)),Af R.iw (Ae e R.iw (by simp)),Af R.ip (Ae e R.ip (by simp)),Af R.il n1,R.el⟩
theorem Kx.sub{F':List Nat}(a:Kx F S S')(h:∀i∈F,i∈F'):Kx F' S S':=⟨a.1,λi hi n=>a.2 i hi λz=>n (h i z)⟩
theorem Ry(ht:∀x∈g,Tin x){q p:Nat}{v:D}(hm:MvOk g q p v):(mbQ g q p v).length<=41:=by
 have h1:=ht _ (Nf hm.lt);clear 5(E5 hm.pl)side ws e hpl ew;have h2:wdAt g q p∈(Ap g q).ws:=by rw[e];exact ud6 ew
 have h3:=(h1 _ h2).few v hm.fit;rw[ug6];exact Nat.succ_le_succ h3
theorem Yx{x:GS}(h:P (.str x.side) t):W (ixD x.d (.int 0)) t P:=by
 cases x with
 |fin=>rw[GS.d];exact En FU h
 |st s w=>rw[GS.d];exact En FU h
def Ig(f:Fn)(d:Nat):Prop:=∀(cell:Int) (S:List Ob),Wf f [.int cell,.int d] S λr S'=>S'=S/\∃(s:Sh) (l:Int),r=.lst [s.d,.int l]/\Dr d s
theorem w6(i:Int):∃w:Int,atI [D.int 0,.int 1,.int 255,.int 256,.int 300,.int 70000] (i%6)=some (.int w)/\0<=w/\w<=70000:=by
 have:i%6=0\/i%6=1\/i%6=2\/i%6=3\/i%6=4\/i%6=5:=by lia
 rcases this with h|h|h|h|h|h<;>rw[h]<;>exact⟨_,rfl,by decide,by decide⟩
theorem Uq:Ig (fnOf 2 6 (Cu c)) 0:=by
 intro cell S;refine Ak rfl ?_;unfold Cu;clear 5(w6 (cell/7/9))w hw w0 w1;have num:Dr 0 (.number (cell/7%9-4) (cell/7%9-4+w)):=.number (by lia) (by lia) w0 w1;rcases YN cell with h|h|h|h|h|h|h <;>
  (right
   rw[h];right;refine By hw ?_;right;exact⟨rfl,_,_,rfl,num⟩)
theorem Ur{d:Nat}(hc:Ig c d):Ig (fnOf 2 6 (Cu c)) (d+1):=by
 intro cell S;refine Ak rfl ?_;unfold Cu;clear 5(w6 (cell/7/9))w hw w0 w1;have num:Dr (d+1) (.number (cell/7%9-4) (cell/7%9-4+w)):=.number (by lia) (by lia) w0 w1;have hd0:(((d+1:Nat):Int)==0)=false:=by rw[ir];lia
 have hd1:((d+1:Nat):Int)-1=(d:Nat):=by lia
 rcases YN cell with h|h|h|h|h|h|h
 .right;rw[h];right;refine By hw ?_;right;exact⟨rfl,_,_,rfl,num⟩
 .right;rw[h];right;refine By hw ?_;right;exact⟨rfl,_,_,rfl,num⟩
 .right;rw[h];right;exact⟨rfl,.nothing,_,rfl,.nothing⟩
 .right;rw[h];right;exact⟨rfl,.text (cell/7%4),_,rfl,.text (by lia) (by lia)⟩
 .right;rw[h];right;rw[hd1];refine(hc _ S).mono λr S' z9=>?_;clear 5 z9 e s l er hs;subst e er;right;exact⟨rfl,.list s (l%4),_,rfl,hs.list (by lia) (by lia)⟩
 .right;rw[h];right;rw[hd1];refine(hc _ S).mono λr S' z9=>?_;clear 5 z9 e s l er hs;subst e er;right;rw[hd1];refine(hc _ _).mono λr S' z9=>?_;clear 5 z9 e s2 l2 er hs2;subst e er;right;exact⟨rfl,.pair s s2,_,rfl,hs.pair hs2⟩
 .right;rw[h];right;rw[hd1];refine(hc _ S).mono λr S' z9=>?_;clear 5 z9 e s l er hs;subst e er;right;rw[hd1];refine(hc _ _).mono λr S' z9=>?_;clear 5 z9 e s2 l2 er hs2;subst e er;right;exact⟨rfl,.choice [s,s2],_,rfl,hs.choice hs2⟩
def K5(f:Fn)(n:Nat):Prop:=∀(s:Sh),s.depth<=n->wf s=true->Cv s=true->EF s=true->∀(cell:Int) (S:List Ob),Wf f [s.d,.int cell] S λr S'=>S'=S/\∃(v:D) (l:Int),r=.lst [v,.int l]/\Al s v=true
theorem ZS(i:Int):∃n,atI (Str.ofString " az~Q0").cps.toList (i%6)=some n/\B6 n=true:=by
 have e:(Str.ofString " az~Q0").cps.toList=[32,97,122,126,81,48]:=by decide +kernel
 rw[e];have:i%6=0\/i%6=1\/i%6=2\/i%6=3\/i%6=4\/i%6=5:=by lia
 rcases this with h|h|h|h|h|h<;>rw[h]<;>exact⟨_,rfl,by decide⟩
theorem SC{f:Fn}:K5 f 0:=λs h=>absurd s.depth_pos (by lia)
theorem Xf(hc:K5 c n):K5 (fnOf 2 10 (EB c)) (n+1):=by
 intro s hs hw hn ht cell S;have hL:LIM=100000:=rfl;refine Ak rfl ?_;unfold EB
 cases s with
 |nothing=>
   rw[Sh.d];right;exact⟨rfl,_,_,rfl,rfl⟩
 |number lo hi=>
   simp only[wf,uh0,ug3] at hw;simp only[Cv,ug3] at hn;rw[Sh.d];right;refine HR (by lia) ?_;right;refine LI (by lia) (by lia) ?_;right;refine⟨rfl,_,_,rfl,?_⟩;have h1:=uj7 cell (b:=hi-lo+1) (by lia);have h2:=uf2 cell (b:=hi-lo+1) (by lia);simp only[Al,uh0,ug3];lia
 |text m=>
   simp only[wf,uh0,ug3] at hw;simp only[EF,ug3] at ht;rw[Sh.d];right;refine HR (by lia) ?_;have h1:=uj7 cell (b:=m+1) (by lia);have h2:=uf2 cell (b:=m+1) (by lia);clear 5(ZS (cell/7))z hz hsg;right;refine ah (by decide +kernel) hz ?_;right;refine Ve ⟨BO (by lia) (by lia),by show 1*_<=_;lia,by lia,by show 1<=_;lia⟩ ?_;right;refine LI (by lia) (by lia) ?_;right;refine⟨rfl,_,_,rfl,?_⟩;simp only[Al,uh0,ug3];exact⟨by rw[Nk];lia,SO hsg⟩
 |list s m=>
   rw[Sh.depth] at hs;simp only[wf,uh0,ug3] at hw;rw[Cv] at hn;simp only[EF,uh0,ug3] at ht;rw[Sh.d];right;refine HR (by lia) ?_;have h1:=uj7 cell (b:=m+1) (by lia);have h2:=uf2 cell (b:=m+1) (by lia);right;refine LI (by lia) (by lia) ?_;right;refine GX (BO (by lia) (by lia)) ?_;refine Dn (λr t=>∃(l:Int) (ds:List D) (e7 e8 e9:Option Sl),(∃j,r=(Bv 0 (cell%(m+1)).toNat).drop j)/\ds.length+r.length=(cell%(m+1)).toNat/\(∀d∈ds,Al s d=true)/\t=⟨[vw (.tup [.str "list",s.d,.int m]),vw (.int l),vw (.str "list"),none,vw (.int (cell%(m+1))),none,some (.own ds),e7,e8,e9],S⟩) _ _ ⟨_,[],none,none,none,⟨0,rfl⟩,by rw[D4];simp,by simp,rfl⟩ ?_ ?_
   .rintro d r t ⟨l,ds,e7,e8,e9,⟨j,hj⟩,hl,hf,rfl⟩ _;obtain⟨rfl,hj2,_⟩:=Fr hj;rw[ug6] at hl;right;refine(hc s (by lia) hw.2 hn ht.2 _ S).mono λr' S' z9=>?_;clear 5 z9 e v l2 er hv;subst e er;right;refine CG (by rw[hL];lia) ?_;refine⟨l2,ds++[v],_,_,_,⟨j+1,hj2⟩,by rw[ue8];simp only[ug6,uj1];lia,?_,rfl⟩;intro d hd;rcases ui1.mp hd with h|h
    .exact hf d h
    .rw[uf0] at h;subst h;exact hv
   .rintro t ⟨l,ds,e7,e8,e9,_,hl,hf,rfl⟩;rw[uj1] at hl;right;refine⟨rfl,_,_,rfl,?_⟩;simp only[Al,uh0,ug3,uh4];exact⟨by lia,hf⟩
 |pair s r=>
   rw[Sh.depth] at hs;simp only[wf,uh0] at hw;simp only[Cv,uh0] at hn;simp only[EF,uh0] at ht;rw[Sh.d];right;refine(hc s (by lia) hw.1 hn.1 ht.1 cell S).mono λr' S' z9=>?_;clear 5 z9 e v l2 er hv;subst e er;right;refine(hc r (by lia) hw.2 hn.2 ht.2 l2 _).mono λr' S' z9=>?_;clear 5 z9 e v' l3 er hv';subst e er;right;exact⟨rfl,_,_,rfl,by rw[Al,hv,hv'];rfl⟩
 |choice ss=>
   rw[Sh.depth] at hs;simp only[wf,uh0,ug3] at hw;rw[Cv] at hn;rw[EF] at ht;have h1:=uj7 cell (b:=(ss.length:Int)) (by lia);have h2:=uf2 cell (b:=(ss.length:Int)) (by lia);have hk:(cell%(ss.length:Int)).toNat<ss.length:=by lia
   have e1:ss[(cell%(ss.length:Int)).toNat]?=some ss[(cell%(ss.length:Int)).toNat]:=ub3 hk;have ea:atI (shD ss) (cell%(ss.length:Int))=some (ss[(cell%(ss.length:Int)).toNat]).d:=by
    unfold atI;rw[Df h1 (by rw[Ee];exact h2)];show(shD ss)[(cell%(ss.length:Int)).toNat]?=_;rw[Hf,e1];rfl
   rw[Sh.d];right;rw[Ee];refine HR (by lia) ?_;right;refine En ea ?_;right;rw[Ee];refine LI (by lia) (by lia) ?_;right;refine(hc _ (ul9 (Cr ss _ _ e1) (by lia)) (Ef hw.2 _ (uh6 hk)) (JD hn _ (uh6 hk)) (Ma ht _ (uh6 hk)) _ _).mono λr' S' z9=>?_;clear 5 z9 e v l2 er hv;subst e er;right;have ho:Hy (Str.ofString "of")=true:=by decide +kernel
   exact⟨rfl,_,_,rfl,by simp only[Al,ho,h1,h2,decide_true,ul4,ul2,Cp ss _ _ _ e1,hv]⟩
def Pc(f:Fn):Prop:=∀(ns:List Int) (k:Int),0<=k->k<=1000->∃c:Int,Pure1 f [.scr ns,.int k] (.int c)
theorem QI:Pc (fnOf 2 2 DO):=by
 intro ns k h0 h1
 by_cases z:k<ns.length
 .have hk:k.toNat<ns.length:=by lia
  refine⟨ns[k.toNat],λS=>Ak rfl ?_⟩;unfold DO;right;refine Gh (uk3 (by lia)) ?_;right;refine W_ix_scr.mpr ⟨ns[k.toNat],?_,?_⟩
  .unfold atI;rw[Df h0 (by lia)];show ns[k.toNat]?=_;rw[ub3 hk]
  .exact⟨rfl,rfl⟩
 .refine⟨23*k*k+13*k+5,λS=>Ak rfl ?_⟩;unfold DO;right;refine Ff (uj8 (by lia)) ?_;right;refine Fy (by lia) (by lia) ?_;right;refine Fy (by lia) (by lia) ?_;right;refine Fy (by lia) (by lia) ?_;right;exact⟨rfl,rfl⟩
def Xw(f:Fn):Prop:=∀(cell k:Int),0<=k->k<=10->∃c:Int,Pure1 f [.int cell,.int k] (.int c)
theorem aU:Xw (fnOf 2 3 FN):=by
 intro cell k k0 k1;have b0:=uj7 (cell*48271+7919*k*k+104729*k+11) (b:=2147483647) (by decide);have b1:=uf2 (cell*48271+7919*k*k+104729*k+11) (b:=2147483647) (by decide);obtain⟨x,hx⟩:∃x,x=(cell*48271+7919*k*k+104729*k+11)%2147483647:=⟨_,rfl⟩;rw[<-hx] at b0 b1;have d0:=uj7 (x*x) (b:=2147483629) (by decide);have d1:=uf2 (x*x) (b:=2147483629) (by decide);obtain⟨y,hy⟩:∃y,y=x*x%2147483629:=⟨_,rfl⟩;rw[<-hy] at d0 d1;refine⟨y*y+y*1000003+cell,λS=>Ak rfl ?_⟩;unfold FN;right;refine Fy (by decide) (by decide) ?_;right;refine Fy (by lia) (by lia) ?_;right;refine Fy (by lia) (by lia) ?_;right;refine Fy (by lia) (by lia) ?_;right;rw[<-hx];refine Fy (by lia) (by lia) ?_;right;rw[<-hy];refine Fy (by lia) (by lia) ?_;right;refine Fy (by lia) (by lia) ?_;right;exact⟨rfl,rfl⟩
def nmN(r:Int)(j:Nat):Str:=Txt.mul ⟨#[97+j]⟩ r
theorem V6{r:Int}(h:1<=r){i j:Nat}(e:nmN r i=nmN r j):i=j:=by
 have e:(nmN r i).cps.toList=(nmN r j).cps.toList:=by rw[e]
 unfold nmN at e;rw[Nt,Nt] at e;obtain⟨m,hm⟩:∃m,r.toNat=m+1:=⟨r.toNat-1,by lia⟩;rw[hm,ue1,ue1] at e;injection e with e _
 lia
theorem YT{r:Int}(h:1<=r)(n:Nat):((List.range n).map (nmN r)).Nodup:=List.pairwise_map.mpr (List.nodup_range.imp λh2 e=>h2 (V6 h e))
def N9(x:GS):Prop:=∀w∈x.ws,w.1.length<=3/\∀c∈w.1.cps.toList,c<122
theorem UX{r:Int}(h:r<=3){j:Nat}(hj:j<3):(nmN r j).length<=3/\∀c∈(nmN r j).cps.toList,c<122:=by
 unfold nmN;rw[Nk,Nt];refine⟨by lia,λc hc=>?_⟩;have:=ia hc;lia
theorem ax(h:j<3):atI (Str.ofString "abc").cps.toList (0+(j:Int))=some (97+j):=by
 have e:(Str.ofString "abc").cps.toList=[97,98,99]:=by decide +kernel
 rw[e]
 match j,h with
 |0,_=>rfl
 |1,_=>rfl
 |2,_=>rfl
def GrN(f:Fn):Prop:=∀(ns:List Int) (S:List Ob),Wf f [.scr ns,.int 2,.bl true] S λr S'=>S'=S/\∃g:List GS,r=.lst (g.map GS.d)/\GOk g/\g.length<=6/\∀x∈g,Tin x/\N9 x
def GN(ns:List Int)(many:Int)(gs:List GS)(e5 e6 e7 e8 e9 e10 e11:Option Sl):List (Option Sl):=[vw (.scr ns),vw (.int 2),vw (.bl true),vw (.int many),some (.own (gs.map GS.d)),e5,e6,e7,e8,e9,e10,e11]
variable{cm:Fn}
theorem cW{cs:Fn}(hs:Ig cs 2)(hc:Pc cc)(hm:Xw cm):GrN (fnOf 3 12 (D1 cs cc cm)):=by
 intro ns S;have hL:LIM=100000:=rfl;clear 5(hc ns 0 (by decide) (by decide))c0 hc0;have m0:=uj7 c0 (b:=6) (by decide);have m1:=uf2 c0 (b:=6) (by decide);refine Ak rfl ?_;unfold D1;right;refine(hc0).use ?_;right;obtain⟨many,hmany⟩:∃many,many=1+c0%6:=⟨_,rfl⟩;rw[<-hmany];refine GX (BO (by lia) (by lia)) ?_;refine Dn (λr t=>∃(gs:List GS) (e5 e6 e7 e8 e9 e10 e11:Option Sl),r=(Bv 0 many.toNat).drop gs.length/\gs.length<=many.toNat/\(∀x∈gs,GSOk many x/\Tin x/\N9 x)/\t=⟨GN ns many gs e5 e6 e7 e8 e9 e10 e11,S⟩) _ _ ⟨[],none,none,none,none,none,none,none,rfl,um9 _,(λ_ h=>nomatch h),rfl⟩ ?_ ?_
 .rintro d r t ⟨gs,e5,e6,e7,e8,e9,e10,e11,hr,hle,hgs,rfl⟩ _;clear 5(Fr hr)rfl hr2 hlt;unfold GN;clear 5(hc ns (2+(0+(gs.length:Int))) (by lia) (by lia))c1 hc1;right;refine hc1.use ?_;right;refine hc0.use ?_;right;refine YH (λo t'=>o=.next/\∃c:Int,t'=⟨GN ns many gs (vw (.int (0+(gs.length:Int)))) (vw (.int c)) e7 e8 e9 e10 e11,S⟩) (λ_=>?_) (λ_=>?_) ?_
  .clear 5(hm c1 (0+(gs.length:Int)) (by lia) (by lia))c2 hc2;right;refine hc2.use ?_;right;exact⟨rfl,_,rfl⟩
  .right;exact⟨rfl,_,rfl⟩
  rintro o t' ⟨rfl,c,rfl⟩;unfold GN
  iterate 16 (walk_at"w1")
  refine wIf ?_;refine L2.W.mono (P:=λb t'=>t'=⟨GN ns many gs (vw (.int (0+(gs.length:Int)))) (vw (.int (c/5))) (vw (.int (c%5))) e8 e9 e10 e11,S⟩) ?_ ?_
  .right;refine Eh (λ_=>?_) λ_=>?_
   .right;refine Eh (λ_=>?_) λ_=>?_
    .right;rfl
    .right;rfl
   .right;rfl
  rintro b t' rfl;unfold GN;refine Eh (λ_=>?_) λ_=>?_
  .right;refine CG (by rw [ui3,hL];lia) ?_;right;refine W_ret.mpr ?_;exact ⟨gs++[.fin],_,_,_,_,_,_,_,by rw [ue8];exact hr2,by rw [ue8];show _ + 1<=_;lia,λx hx=>by
    rcases ui1.mp hx with h|h
    .exact hgs x h
    .rw[uf0] at h;subst h;exact⟨.fin,(λ_ z=>nomatch z),λ_ z=>nomatch z⟩,by rw[uj5];rfl⟩
  .right;have q0:=uj7 (c/5) (b:=3) (by decide);have q1:=uf2 (c/5) (b:=3) (by decide);obtain⟨n3,hn3⟩:∃n3:Nat,1+c/5%3=n3:=⟨(1+c/5%3).toNat,by lia⟩;obtain⟨rr,hrr⟩:∃rr:Int,rr=1+(0+(gs.length:Int))%3:=⟨_,rfl⟩;have r1:1<=rr/\rr<=3:=by lia
   rw[hn3];refine GX (BO (by lia) (by lia)) ?_;rw[uf7];refine Dn (λr t=>∃(ws:List (Str×Sh×Int)) (l:Int) (e9 e10 e11:Option Sl),r=(Bv 0 n3).drop ws.length/\ws.length<=n3/\ws.map (·.1)=(List.range ws.length).map (nmN rr)/\(∀w∈ws,WOk many w/\Dr 2 w.2.1)/\t=⟨GN ns many gs (vw (.int (0+(gs.length:Int)))) (vw (.int l)) (vw (.int (c%5))) (some (.own (ws.map wdD))) e9 e10 e11,S⟩) _ _ ⟨[],_,_,_,_,rfl,um9 _,rfl,(λ_ h=>nomatch h),rfl⟩ ?_ ?_
   .rintro d r t ⟨ws,l,e9,e10,e11,hw,hwl,hwn,hws,rfl⟩ _;clear 5(Fr hw)rfl hw2 hwlt;unfold GN;right;refine HR (by lia) ?_;right;refine LI (by lia) (by lia) ?_;right;refine(hs _ S).mono λr' S' z9=>?_;clear 5 z9 e s l2 er hd;subst e er;right;refine ah (by decide +kernel) (ax (by lia)) ?_;right;rw[<-hrr];refine Ve ⟨BO (by lia) (by lia),by show 1*_<=_;lia,by lia,by show 1<=_;lia⟩ ?_;right;refine CG (by rw[ui3,hL];lia) ?_;refine⟨ws++[(nmN rr ws.length,s,l/3%many)],_,_,_,_,by rw[ue8];exact hw2,by rw[ue8];show _+1<=_;lia,by rw[ue8,uj5,hwn];show _=(List.range (ws.length+1)).map _;rw[List.range_succ,uj5];rfl,λw hw'=>?_,by rw[uj5];rfl⟩;rcases ui1.mp hw' with h|h
    .exact hws w h
    .rw[uf0] at h;subst h;exact⟨⟨hd.ok,hd.dep,uj7 _ (by lia),uf2 _ (by lia),ul9 (UX r1.2 (by lia)).1 (by decide)⟩,hd⟩
   .rintro t ⟨ws,l,e9,e10,e11,hw,hwl,hwn,hws,rfl⟩;unfold GN;have hwe:ws.length=n3:=by
     have:=kr List.length hw;rw[ug9,D4] at this;have:0=n3-ws.length:=this;lia
    clear 5(bh l)side hsd hside;right;refine By hsd ?_;right;refine CG (by rw[ui3,hL];lia) ?_;refine⟨gs++[.st side ws],_,_,_,_,_,_,_,by rw[ue8];exact hr2,by rw[ue8];show _+1<=_;lia,λx hx=>?_,by rw[uj5];rfl⟩;rcases ui1.mp hx with h|h
    .exact hgs x h
    .rw[uf0] at h;subst h;refine⟨.st hside (by lia) (by lia) (by rw[hwn];exact YT r1.1 _) λw h=>(hws w h).1,λw h=>(hws w h).2,λw h=>?_⟩;have:w.1∈ws.map (·.1):=List.mem_map_of_mem h;rw[hwn] at this;clear 5(um4.mp this)j hj ej;rw[uj9] at hj;rw[<-ej];exact UX r1.2 (by lia)
 .rintro t ⟨gs,e5,e6,e7,e8,e9,e10,e11,hr,hle,hgs,rfl⟩;unfold GN;have he:gs.length=many.toNat:=by
   have:=kr List.length hr;rw[ug9,D4] at this;have:0=many.toNat-gs.length:=this;lia
  right;exact⟨rfl,gs,rfl,⟨by lia,by lia,λx hx=>by rw[show(gs.length:Int)=many by lia];exact(hgs x hx).1⟩,by lia,λx hx=>(hgs x hx).2⟩
def Rd.tells(P:D->Prop):Rd->Prop
 |.done v=>P v
 |.need _ nx=>∀b,(nx b).tells P
local macro_rules | `(tactic| walk_at"y1")=>`(tactic| first
 |walk_at"x1" |clear 31 UE LL N5 Vd Vc)
def KpR(k l r:Nat)(S S':List Ob):Prop:=S.length<=S'.length/\∀i,i<S.length->i≠k->i≠l->i≠r->S'[i]?=S[i]?
section
variable{n0:Nat}{S S1 S2:List Ob}{k:Nat}{g:List GS}{vl vr:List Nat}{h a b W P l r:Nat}{o:Ob}
end
def Bk(g:List GS)(vl vr:List Nat)(h a b c:Nat)(s:Str):Prop:=Pl g vl vr h a b/\∃t h' a' b',A1 g vl vr (Fu vl vr) h a b []=(t,h',a',b',some (c,s))
def fM(g:List GS)(vl vr:List Nat)(k h a b W P l r:Nat):List (Nat×Ob):=[(k,.ins "Reader" (rdF g h W P)),(W,.dct (lr (.obj l) (.obj r))),(P,.dct (dP a b)),(l,.lst (wD vl)),(r,.lst (wD vr))]
section
variable{F:List (Nat×Ob)}{n0:Nat}{S S1:List Ob}{k:Nat}{g:List GS}{vl vr:List Nat}{h a b W P l r m R:Nat}
end
abbrev InS(S:List Ob)(g:List GS)(x o:Str)(h a:Nat)(w:List Nat)(k l W P:Nat):Prop:=Ins S "Side" [] g x o h a w k l W P
def FT(ar:Nat->Str->D->List D)(f:Fn):Prop:=∀(S:List Ob) (g:List GS) (x o:Str) (h a:Nat) (w y:List Nat) (k l W P:Nat) (t:List D) (h' a1 b1:Nat),GOk g->Two x o->h<g.length->a<=w.length->(w++y).length<=25000->w1 g o (w++y) ((w++y).length+1) h a []=(t,h',a1,b1,none)->InS S g x o h a w k l W P->
 Wf f (ar k o (.lst (wD y))) S λr S'=>r=.lst t/\Kx [k,l] S S'/\∃P',S.length<=P'/\InS S' g x o h' (onS o a1 b1) (w++y) k l W P'
abbrev arH(k:Nat)(o:Str)(d:D):List D:=[.obj k,.str o,d]
abbrev arT(k:Nat)(_:Str)(d:D):List D:=[.obj k,d]
theorem Ty(hc:JF c):FT arH (fnOf 3 4 (Ct c)):=by
 intro S g x o h a w y k l W P t h' a1 b1 hg ho hh ha hl hw R;have hL:LIM=100000:=rfl;have hly:w.length+y.length<=25000:=by rw[ue8] at hl;exact hl
 refine Ak rfl ?_;unfold Ct;symm;refine KU (k:=l) ?_;symm;refine AO R.ik rfl ?_;symm;refine Bj R.iw GZ ?_;refine⟨rfl,_,R.il,?_⟩;symm;refine⟨_,wD w++wD y,R.il,by simp only[Eg];rw[kQ (by rw[AE,AE,hL];lia)],?_⟩;have R1:=R.ext y;have K1:Kx [k,l] S (S.set l (.lst (wD w++wD y))):=Kx.refl.set (by simp);generalize S.set l (.lst (wD w++wD y))=S1 at R1 K1⊢;symm;refine AO R1.ik rfl ?_;symm;refine AO R1.ik rfl ?_;symm;refine AO R1.ik rfl ?_;symm;refine AO R1.ik rfl ?_;symm;refine(hc g o (w++y) (.obj l) h a W P S1 t h' a1 b1 hg ho.o hh (by rw[ue8];lia) hl (.inr ⟨l,rfl,R1.il⟩) R1.iw R1.ip hw).mono ?_;rintro r S2 ⟨hG,K,hK0,rfl,hK⟩;have R2:=R1.gr hG;have K2:=K1.gr hG;symm;refine Bz R2.ik R2.fl ?_;symm;refine Bz (AD R2.ik) R2.fl ?_;symm;refine⟨rfl,(K2.set (by simp)).set (by simp),K,by have:=K1.1;lia,?_⟩;show Ins ((S2.set k (.ins "Side" (bsF g x h' W P []))).set k (.ins "Side" (bsF g x h' W K []))) "Side" [] g x o h' (onS o a1 b1) (w++y) k l W K;rw[List.set_set];exact R2.put hK R2.el
theorem PK{ch:Fn}(h1:Eu co)(h2:FT arH ch):FT arT (fnOf 2 2 (EA co ch)):=by
 intro S g x o h a w y k l W P t h' a1 b1 hg ho hh ha hl hw R;refine Ak rfl ?_;unfold EA;symm;refine⟨k,_,rfl,R.ik,?_⟩;symm;refine AO R.ik rfl ?_;symm;refine(h1 x o ho).use ?_;symm;exact h2 S g x o h a w y k l W P t h' a1 b1 hg ho hh ha hl hw R
theorem Uw(hc:FT arT c):FT arT (fnOf 2 2 (Fh c)):=by
 intro S g x o h a w y k l W P t h' a1 b1 hg ho hh ha hl hw R;refine Ak rfl ?_;unfold Fh;symm;refine⟨k,_,rfl,R.ik,?_⟩;symm;exact hc S g x o h a w y k l W P t h' a1 b1 hg ho hh ha hl hw R
def MD(f:Fn):Prop:=∀(S:List Ob) (g:List GS) (x o:Str) (h a:Nat) (w y:List Nat) (k l W P p:Nat) (v:D),GOk g->MvOk g h p v->(Ap g h).side=x->mbQ g h p v=wD y->y.length<=25000->InS S g x o h a w k l W P->
 Wf f [.obj k,.str (wdAt g h p).1,v] S λr S'=>r=.lst (wD y)/\Kx [k] S S'/\InS S' g x o (Co g h p) a w k l W P
theorem Sn(hm:Ml cm)(hn:Ib cn)(hp:Hl cp):MD (fnOf 3 5 (EY cm cn cp)):=by
 intro S g x o h a w y k l W P p v hg hv hx hy hl R;refine Ak rfl ?_;unfold EY;have hpl:=hp g h p v hg hv;unfold ED at hpl;rw[hx] at hpl;have hyl:(AL (wdAt g h p).2.1 v).length+1=y.length:=by
  have:=kr List.length hy;rw[ug6,AE] at this;exact this
 symm;refine AO R.ik rfl ?_;symm;refine AO R.ik rfl ?_;symm;refine By (C5 hv.lt) ?_;symm;refine AO R.ik rfl ?_;symm;refine hpl.use ?_;symm;refine AO R.ik rfl ?_;symm;refine AO R.ik rfl ?_;symm;refine(hn g h p hg hv.lt hv.pl).use ?_;symm;refine Bz R.ik R.fl ?_;symm;refine(hm g h p v hg hv (by lia)).use ?_;symm;exact⟨by rw[<-hy],Kx.refl.set (by simp),R.put R.ip R.el⟩
theorem WM(hc:MD c):MD (fnOf 3 3 (FM c)):=by
 intro S g x o h a w y k l W P p v hg hv hx hy hl R;refine Ak rfl ?_;unfold FM;symm;refine⟨k,_,rfl,R.ik,?_⟩;symm;exact hc S g x o h a w y k l W P p v hg hv hx hy hl R
section
variable{S:List Ob}{g:List GS}{x o:Str}{h a:Nat}{w:List Nat}{k l W P:Nat}
theorem Vf(h1:Eu co)(ho:Two x o)(R:InS S g x o h a w k l W P):EN S (fnOf 1 1 (Cl co (fnOf 2 2 Ch))) [.obj k] (.int ((w.length:Int)-(a:Int))):=by
 refine Ak rfl ?_;unfold Cl;symm;refine⟨k,_,rfl,R.ik,?_⟩;symm;refine AO R.ik rfl ?_;symm;refine(h1 x o ho).use ?_;symm;refine Ak rfl ?_;unfold Ch;symm;refine AO R.ik rfl ?_;symm;refine Bj R.iw GZ ?_;symm;refine HQ R.il ?_;symm;refine AO R.ik rfl ?_;symm;refine Bj R.ip GZ ?_;symm;rw[AE];exact⟨rfl,rfl⟩
theorem So{n:Str}(R:Ins S n E g x o h a w k l W P):EN S (fnOf 1 1 Bl) [.obj k] (.int (h:Nat)):=by
 refine Ak rfl ?_;unfold Bl;symm;refine AO R.ik rfl ?_;exact⟨rfl,rfl⟩
theorem YM(hh:h<g.length)(R:InS S g x o h a w k l W P):EN S (fnOf 1 1 BH) [.obj k] (.bl ((Ap g h).side==x)):=by
 refine Ak rfl ?_;unfold BH;symm;refine AO R.ik rfl ?_;symm;refine AO R.ik rfl ?_;symm;refine By (C5 hh) ?_;symm;refine Yx ?_;symm;refine AO R.ik rfl ?_;symm;exact⟨rfl,rfl⟩
theorem XX(he:EG ce)(hg:GOk g)(hh:h<g.length)(R:InS S g x o h a w k l W P):EN S (fnOf 1 1 (B8 ce)) [.obj k] (.bl (Ap g h).isFin):=by
 refine Ak rfl ?_;unfold B8;symm;refine AO R.ik rfl ?_;symm;refine AO R.ik rfl ?_;symm;refine By (C5 hh) ?_;symm;refine(he _ _ (CK hg hh) S).mono ?_;rintro r S' ⟨rfl,rfl⟩;symm;exact⟨rfl,rfl⟩
end
def EM(f:Fn):Prop:=∀(S:List Ob) (k:Nat) (g:List GS) (vl vr x:List Nat) (h a b W P l r:Nat) (side:Str) (t:List D) (h' a' b':Nat),GOk g->Pl g vl vr h a b->(onS side (vl++x) vl).length<=25000->(onS side vr (vr++x)).length<=25000->(side=sL\/side=sR)->Rdr 0 S k g vl vr h a b W P l r->
 A1 g (onS side (vl++x) vl) (onS side vr (vr++x)) (Fu (onS side (vl++x) vl) (onS side vr (vr++x))) h a b []=(t,h',a',b',none)->
 Wf f [.obj k,.str side,.lst (wD x)] S λq S'=>q=.lst t/\Kx [k,l,r] S S'/\∃P',S.length<=P'/\Rdr 0 S' k g (onS side (vl++x) vl) (onS side vr (vr++x)) h' a' b' W P' l r
theorem Q9(hc:IV c):EM (fnOf 3 4 (Ct c)):=by
 intro S k g vl vr x h a b W P l r side t0 h0 a0 b0 hg hp hw1 hw2 hs R hwk;have hL:LIM=100000:=rfl;clear 5(R.ext (side:=side) x)hx R1;have hp1:Pl g (onS side (vl++x) vl) (onS side vr (vr++x)) h a b:=by
  have:=hp.a;have:=hp.b;refine⟨hp.h,?_,?_⟩<;>(unfold onS;split<;>(try rw[ue8])<;>lia)
 have hlw:(onS side vl vr).length+x.length<=50000:=by
  unfold onS at hw1 hw2⊢
  split
  .next q=>rw[kQ q,ue8] at hw1;lia
  .next q=>rw[kS q,ue8] at hw2;lia
 refine Ak rfl ?_;unfold Ct;symm;refine KU (k:=onS side l r) ?_;symm;refine AO R.k rfl ?_;symm;refine Bj R.w (IB hs) ?_;refine⟨by unfold onS;split<;>rfl,_,hx,?_⟩
 symm;refine⟨_,wD (onS side vl vr)++wD x,hx,by simp only[Eg];rw[kQ (by rw[AE,AE,hL];lia)],?_⟩;have K1:Kx [k,l,r] S (S.set (onS side l r) (.lst (wD (onS side vl vr)++wD x))):=Kx.refl.set (by unfold onS;split<;>simp)
 generalize hS1:S.set (onS side l r) (.lst (wD (onS side vl vr)++wD x))=S1 at R1 K1⊢;generalize onS side (vl++x) vl=ul at *;generalize onS side vr (vr++x)=ur at *;symm;refine AO R1.k rfl ?_;symm;refine AO R1.k rfl ?_;symm;refine AO R1.k rfl ?_;symm;refine AO R1.k rfl ?_;symm;refine(hc g ul ur (.obj l) (.obj r) h a b W P S1 t0 h0 a0 b0 hg hp1 hw1 hw2 (.inr ⟨l,rfl,R1.l⟩) (.inr ⟨r,rfl,R1.r⟩) R1.w R1.p hwk).mono ?_;rintro q S2 ⟨hG,K,hK0,rfl,hK⟩;have R2:=R1.gr hG;have K2:=K1.gr hG;symm;refine Bz R2.k (by show 4<1000;decide) ?_;symm;refine Bz (AD R2.k) (by show 4<1000;decide) ?_;symm;refine⟨rfl,(K2.set (by simp)).set (by simp),K,by have:=K1.1;lia,?_⟩;show Rdr 0 ((S2.set k (.ins "Reader" (rdF g h0 W P))).set k (.ins "Reader" (rdF g h0 W K))) k g ul ur h0 a0 b0 W K l r;rw[List.set_set];exact R2.put hK
theorem Tj(hc:EM c):EM (fnOf 3 3 (FK c)):=by
 intro S k g vl vr x h a b W P l r side t0 h0 a0 b0 hg hp hl1 hl2 hs R hw;refine Ak rfl ?_;unfold FK;symm;refine⟨k,_,rfl,R.k,?_⟩;symm;exact hc S k g vl vr x h a b W P l r side t0 h0 a0 b0 hg hp hl1 hl2 hs R hw
abbrev lrF{α:Type}(F:α->D)(x:Str)(a b:α):List (Key×D):=lr (F (onS x a b)) (F (onS x b a))
section
variable{α:Type}{F:α->D}{x o:Str}{a b d:α}
theorem PV:onS x (F a) (F b)=F (onS x a b):=by unfold onS;split<;>rfl
theorem CL(h:Two x o):onS o b a=onS x a b:=by
 unfold onS;rcases h with⟨rfl,rfl⟩|⟨rfl,rfl⟩
 .rw[kQ rfl,kS (Ne.symm sLR)]
 .rw[kQ rfl,kS (Ne.symm sLR)]
theorem Hz(h:Two x o):lrF F x a b=lrF F o b a:=by unfold lrF;rw[CL h,CL h]
theorem G8(h:x=sL\/x=sR):Ba (lrF F x a b) (.inr x)=some (F a):=by rw[IB h,PV,IK]
theorem Gi(h:Two x o):Ba (lrF F x a b) (.inr o)=some (F b):=by rw[Hz h];exact G8 h.o
theorem OK(h:x=sL\/x=sR):BJ (lrF F x a b) (.inr x) (F d)=lrF F x d b:=by rw[Rv h,PV,PV,YW,YX]
theorem Nm(h:Two x o):BJ (lrF F x a b) (.inr o) (F d)=lrF F x a d:=by rw[Hz h,OK h.o,<-Hz h]
end
theorem Ft{g:List GS}(ht:∀x∈g,Tin x)(s:Str):∀(mv:List Mv) (q:Nat),okQ g q mv->(Ag g s q mv).length<=41*mv.length
 |[],q,_=>um9 _
 |(p,v)::r,q,hk=>by
   rw[okQ] at hk;have h1:=Ft ht s r _ hk.2;have h2:=Ry ht hk.1;rw[Ag,ue8,ug6];have h3:(if (Ap g q).side=s then D.int (p:Int)::AL (wdAt g q p).2.1 v else []).length<=41:=by
    split
    .exact h2
    .exact um9 _
   lia
structure Vw(g:List GS)(o:Str)(mv m1 m2:List Mv)(tk n:Nat):Prop where
 e:mv=m1++m2
 al:E9 g o (Aj g 0 m1) m2
 a:(Ag g o 0 m1).length<=tk
 t:tk<=n
 c:Pd g (Aj g 0 m1) (Ag g o 0 m1).length tk m2
theorem Vw.lt(hg:GOk g){o:Str}{mv m1 m2:List Mv}{tk n:Nat}(v:Vw g o mv m1 m2 tk n)(hk:okQ g 0 mv):Aj g 0 m1<g.length:=by
 rw[v.e,Ec] at hk;exact Jj hg hg.ne hk.1
variable{m1 m2:List Mv}{tk:Nat}
theorem Vw.all{x o:Str}(v:Vw g o mv m1 m2 tk n)(h:(Ap g (Aj g 0 m1)).side=x)(ne:x≠o):m2=[]:=by
 cases m2 with
 |nil=>rfl
 |cons m r=>
   clear 5 m p d;have:=v.al;rw[E9] at this;exact absurd (h.symm.trans this.1) ne
theorem SY{m r:List Mv}(h:Pd g q a tk m)(n:m≠[]):Pd g q a tk (m++r):=by
 cases m with
 |nil=>exact absurd rfl n
 |cons p m=>exact h
theorem Vw.done{o:Str}(v:Vw g o mv m1 m2 tk n)(e:(Ag g o 0 mv).length=tk):m1=mv:=by
 cases m2 with
 |nil=>have:=v.e;rw[ui5] at this;exact this.symm
 |cons m r=>
   clear 5 m p d;exfalso;have hc:tk<(Ag g o 0 m1).length+(mbQ g (Aj g 0 m1) p d).length:=v.c;have ha:=v.al;rw[E9] at ha;rw[v.e,Cj,Ag,kQ ha.1,ue8,ue8] at e;have e:(Ag g o 0 m1).length+((mbQ g (Aj g 0 m1) p d).length+(Ag g o (Co g (Aj g 0 m1) p) r).length)=tk:=e;lia
section
variable{g:List GS}{mv:List Mv}{wl wr:List Nat}
theorem JN{c:Nat}(hg:GOk g)(hok:okQ g 0 mv)(el:wD wl=Ag g sL 0 mv)(er:wD wr=Ag g sR 0 mv)(h1:rl<=wl.length)(h2:rr<=wr.length)(hD:Due g mv rl rr c) :
 A1 g (wl.take rl) (wr.take rr) (Fu (wl.take rl) (wr.take rr)) 0 0 0 []=(AB g 0 (mv.take c),Aj g 0 (mv.take c),(Ag g sL 0 (mv.take c)).length,(Ag g sR 0 (mv.take c)).length,none):=by
 have:=UJ (ml:=[]) (mr:=[]) hg hok el er h1 h2 hD (.inl rfl) (.inl rfl);rw[ui5,ui5] at this;exact this
theorem M6{c c':Nat}(hg:GOk g)(hok:okQ g 0 mv)(el:wD wl=Ag g sL 0 mv)(er:wD wr=Ag g sR 0 mv)(h1:rl<=wl.length)(h2:rr<=wr.length)(hD:Due g mv rl rr c)(hD':Due g mv rl rr c'):c=c':=by
 have e:=(JN hg hok el er h1 h2 hD).symm.trans (JN hg hok el er h1 h2 hD');have e:=kr (λz:Rs=>z.1.length) e;dsimp only at e;rw[CV,CV,ug8,ug8] at e;have:=hD.le;have:=hD'.le;lia
theorem Vn{c:Nat}(el:wD wl=Ag g sL 0 mv)(er:wD wr=Ag g sR 0 mv)(hg:GOk g)(hok:okQ g 0 mv)(hD:Due g mv wl.length wr.length c):c=mv.length:=by
 refine M6 hg hok el er (um8 _) (um8 _) hD ⟨um8 _,?_,?_,.inl rfl⟩
 .rw[uh8,<-el,AE];exact um8 _
 .rw[uh8,<-er,AE];exact um8 _
theorem Yi(hf:EM cf)(hg:GOk g)(hok:okQ g 0 mv)(el:wD wl=Ag g sL 0 mv)(er:wD wr=Ag g sR 0 mv)(l1:wl.length<=25000)(l2:wr.length<=25000){k l r W:Nat}{S:List Ob}{rl rr c P m c' rl' rr':Nat}{x:List Nat}{side:Str}(hs:side=sL\/side=sR)
 (ch:Rch g (wl.take rl) (wr.take rr) (AB g 0 (mv.take c)) (Aj g 0 (mv.take c)) (Ag g sL 0 (mv.take c)).length (Ag g sR 0 (mv.take c)).length) (rd:Rdr 0 S k g (wl.take rl) (wr.take rr) (Aj g 0 (mv.take c)) (Ag g sL 0 (mv.take c)).length (Ag g sR 0 (mv.take c)).length W P l r) (hc:c<=mv.length)
 (hx:((onS side wl wr).drop (onS side rl rr)).take m=x) (e3:onS side (rl+m) rl=rl') (e4:onS side rr (rr+m)=rr') (h1:rl'<=wl.length) (h2:rr'<=wr.length) (hD:Due g mv rl' rr' c') :
 Wf cf [.obj k,.str side,.lst (wD x)] S λq S'=>Kx [k,l,r] S S'/\∃P',S.length<=P'/\q=.lst ((AB g 0 (mv.take c')).drop c)/\AB g 0 (mv.take c)++(AB g 0 (mv.take c')).drop c=AB g 0 (mv.take c')/\Rch g (wl.take rl') (wr.take rr') (AB g 0 (mv.take c')) (Aj g 0 (mv.take c')) (Ag g sL 0 (mv.take c')).length (Ag g sR 0 (mv.take c')).length/\Rdr 0 S' k g (wl.take rl') (wr.take rr') (Aj g 0 (mv.take c')) (Ag g sL 0 (mv.take c')).length (Ag g sR 0 (mv.take c')).length W P' l r:=by
 subst hx e3 e4;have e1:onS side (wl.take rl++((onS side wl wr).drop (onS side rl rr)).take m) (wl.take rl)=wl.take (onS side (rl+m) rl):=by
  unfold onS
  split
  .rw[<-jv]
  .rfl
 have e2:onS side (wr.take rr) (wr.take rr++((onS side wl wr).drop (onS side rl rr)).take m)=wr.take (onS side rr (rr+m)):=by
  unfold onS
  split
  .rfl
  .rw[<-jv]
 have ch2:=ch.more (if side=sL then((onS side wl wr).drop (onS side rl rr)).take m else []) (if side=sR then((onS side wl wr).drop (onS side rl rr)).take m else []);rw[<-c8,<-c9 hs,e1,e2] at ch2;have hw:=JN hg hok el er h1 h2 hD;have ha:=ch2.all;rw[hw] at ha;generalize hZ:A1 g (wl.take (onS side (rl+m) rl)) (wr.take (onS side rr (rr+m))) (Fu (wl.take (onS side (rl+m) rl)) (wr.take (onS side rr (rr+m)))) (Aj g 0 (mv.take c)) (Ag g sL 0 (mv.take c)).length (Ag g sR 0 (mv.take c)).length []=Z at ha;clear 5 Z t h' a' b' o;simp only[ju] at ha;clear 5 ha at1 rfl rfl rfl rfl;have ht:(AB g 0 (mv.take c')).drop c=t:=by
  rw[at1];have:(AB g 0 (mv.take c)).length=c:=by rw[CV,ug8];lia
  rw[ua2 (by lia),uc5 (by lia)];rfl
 refine(hf S k g (wl.take rl) (wr.take rr) (((onS side wl wr).drop (onS side rl rr)).take m) _ _ _ W P l r side t _ _ _ hg ch.1 (by rw[e1,ug8];lia) (by rw[e2,ug8];lia) hs rd (by rw[e1,e2];exact hZ)).mono ?_;rintro q S' ⟨rfl,KK,P',hP,R'⟩;rw[e1,e2] at R';have st:=ch2.step hg hZ;rw[<-at1] at st;exact⟨KK,P',hP,by rw[ht],by rw[ht];exact at1.symm,st,R'⟩
end
theorem Vw.say{x:Str}(V:Vw g x mv m1 m2 tk n)(hn:(Ag g x 0 mv).length=n)(hs:(Ap g (Aj g 0 mv)).side=x):Vw g x (mv++[(p,v)]) m1 (m2++[(p,v)]) tk (n+(mbQ g (Aj g 0 mv) p v).length):=by
 have ht:=V.t;refine⟨by rw[<-uf9,<-V.e],(Hn _ m2 _).mpr ⟨V.al,?_⟩,V.a,by lia,?_⟩
 .rw[<-Cq,<-V.e];exact⟨hs,trivial⟩
 .by_cases q:m2=[]
  .have e3:m1=mv:=by have:=V.e;rw[q,ui5] at this;exact this.symm
   rw[q,e3];show tk<(Ag g x 0 mv).length+(mbQ g (Aj g 0 mv) p v).length;rw[ug6];lia
  .exact SY V.c q
theorem UM{x:Str}(hs:(Ap g (Aj g 0 mv)).side=x):Ag g x 0 (mv++[(p,v)])=Ag g x 0 mv++mbQ g (Aj g 0 mv) p v:=by rw[Cj,Ag,Ag,ui5,kQ hs]
theorem JZ{o:Str}(hs:¬(Ap g (Aj g 0 mv)).side=o):Ag g o 0 (mv++[(p,v)])=Ag g o 0 mv:=by rw[Cj,Ag,Ag,ui5,kS hs,ui5]
theorem Vw.own{o:Str}(V:Vw g o mv mv [] tk n)(hs:¬(Ap g (Aj g 0 mv)).side=o):Vw g o (mv++[(p,v)]) (mv++[(p,v)]) [] tk n:=
 ⟨(ui5 _).symm,trivial,by rw[JZ hs];exact V.a,V.t,trivial⟩
theorem Vw.nil{o:Str}(V:Vw g o mv m1 [] tk n):m1=mv:=by have:=V.e;rw[ui5] at this;exact this.symm
theorem Vw.take{g:List GS}(hg:GOk g){o:Str}(ho:o=sL\/o=sR){mv m1 m2:List Mv}{tk k:Nat}{w:List Nat}(V:Vw g o mv m1 m2 tk w.length)(hk:okQ g 0 mv)(e:Ag g o 0 mv=wD w)(hl:tk+k<=w.length) :
 ∃n1 n2 a1 b1,m2=n1++n2/\Vw g o mv (m1++n1) n2 (tk+k) w.length/\w1 g o (w.take (tk+k)) (tk+k+1) (Aj g 0 m1) (Ag g o 0 m1).length []=(AB g (Aj g 0 m1) n1,Aj g 0 (m1++n1),a1,b1,none)/\onS o a1 b1=(Ag g o 0 (m1++n1)).length:=by
 have hlt:=V.lt hg hk;have hal:=V.a;have hko:=hk;rw[V.e,Ec] at hko;have ewo:wD w=Ag g o 0 m1++Ag g o (Aj g 0 m1) m2:=by rw[<-e,V.e,Cj]
 have elen:(Ag g o 0 m1).length+(Ag g o (Aj g 0 m1) m2).length=w.length:=by
  have:=kr List.length ewo;rw[AE,ue8] at this;exact this.symm
 obtain⟨n1,n2,em,hle,hcut,hw1⟩:=O8 hg ho (w:=w) (tk:=tk+k) hl m2 (Aj g 0 m1) (Ag g o 0 m1).length (tk+k+1) [] hlt hko.2 V.al ⟨Ag g o 0 m1,[],by rw[ui5];exact ewo,rfl⟩ elen (by lia) (by lia);rw[ui9] at hw1;have hal2:=V.al;rw[em,Hn] at hal2;have ew1:(Ag g o 0 (m1++n1)).length=(Ag g o 0 m1).length+(Ag g o (Aj g 0 m1) n1).length:=by rw[Cj,ue8]
 refine⟨n1,n2,_,_,em,⟨by rw[uf9,<-em];exact V.e,by rw[Cq];exact hal2.2,by rw[ew1];exact hle,hl,by rw[Cq,ew1];exact hcut⟩,by rw[Cq];exact hw1,?_⟩;rw[IK,ew1]
theorem UL:(Ag g s 0 m1).length<=(Ag g s 0 (m1++m2)).length:=by rw[Cj,ue8];lia
theorem Vw.due{x o:Str}(h:Two x o){mv m1 m2:List Mv}{tk n no:Nat}(V:Vw g x mv m1 m2 tk n)(hno:(Ag g o 0 mv).length=no):Due g mv (onS x tk no) (onS x no tk) m1.length:=by
 have et:mv.take m1.length=m1:=by rw[V.e];exact List.take_left
 have ha:=V.a;have hb:(Ag g o 0 m1).length<=no:=by rw[<-hno,V.e];exact UL
 refine⟨by rw[V.e,ue8];lia,?_,?_,?_⟩
 .rw[et];unfold onS;rcases h with⟨rfl,rfl⟩|⟨rfl,rfl⟩
  .rw[kQ rfl];exact ha
  .rw[kS (Ne.symm sLR)];exact hb
 .rw[et];unfold onS;rcases h with⟨rfl,rfl⟩|⟨rfl,rfl⟩
  .rw[kQ rfl];exact hb
  .rw[kS (Ne.symm sLR)];exact ha
 .cases hm:m2 with
  |nil=>exact .inl (by rw[V.e,hm,ui5])
  |cons m r=>
    clear 5 m p v;have hal:=V.al;have hc:=V.c;rw[hm] at hal hc;have hs:(Ap g (Aj g 0 m1)).side=x:=hal.1;have hc:tk<(Ag g x 0 m1).length+(mbQ g (Aj g 0 m1) p v).length:=hc;refine .inr ⟨by rw[V.e,hm,ue8,ug6];lia,?_⟩;rw[et,hs,IK];have ep:prt g mv m1.length=mbQ g (Aj g 0 m1) p v:=by
     unfold prt;rw[et,V.e,hm,ua6 (um8 _),um6];rfl
    rw[ep];have:onS x (Ag g sL 0 m1).length (Ag g sR 0 m1).length=(Ag g x 0 m1).length:=by
     unfold onS;rcases h.x with rfl|rfl
     .rw[kQ rfl]
     .rw[kS (Ne.symm sLR)]
    rw[this];exact hc
structure Vt where
 m1:List Mv
 m2:List Mv
 t:Nat
 w:List Nat
structure Ip where
 kx:Nat
 lx:Nat
 ko:Nat
 lo:Nat
 p:Nat
 U:Nat
def Ip.swap(i:Ip):Ip:=⟨i.ko,i.lo,i.kx,i.lx,i.p,i.U⟩
abbrev paF(x:Str)(kx ko U:Nat):List (Str×D):=[("left",.obj (onS x kx ko)),("right",.obj (onS x ko kx)),("under_way",.obj U)]
structure Pa(g:List GS)(x o:Str)(i:Ip)(S:List Ob)(mv:List Mv)(a b:Vt)(ux uo:Nat):Prop where
 two:Two x o
 ok:okQ g 0 mv
 ex:Ag g x 0 mv=wD a.w
 eo:Ag g o 0 mv=wD b.w
 vx:Vw g o mv a.m1 a.m2 a.t b.w.length
 vo:Vw g x mv b.m1 b.m2 b.t a.w.length
 jp:S[i.p]?=some (.ins "Parley" (paF x i.kx i.ko i.U))
 jU:S[i.U]?=some (.dct (lrF D.obj x ux uo))
 jx:S[ux]?=some (.lst (wD (a.w.drop b.t)))
 jo:S[uo]?=some (.lst (wD (b.w.drop a.t)))
 jX:∃W P,InS S g x o (Aj g 0 a.m1) (Ag g o 0 a.m1).length (b.w.take a.t) i.kx i.lx W P
 jO:∃W P,InS S g o x (Aj g 0 b.m1) (Ag g x 0 b.m1).length (a.w.take b.t) i.ko i.lo W P
 nk:i.kx≠i.ko
 nd:[ux,uo,i.lx,i.lo].Nodup
variable{U:Nat}{ls:List Nat}{kv:List (Key×D)}
section
variable{g:List GS}{x o:Str}{i:Ip}{S S':List Ob}{mv:List Mv}{a b:Vt}{ux uo:Nat}
theorem nd4{a b c d:Nat}(h:[a,b,c,d].Nodup):a≠b/\a≠c/\a≠d/\b≠c/\b≠d/\c≠d:=by
 simp only[ui6,uk5,uh5,ky,kT] at h;exact⟨h.1.1,h.1.2.1,h.1.2.2,h.2.1.1,h.2.1.2,h.2.2.1⟩
theorem mk4{a b c d:Nat}(h:a≠b/\a≠c/\a≠d/\b≠c/\b≠d/\c≠d):[a,b,c,d].Nodup:=by
 simp only[ui6,uk5,uh5,ky,kT];exact⟨⟨h.1,h.2.1,h.2.2.1⟩,⟨h.2.2.2.1,h.2.2.2.2.1⟩,h.2.2.2.2.2,id,List.nodup_nil⟩
theorem Pa.swap(h:Pa g x o i S mv a b ux uo):Pa g o x i.swap S mv b a uo ux:=
 ⟨h.two.swap,h.ok,h.eo,h.ex,h.vo,h.vx,by have:=h.jp;unfold paF at this⊢;rw[<-CL h.two,<-CL h.two] at this;exact this,by rw[<-Hz h.two];exact h.jU,h.jo,h.jx,h.jO,h.jX,Ne.symm h.nk,
  mk4 (by clear 5(nd4 h.nd)a1 a2 a3 a4 a5 a6;exact⟨Ne.symm a1,a5,a4,a3,a2,Ne.symm a6⟩)⟩
theorem Pa.ltx(h:Pa g x o i S mv a b ux uo)(hg:GOk g):Aj g 0 a.m1<g.length:=h.vx.lt hg h.ok
theorem Pa.lx(h:Pa g x o i S mv a b ux uo):(Ag g x 0 mv).length=a.w.length:=by rw[h.ex,AE]
def OutP(S:List Ob)(U:Nat)(ls:List Nat)(j:Nat):Prop:=(∃fs,S[j]?=some (.ins "Reader" fs))\/(∃ds,S[j]?=some (.lst ds)/\j∉ls)\/∃kv,S[j]?=some (.dct kv)/\2<=kv.length/\j≠U
theorem Lr{n:Str}{fs:List (Str×D)}(e:S[j]?=some (.ins n fs))(hn:n≠"Reader")(h:OutP S U ls j):False:=by
 rcases h with⟨f,e1⟩|⟨d,e1,_⟩|⟨kv,e1,_,_⟩<;>(rw[e] at e1;cases e1)
 exact hn rfl
theorem Jl(e:S[j]?=some (.lst ds))(hn:j∈ls)(h:OutP S U ls j):False:=by
 rcases h with⟨f,e1⟩|⟨d,e1,n⟩|⟨kv,e1,_,_⟩
 .rw[e] at e1;cases e1
 .exact n hn
 .rw[e] at e1;cases e1
theorem RZ{o:Str}{d:D}(e:S[j]?=some (.dct (d1 o d)))(h:OutP S U ls j):False:=by
 rcases h with⟨f,e1⟩|⟨d,e1,n⟩|⟨kv,e1,h2,_⟩<;>(rw[e] at e1;cases e1)
 exact absurd h2 (by show ¬2<=1;decide)
theorem UZ(e:S[U]?=some (.dct kv))(h:OutP S U ls U):False:=by
 rcases h with⟨f,e1⟩|⟨d,e1,n⟩|⟨kv,e1,_,n⟩
 .rw[e] at e1;cases e1
 .rw[e] at e1;cases e1
 .exact n rfl
theorem Ins.out{n:Str}{c:Nat}{k W P:Nat}(R:Ins S n E g x o h c w k l W P)(hn:n≠"Reader")(hl:l∈ls)(K:Kx F S S')(hF:∀j∈F,OutP S U ls j):Ins S' n E g x o h c w k l W P:=
 R.keep K (λz=>Lr R.ik hn (hF _ z)) (λz=>Jl R.il hl (hF _ z)) (λz=>RZ R.iw (hF _ z)) (λz=>RZ R.ip (hF _ z))
theorem Pa.keep(h:Pa g x o i S mv a b ux uo)(K:Kx F S S')(hF:∀j∈F,OutP S i.U [ux,uo,i.lx,i.lo] j):Pa g x o i S' mv a b ux uo:=by
 clear 5 h.jX W P X;clear 5 h.jO W2 P2 O;exact⟨h.two,h.ok,h.ex,h.eo,h.vx,h.vo,K.get (λz=>Lr h.jp (by decide) (hF _ z)) h.jp,K.get (λz=>UZ h.jU (hF _ z)) h.jU,K.get (λz=>Jl h.jx (by simp) (hF _ z)) h.jx,K.get (λz=>Jl h.jo (by simp) (hF _ z)) h.jo,
  ⟨W,P,X.out (by decide) (by simp) K hF⟩,⟨W2,P2,O.out (by decide) (by simp) K hF⟩,h.nk,h.nd⟩
end
section
variable{S:List Ob}{x o:Str}{p kx ko U:Nat}
theorem Mr(h:Two x o)(e:S[p]?=some (.ins "Parley" (paF x kx ko U))):EN S (fnOf 2 2 Bo) [.obj p,.str x] (.obj kx):=by
 refine Ak rfl ?_;unfold Bo;rcases h with⟨rfl,rfl⟩|⟨rfl,rfl⟩
 .symm;refine AO e rfl ?_;exact⟨rfl,rfl⟩
 .symm;refine AO e rfl ?_;exact⟨rfl,rfl⟩
end
theorem d4{x:Str}(hx:x=sL\/x=sR)(h:P (.bl true) t):L2.W (inD false (.str x) (.gts ["left", "right"])) t P:=by
 refine⟨_,_,?_,h⟩;rcases hx with rfl|rfl<;>rfl
theorem bK{x:Str}(h:P (.bl true) t):L2.W (inD false (.str x) (.tup [.str x])) t P:=by
 refine⟨_,_,?_,h⟩;simp[inD,KL,Kt,toV,inV,eqV]
theorem aV{x:Str}(hx:x=sL\/x=sR):Pure1 (fnOf 2 2 Ce) [.str x,.gts ["left", "right"]] (.bl true):=by
 intro S;refine Ak rfl ?_;unfold Ce;symm;refine d4 hx ?_;exact⟨rfl,rfl⟩
theorem one_t{x:Str}:Pure1 (fnOf 2 2 Ce) [.str x,.tup [.str x]] (.bl true):=by
 intro S;refine Ak rfl ?_;unfold Ce;symm;refine bK ?_;exact⟨rfl,rfl⟩
theorem QA{x k:Str}(hx:x=sL\/x=sR)(hn:ds.length+2=n):Pure1 (fnOf 3 3 (EC (fnOf 2 2 Ce))) [.tup (.str k::.str x::ds),.str k,.int n] (.bl true):=by
 intro S;refine Ak rfl ?_;unfold EC;symm;refine Ff (by simp;lia) ?_;symm;refine one_t.use ?_;symm;refine(aV hx).use ?_;exact⟨rfl,rfl⟩
theorem XB{k:Str}(hn:ds.length≠n):Pure1 (fnOf 3 3 (EC (fnOf 2 2 Ce))) [.tup ds,.str k,.int n] (.bl false):=by
 intro S;refine Ak rfl ?_;unfold EC;symm;refine Gh (by simp;lia) ?_;symm;exact⟨rfl,rfl⟩
def Ic(ar:Nat->Str->D->D->List D)(f:Fn):Prop:=∀(S:List Ob) (g:List GS) (x o:Str) (i:Ip) (mv:List Mv) (a b:Vt) (ux uo p:Nat) (v:D) (y:List Nat),GOk g->Pa g x o i S mv a b ux uo->a.m1=mv->MvOk g (Aj g 0 mv) p v->(Ap g (Aj g 0 mv)).side=x->mbQ g (Aj g 0 mv) p v=wD y->a.w.length+y.length<=25000->
 Wf f (ar i.p x (.str (wdAt g (Aj g 0 mv) p).1) v) S λr S'=>r=.lst (wD y)/\Kx [i.kx,ux] S S'/\Pa g x o i S' (mv++[(p,v)]) ⟨mv++[(p,v)],[],a.t,a.w++y⟩ ⟨b.m1,b.m2++[(p,v)],b.t,b.w⟩ ux uo
abbrev arS(p:Nat)(x:Str)(n v:D):List D:=[.obj p,.str x,n,v]
abbrev arD(p:Nat)(x:Str)(n v:D):List D:=[.obj p,.tup [.str "say",.str x,n,v]]
theorem Wy{cs:Fn}(hs:MD cs):Ic arS (fnOf 4 5 (DZ (fnOf 2 2 Bo) cs)):=by
 intro S g x o i mv a b ux uo p v y hg h hm1 hm hsd hy hyl;have hL:LIM=100000:=rfl;clear 5 h.jX W P X;clear 5 h.jO W2 P2 O;clear 5(nd4 h.nd)a1 a2 a3 a4 a5 a6;have hto:=h.vo.t;have hne:¬(Ap g (Aj g 0 mv)).side=o:=λq=>h.two.ne (hsd.symm.trans q);have hm2:a.m2=[]:=h.vx.all (by rw[hm1];exact hsd) h.two.ne;refine Ak rfl ?_;unfold DZ;symm;refine⟨_,_,rfl,h.jp,?_⟩;symm;refine(Mr h.two h.jp).mono ?_;rintro r0 S0 ⟨rfl,rfl⟩;refine⟨_,_,rfl,X.ik,?_⟩;symm;rw[hm1] at X;refine(hs S0 g x o _ _ _ y _ _ _ _ p v hg hm hsd hy (by lia) X).mono ?_;rintro r S1 ⟨rfl,K1,X1⟩;have kp:∀{j:Nat}{ob:Ob},S0[j]?=some ob->j≠i.kx->S1[j]?=some ob:=λe n=>K1.get (by simpa using n) e;have p1:=kp h.jp (Ae h.jp X.ik (by intro z;injection z with z;revert z;decide));have u1:=kp h.jU (Ae h.jU X.ik (by simp));have x1:=kp h.jx (Ae h.jx X.ik (by simp));have o1:=kp h.jo (Ae h.jo X.ik (by simp));have O1:InS S1 g o x (Aj g 0 b.m1) (Ag g x 0 b.m1).length (a.w.take b.t) i.ko i.lo W2 P2:=⟨kp O.ik (Ne.symm h.nk),kp O.iw (Ae O.iw X.ik (by simp)),kp O.ip (Ae O.ip X.ik (by simp)),kp O.il (Ae O.il X.ik (by simp)),O.el⟩;symm;refine KU (k:=ux) ?_;symm;refine AO p1 rfl ?_;symm;refine Bj u1 (G8 h.two.x) ?_;refine⟨rfl,_,x1,?_⟩;symm;have ed:wD ((a.w++y).drop b.t)=wD (a.w.drop b.t)++wD y:=by rw[ua2 hto,E7]
 refine⟨_,wD ((a.w++y).drop b.t),x1,by rw[ed];simp only[Eg];rw[kQ (by rw[AE,AE,ug9,hL];lia)],?_⟩;symm;have ewx:Ag g x 0 (mv++[(p,v)])=wD (a.w++y):=by rw[UM hsd,h.ex,E7,hy]
 have st:∀{j:Nat}{ob:Ob},S1[j]?=some ob->j≠ux->(S1.set ux (.lst (wD ((a.w++y).drop b.t))))[j]?=some ob:=λe n=>Af e (Ne.symm n);refine⟨rfl,(K1.sub (by simp)).set (by simp),h.two,(Ec g 0 mv [(p,v)]).mpr ⟨h.ok,hm,trivial⟩,ewx,by rw[JZ hne];exact h.eo,?_,?_,st p1 (Ae p1 x1 (by simp)),st u1 (Ae u1 x1 (by simp)),AD x1,st o1 (Ne.symm a1),?_,?_,h.nk,h.nd⟩
 .have:=h.vx;rw[hm1,hm2] at this;exact this.own hne
 .show Vw g x (mv++[(p,v)]) b.m1 (b.m2++[(p,v)]) b.t (a.w++y).length;have:=h.vo.say (p:=p) (v:=v) h.lx hsd;rw[hy,AE] at this;rw[ue8];exact this
 .refine⟨W,P,?_⟩;show InS _ g x o (Aj g 0 (mv++[(p,v)])) (Ag g o 0 (mv++[(p,v)])).length (b.w.take a.t) _ _ _ _;rw[Cq,JZ hne];exact X1.setL x1 a2
 .refine⟨W2,P2,?_⟩;show InS _ g o x (Aj g 0 b.m1) (Ag g x 0 b.m1).length ((a.w++y).take b.t) _ _ _ _;rw[ua3 hto];exact O1.setL x1 a3
def Fv(ar:Nat->Str->D->List D)(f:Fn):Prop:=∀(S:List Ob) (g:List GS) (x o:Str) (i:Ip) (mv:List Mv) (a b:Vt) (ux uo n:Nat),GOk g->Pa g x o i S mv a b ux uo->1<=n->a.t+n<=b.w.length->b.w.length<=25000->
 Wf f (ar i.p x (.int (n:Nat))) S λr S'=>∃n1 n2 uo',a.m2=n1++n2/\r=.lst (AB g (Aj g 0 a.m1) n1)/\Kx [i.kx,i.lx,i.U] S S'/\S.length<=uo'/\Pa g x o i S' mv ⟨a.m1++n1,n2,a.t+n,a.w⟩ b ux uo'
abbrev SQ(p:Nat)(x:Str)(n:D):List D:=[.obj p,.str x,n]
abbrev JH(p:Nat)(x:Str)(n:D):List D:=[.obj p,.tup [.str "take",.str x,n]]
theorem WB(ht:FT arT ct)(h1:Eu co)(hw:F6 cw):Fv SQ (fnOf 3 5 (D0 co (fnOf 2 2 Bo) ct cw)):=by
 intro S g x o i mv a b ux uo n hg h hn hnl hbl;have hL:LIM=100000:=rfl;clear 5 h.jX W P X;clear 5 h.jO W2 P2 O;clear 5(nd4 h.nd)a1 a2 a3 a4 a5 a6;have hlt:=h.ltx hg;have hal:=h.vx.a;clear 5(h.vx.take (k:=n) hg h.two.o h.ok h.eo hnl)n1 n2 c1 c2 em V hw1 hon;have htk:b.w.take a.t++(b.w.drop a.t).take n=b.w.take (a.t+n):=(jv).symm;have hdr:(b.w.drop a.t).drop n=b.w.drop (a.t+n):=List.drop_drop;have hln:(b.w.take (a.t+n)).length=a.t+n:=by rw[ug8];lia
 refine Ak rfl ?_;unfold D0;symm;refine AO h.jp rfl ?_;symm;refine(h1 x o h.two).use ?_;symm;refine Bj h.jU (Gi h.two) ?_;symm;refine HQ h.jo ?_;symm;refine(hw (.int (n:Nat)) 1 _ rfl).use ?_;rw[show EL 1 ((wD (b.w.drop a.t)).length:Int) (.int (n:Nat))=true by rw[AE,ug9];simp only[EL,uh0,ug3];lia];symm;refine⟨_,_,rfl,h.jp,?_⟩;symm;refine(Mr h.two h.jp).mono ?_;rintro r0 S0 ⟨rfl,rfl⟩;refine⟨_,_,rfl,X.ik,?_⟩;symm;refine aj h.jo ?_;rw[XR];symm;refine(ht S0 g x o _ _ _ ((b.w.drop a.t).take n) _ _ _ _ _ _ c1 c2 hg h.two hlt (by rw[ug8];lia) (by rw[htk,hln];lia) (by rw[htk,hln];exact hw1) X).mono ?_;rintro r S1 ⟨rfl,K1,P1,_,X1⟩;rw[hon,htk] at X1;have kp:∀{j:Nat}{ob:Ob},S0[j]?=some ob->j≠i.kx->j≠i.lx->S1[j]?=some ob:=λe n m=>K1.get (by simpa using ⟨n,m⟩) e;have p1:=kp h.jp (Ae h.jp X.ik (by intro z;injection z with z;revert z;decide)) (Ae h.jp X.il (by simp));have u1:=kp h.jU (Ae h.jU X.ik (by simp)) (Ae h.jU X.il (by simp));have x1:=kp h.jx (Ae h.jx X.ik (by simp)) a2;have o1:=kp h.jo (Ae h.jo X.ik (by simp)) a4;have O1:InS S1 g o x (Aj g 0 b.m1) (Ag g x 0 b.m1).length (a.w.take b.t) i.ko i.lo W2 P2:=⟨kp O.ik (Ne.symm h.nk) (Ae O.ik X.il (by simp)),kp O.iw (Ae O.iw X.ik (by simp)) (Ae O.iw X.il (by simp)),kp O.ip (Ae O.ip X.ik (by simp)) (Ae O.ip X.il (by simp)),kp O.il (Ae O.il X.ik (by simp)) (Ne.symm a6),O.el⟩;have hln1:=K1.1;symm;refine bX ?_;symm;refine bY o1 ?_;rw[XS,hdr];symm;refine AO (AG p1) rfl ?_;symm;refine(h1 x o h.two).use ?_;symm;refine CA (AG u1) (by show 2<100000;decide) ?_;rw[Nm (F:=D.obj) h.two];have hUl:=AX u1;have e0:∀{j:Nat}{ob:Ob},S1[j]?=some ob->j≠i.U->((S1++[Ob.lst (wD (b.w.drop (a.t+n)))]).set i.U (.dct (lrF D.obj x ux S1.length)))[j]?=some ob:=λe n=>Af (AG e) (Ne.symm n);have K2:Kx [i.kx,i.lx,i.U] S0 ((S1++[Ob.lst (wD (b.w.drop (a.t+n)))]).set i.U (.dct (lrF D.obj x ux S1.length))):=((K1.sub (by simp)).gr Gr.app).set (by simp);have x2:=e0 x1 (Ae x1 u1 (by simp));have hxl:=AX x1;have hll:=AX X1.il;have hol:=AX O1.il;symm;refine⟨n1,n2,S1.length,em,rfl,K2,hln1,h.two,h.ok,h.ex,h.eo,V,h.vo,e0 p1 (Ae p1 u1 (by simp)),AD (AG u1),x2,Af BC (by lia),?_,?_,h.nk,mk4 ⟨by lia,a2,a3,by lia,by lia,a6⟩⟩
 .exact⟨W,P1,e0 X1.ik (Ae X1.ik u1 (by simp)),e0 X1.iw (Ae X1.iw u1 (by simp)),e0 X1.ip (Ae X1.ip u1 (by simp)),e0 X1.il (Ae X1.il u1 (by simp)),X1.el⟩
 .exact⟨W2,P2,e0 O1.ik (Ae O1.ik u1 (by simp)),e0 O1.iw (Ae O1.iw u1 (by simp)),e0 O1.ip (Ae O1.ip u1 (by simp)),e0 O1.il (Ae O1.il u1 (by simp)),O1.el⟩
section
variable{cs ct:Fn}
theorem da(hs:Ic arS cs):Ic arD (fnOf 2 2 (Es (fnOf 3 3 (EC (fnOf 2 2 Ce))) ct cs)):=by
 intro S g x o i mv a b ux uo p v y hg h hm1 hm hsd hy hyl;refine Ak rfl ?_;unfold Es;symm;refine(QA (k:="say") (ds:=[_,_]) (n:=4) h.two.x rfl).use ?_;symm;refine⟨_,_,rfl,h.jp,?_⟩;symm;exact hs S g x o i mv a b ux uo p v y hg h hm1 hm hsd hy hyl
theorem db(ht:Fv SQ ct):Fv JH (fnOf 2 2 (Es (fnOf 3 3 (EC (fnOf 2 2 Ce))) ct cs)):=by
 intro S g x o i mv a b ux uo n hg h hn hnl hbl;refine Ak rfl ?_;unfold Es;symm;refine(XB (k:="say") (n:=4) (ds:=[.str "take",.str x,.int (n:Nat)]) (by show(3:Nat)≠4;decide)).use ?_;symm;refine(QA (k:="take") (ds:=[.int (n:Nat)]) (n:=3) h.two.x rfl).use ?_;symm;refine⟨_,_,rfl,h.jp,?_⟩;symm;exact ht S g x o i mv a b ux uo n hg h hn hnl hbl
end
theorem ag{xs:List Str}(h:Q (xs.map .str) t):L2.W (DY (.gts xs)) t Q:=⟨_,_,rfl,h⟩
abbrev tpD(p:Str×Str):D:=.tup [.str p.1,.str p.2]
def ifL(b:Bool)(k s:Str):List (Str×Str):=if b=true then [(k,s)] else []
theorem Ot{tst:M Bool}{k:Str}{bl br:Bool}{e:Option Sl}(hl:L2.W tst ⟨[vw (.str sL),e],S⟩ λb t=>b=bl/\t=⟨[vw (.str sL),e],S⟩)(hr:L2.W tst ⟨[vw (.str sR),e],S⟩ λb t=>b=br/\t=⟨[vw (.str sR),e],S⟩)(z:Option Sl) :
 L2.W (Cm (AS 0) tst (AT (Ab (fC (.str k)) (Ab (Aa 0) Ad))) [.str sL,.str sR]) ⟨[z,e],S⟩ λxs t'=>xs=(ifL bl k sL++ifL br k sR).map tpD/\t'.S=S:=by
 have one:∀(z:Option Sl),L2.W (Cm (AS 0) tst (AT (Ab (fC (.str k)) (Ab (Aa 0) Ad))) [.str sR]) ⟨[z,e],S⟩ λxs t'=>xs=(ifL br k sR).map tpD/\t'.S=S:=λz=>by
  rw[EO];refine N4 ?_;refine hr.mono ?_;rintro b t ⟨rfl,rfl⟩
  cases b with
  |true=>
    rw[kQ rfl];symm;refine W_compL_nil.mpr ?_;symm;exact⟨rfl,rfl⟩
  |false=>
    rw[kS (by decide)];exact W_compL_nil.mpr ⟨rfl,rfl⟩
 rw[EO];refine N4 ?_;refine hl.mono ?_;rintro b t ⟨rfl,rfl⟩
 cases b with
 |true=>
   rw[kQ rfl];symm;refine(one _).mono ?_;rintro xs t ⟨rfl,h⟩;symm;exact⟨rfl,h⟩
 |false=>
   rw[kS (by decide)];refine(one _).mono ?_;rintro xs t ⟨rfl,h⟩;exact⟨rfl,h⟩
theorem EJ{b:Bool}{k:Str}:(ifL b k s).length<=1:=by unfold ifL;split<;>simp
abbrev JP(sl sr tl tr:Bool):List (Str×Str):=(ifL sl "say" sL++ifL sr "say" sR)++(ifL tl "take" sL++ifL tr "take" sR)
section
variable{g:List GS}{i:Ip}{S:List Ob}{mv:List Mv}{a b:Vt}{ux uo:Nat}
abbrev Ek(g:List GS)(s:Str)(m:List Mv):Bool:=(Ap g (Aj g 0 m)).side==s
abbrev EW(w:List Nat)(t:Nat):Bool:=decide (0<(w.drop t).length)
theorem two_lr:Two sL sR:=.inl ⟨rfl,rfl⟩
theorem Zq(h1:Eu co)(hg:GOk g)(h:Pa g sL sR i S mv a b ux uo):EN S (fnOf 1 3 (Dh co (fnOf 2 2 Bo) (fnOf 1 1 BH))) [.obj i.p] (.lst ((JP (Ek g sL a.m1) (Ek g sR b.m1) (EW b.w a.t) (EW a.w b.t)).map tpD)):=by
 have hL:LIM=100000:=rfl;clear 5 h.jX W P X;clear 5 h.jO W2 P2 O;refine Ak rfl ?_;unfold Dh;symm;refine ag ?_;refine(Ot (bl:=Ek g sL a.m1) (br:=Ek g sR b.m1) ?_ ?_ _).mono ?_
 .symm;refine⟨_,_,rfl,h.jp,?_⟩;symm;refine(Mr h.two h.jp).mono ?_;rintro r0 S0 ⟨rfl,rfl⟩;refine⟨_,_,rfl,X.ik,W_ret.mpr ?_⟩;refine(YM (h.ltx hg) X).mono ?_;rintro r0 S0 ⟨rfl,rfl⟩;symm;exact⟨rfl,rfl⟩
 .symm;refine⟨_,_,rfl,h.jp,?_⟩;symm;refine(Mr h.swap.two h.swap.jp).mono ?_;rintro r0 S0 ⟨rfl,rfl⟩;refine⟨_,_,rfl,O.ik,W_ret.mpr ?_⟩;refine(YM (h.swap.ltx hg) O).mono ?_;rintro r0 S0 ⟨rfl,rfl⟩;symm;exact⟨rfl,rfl⟩
 rintro xs t ⟨rfl,hS⟩;have e1:=EJ (b:=Ek g sL a.m1) (k:="say") (s:=sL);have e2:=EJ (b:=Ek g sR b.m1) (k:="say") (s:=sR);have e3:=EJ (b:=EW b.w a.t) (k:="take") (s:=sL);have e4:=EJ (b:=EW a.w b.t) (k:="take") (s:=sR);refine CG (by rw[ui3,ue8,hL];lia) ?_;rw[hS];symm;refine ag ?_;refine(Ot (bl:=EW b.w a.t) (br:=EW a.w b.t) ?_ ?_ _).mono ?_
 .symm;refine AO h.jp rfl ?_;symm;refine(h1 _ _ h.two).use ?_;symm;refine Bj h.jU (Gi h.two) ?_;symm;refine HQ h.jo ?_;symm;rw[AE];exact⟨by simp,rfl⟩
 .symm;refine AO h.jp rfl ?_;symm;refine(h1 _ _ h.two.swap).use ?_;symm;refine Bj h.jU (G8 h.two.x) ?_;symm;refine HQ h.jx ?_;symm;rw[AE];exact⟨by simp,rfl⟩
 rintro xs t ⟨rfl,hS⟩;refine CG (by rw[ui3,ue8,hL];lia) ?_;rw[hS];symm;refine CG (by rw[ui3,ui3,ue8,ue8,hL];lia) ?_;exact⟨by rw[<-uj5],rfl⟩
theorem NH(h:Pa g sL sR i S mv a b ux uo):EN S (fnOf 1 1 Bs) [.obj i.p] (.tup [.int ((a.w.drop b.t).length:Nat),.int ((b.w.drop a.t).length:Nat)]):=by
 refine Ak rfl ?_;unfold Bs;symm;refine AO h.jp rfl ?_;symm;refine Bj h.jU (G8 h.two.x) ?_;symm;refine HQ h.jx ?_;symm;refine AO h.jp rfl ?_;symm;refine Bj h.jU (Gi h.two) ?_;symm;refine HQ h.jo ?_;symm;rw[AE,AE];exact⟨rfl,rfl⟩
theorem Lw(h:Pa g sL sR i S mv a b ux uo):EN S (fnOf 1 1 (BT (fnOf 1 1 Bl))) [.obj i.p] (.tup [.int (Aj g 0 a.m1:Nat),.int (Aj g 0 b.m1:Nat)]):=by
 clear 5 h.jX W P X;clear 5 h.jO W2 P2 O;refine Ak rfl ?_;unfold BT;symm;refine AO h.jp rfl ?_;refine⟨_,_,rfl,X.ik,W_ret.mpr ?_⟩;refine(So X).mono ?_;rintro r0 S0 ⟨rfl,rfl⟩;symm;refine AO h.jp rfl ?_;refine⟨_,_,rfl,O.ik,W_ret.mpr ?_⟩;refine(So O).mono ?_;rintro r0 S0 ⟨rfl,rfl⟩;symm;exact⟨rfl,rfl⟩
theorem bb(h1:Eu co)(he:EG ce)(hg:GOk g)(h:Pa g sL sR i S mv a b ux uo)(ea:a.m1=mv)(eb:b.m1=mv)(ta:a.t=b.w.length)(tb:b.t=a.w.length):EN S (fnOf 1 3 (Dy (fnOf 1 1 Bs) (fnOf 1 1 (Cl co (fnOf 2 2 Ch))) (fnOf 1 1 (B8 ce)))) [.obj i.p] (.bl (Ap g (Aj g 0 mv)).isFin):=by
 clear 5 h.jX W P X;clear 5 h.jO W2 P2 O;have eX:=XX he hg (h.ltx hg) X;have eO:=XX he hg (h.swap.ltx hg) O;have wX:=Vf h1 h.two X;have wO:=Vf h1 h.two.swap O;have hly:=NH h;have z1:((b.w.take a.t).length:Int)-((Ag g sR 0 a.m1).length:Int)=0:=by rw[ea,h.eo,AE,ta,uh8,Int.sub_self]
 have z2:((a.w.take b.t).length:Int)-((Ag g sL 0 b.m1).length:Int)=0:=by rw[eb,h.ex,AE,tb,uh8,Int.sub_self]
 rw[z1] at wX;rw[z2] at wO;rw[tb,ta,uh2,uh2] at hly;rw[ea] at eX;rw[eb] at eO;refine Ak rfl ?_;unfold Dy;symm;refine AO h.jp rfl ?_;refine⟨_,_,rfl,X.ik,W_ret.mpr ?_⟩;refine eX.mono ?_;rintro r0 S0 ⟨rfl,rfl⟩
 cases hf:(Ap g (Aj g 0 mv)).isFin with
 |false=>
   symm;refine AO h.jp rfl ?_;refine⟨_,_,rfl,X.ik,W_ret.mpr ?_⟩;refine wX.mono ?_;rintro r0 S1 ⟨rfl,rfl⟩;symm;refine AO h.jp rfl ?_;refine⟨_,_,rfl,O.ik,W_ret.mpr ?_⟩;refine wO.mono ?_;rintro r0 S1 ⟨rfl,rfl⟩;symm;exact⟨rfl,rfl⟩
 |true=>
   symm;refine AO h.jp rfl ?_;refine⟨_,_,rfl,O.ik,W_ret.mpr ?_⟩;refine eO.mono ?_;rintro r0 S1 ⟨rfl,rfl⟩;rw[hf];symm;refine AO h.jp rfl ?_;refine⟨_,_,rfl,X.ik,W_ret.mpr ?_⟩;refine wX.mono ?_;rintro r0 S1 ⟨rfl,rfl⟩;symm;refine AO h.jp rfl ?_;refine⟨_,_,rfl,O.ik,W_ret.mpr ?_⟩;refine wO.mono ?_;rintro r0 S1 ⟨rfl,rfl⟩;symm;refine⟨_,_,rfl,h.jp,W_ret.mpr ?_⟩;refine hly.mono ?_;rintro r0 S1 ⟨rfl,rfl⟩;symm;refine LJ rfl (by decide +kernel) ?_;exact⟨rfl,rfl⟩
end
def MH(f:Fn):Prop:=∀(g:List GS) (mv:List Mv) (S:List Ob),GOk g->okQ g 0 mv->mv.length<=5000->(Ag g sL 0 mv).length<=25000->(Ag g sR 0 mv).length<=25000->Wf f [.lst (g.map GS.d),.lst (AB g 0 mv)] S λr S'=>∃K A B,r=.tup [.obj A,.obj B]/\Wr K A B S' (Ag g sL 0 mv) (Ag g sR 0 mv)/\Gr S S'/\S.length<=A/\S.length<=B
theorem Xq{cs:Fn}(hm:Ml cm)(hs:IW cs):MH (fnOf 2 6 (HC cm cs)):=by
 intro g mv S hg hk hlen hll hlr;have hL:LIM=100000:=rfl;refine Ak rfl ?_;unfold HC;left;refine HN ?_;refine Bp ?_;left;refine Bp ?_;left;refine D7 ?_;refine⟨by simp,by show 2<=15;decide,?_⟩;obtain⟨S1,hS1⟩:∃S1:List Ob,S1=(S++[Ob.dct []]++[Ob.lst []]++[Ob.lst []]).set S.length (.dct (Bc [(kL,.obj (S++[Ob.dct []]).length),(kRt,.obj (S++[Ob.dct []]++[Ob.lst []]).length)])):=⟨_,rfl⟩;have w0:Wr S.length (S++[Ob.dct []]).length (S++[Ob.dct []]++[Ob.lst []]).length S1 [] []:=by
  rw[hS1,Fg];refine⟨Jf (o:=.dct []) (by simp),?_,?_,by simp,by simp,by simp⟩
  .rw[ud5 (by simp)];simp
  .rw[ud5 (by simp)];simp
 have hFS:Gr S S1:=by
  rw[hS1];exact Gr.set ((Gr.app.trans Gr.app).trans Gr.app) (um8 _)
 have hne:S.length<=(S++[Ob.dct []]).length/\S.length<=(S++[Ob.dct []]++[Ob.lst []]).length:=by
  simp only[ue8,ug6,uj1];exact⟨by lia,by lia⟩
 refine FE ?_;show W _ ⟨[vw (.lst (g.map GS.d)),vw (.lst (AB g 0 mv)),vw (.obj S.length),none,none,none],(S++[Ob.dct []]++[Ob.lst []]++[Ob.lst []]).set S.length (.dct (Bc [(kL,.obj (S++[Ob.dct []]).length),(kRt,.obj (S++[Ob.dct []]++[Ob.lst []]).length)]))⟩ _;rw[<-hS1];clear hS1;generalize (S++[Ob.dct []]++[Ob.lst []]).length=B at w0 hne;generalize (S++[Ob.dct []]).length=A at w0 hne;generalize hSK:S.length=K at w0⊢;left;refine(hs g mv hg hk (by lia)).use ?_;left;rw[E6];refine GX (BO (by lia) (by lia)) ?_;refine Dn (λr t=>∃(j:Nat) (S':List Ob) (e4 e5:Option Sl),j<=mv.length/\r=(Bv 0 ((mv.length:Nat):Int).toNat).drop j/\Wr K A B S' (Ag g sL 0 (mv.take j)) (Ag g sR 0 (mv.take j))/\Gr S S'/\t=⟨[vw (.lst (g.map GS.d)),vw (.lst (AB g 0 mv)),vw (.obj K),vw (.lst (BP g 0 mv)),e4,e5],S'⟩) _ _ ⟨0,S1,none,none,by lia,rfl,w0,hFS,rfl⟩ ?_ ?_
 .rintro d' r t ⟨j,S',e4,e5,hjl,hr,hw,hF',rfl⟩ _;clear 5(Fr hr)rfl hr' hjn;rw[uf7] at hjn;rw[um5]
  cases em:mv[j]? with
  |none=>rw[ub2] at em;lia
  |some x=>
  clear 5 x p v;have hm':=Lq hk em;have htk:mv.take (j+1)=mv.take j++[(p,v)]:=by
   rw[List.take_succ,em];rfl
  have hsi:atI (BP g 0 mv) j=some (.tup [.int (Aj g 0 (mv.take j)),.int p]):=by
   unfold atI;rw[Df (by lia) (by rw[E6];lia)];show(BP g 0 mv)[(j:Int).toNat]?=_;rw[uf7,KO g 0 mv j p v em]
  have hmi:atI (AB g 0 mv) j=some (ED g (Aj g 0 (mv.take j)) p v):=by
   unfold atI;rw[Df (by lia) (by rw[CV];lia)];show(AB g 0 mv)[(j:Int).toNat]?=_;rw[uf7,IH g 0 mv j p v em]
  have hside:=LF hg hm';have lA:=GL g sL mv j;have lB:=GL g sR mv j;have lA':=GL g sL mv (j+1);have lB':=GL g sR mv (j+1);have nA:Ag g sL 0 (mv.take (j+1))=Ag g sL 0 (mv.take j)++(if (Ap g (Aj g 0 (mv.take j))).side=sL then D.int p::AL (wdAt g (Aj g 0 (mv.take j)) p).2.1 v else []):=by
   rw[htk,Cj,Ag,Ag,ui5]
  have nB:Ag g sR 0 (mv.take (j+1))=Ag g sR 0 (mv.take j)++(if (Ap g (Aj g 0 (mv.take j))).side=sR then D.int p::AL (wdAt g (Aj g 0 (mv.take j)) p).2.1 v else []):=by
   rw[htk,Cj,Ag,Ag,ui5]
  have hbd:(AL (wdAt g (Aj g 0 (mv.take j)) p).2.1 v).length<=25000:=by
   rcases hside with h|h
   .rw[nA,kQ h,ue8,ug6] at lA';lia
   .rw[nB,kQ h,ue8,ug6] at lB';lia
  generalize hq:Aj g 0 (mv.take j)=q at *;have hix:∀(t:T) (P:D->T->Prop),P (.str (Ap g q).side) t->W (ixD (Ap g q).d (.int 0)) t P:=λt P h=>by
   cases e:Ap g q with
   |fin=>rw[e] at h;rw[GS.d];exact En FU h
   |st s w=>rw[e] at h;rw[GS.d];exact En FU h
  left;refine By hsi ?_;left;refine By (C5 hm'.lt) ?_;left;obtain⟨C,xs,hCn,hC,hxl,hget,hnew⟩:∃(C:Nat) (xs:List D),S.length<=C/\S'[C]?=some (.lst xs)/\xs.length<=25000/\Ba [(kL,.obj A),(kRt,.obj B)] (.inr (Ap g q).side)=some (.obj C)/\Wr K A B (S'.set C (.lst (xs++D.int p::AL (wdAt g q p).2.1 v))) (Ag g sL 0 (mv.take (j+1))) (Ag g sR 0 (mv.take (j+1))):=by
   rcases hside with h|h
   .refine⟨A,_,hne.1,hw.a,by lia,by rw[h];exact G9,?_⟩;rw[nA,nB,kQ h,kS (by rw[h];exact sLR),ui5];exact hw.setA
   .refine⟨B,_,hne.2,hw.b,by lia,by rw[h];exact Ha,?_⟩;rw[nA,nB,kQ h,kS (by rw[h];exact Ne.symm sLR),ui5];exact hw.setB
  refine KU (k:=C) ?_;left;refine hix _ _ ?_;refine Bj hw.k hget ?_;refine⟨rfl,_,hC,?_⟩;left;refine By hsi ?_;left;refine By hmi ?_;unfold ED;left;refine(hm g q p v hg hm' (by lia)).use ?_;left;refine⟨xs,_,hC,kQ (by rw[hL,ug6];lia),?_⟩;exact⟨j+1,_,_,_,hjn,hr',hnew,hF'.set hCn,rfl⟩
 .rintro t ⟨j,S',e4,e5,hjl,hr,hw,hF',rfl⟩;have hj':j=mv.length:=by
   have:=kr List.length hr;rw[uj1,ug9,D4,uf7] at this;lia
  subst hj';rw[uh8] at hw;left;refine Bj hw.k G9 ?_;left;refine Bj hw.k Ha ?_;left;exact⟨K,A,B,rfl,hw,hF',by rw[<-hSK];exact hne.1,by rw[<-hSK];exact hne.2⟩
theorem IR{g:List GS}(hg:GOk g):∀{mv:List Mv}{q:Nat},okQ g q mv->∀x∈AB g q mv,Rq 8 x
 |[],q,_,x,hx=>nomatch hx
 |(p,v)::r,q,hk,x,hx=>by
   rw[okQ] at hk;rw[AB] at hx;rcases uk5.mp hx with e|hx
   .subst e;have hw:=E8 hg hk.1.lt hk.1.pl;unfold ED;exact KI (n:=7) (XD Sd Sd ((Ym hw.dep hw.ok hk.1.fit).rq.mono (by decide)))
   .exact IR hg hk.2 x hx
theorem HeaG.ins{g:List GS}{x o:Str}{S S':List Ob}{k W P l:Nat}(h:HeaG "Side" S S' k W P l o (bsF g x 0 W P [])):InS S' g x o 0 0 [] k l W P:=⟨h.ik,h.iw,h.ip,h.il,um9 _⟩
theorem aa{o:Str}:Vw g o [] [] [] 0 0:=⟨rfl,trivial,um8 _,um8 _,trivial⟩
theorem a9{cs:Fn}(hs:J8 cs){g:List GS}(hg:GOk g){S:List Ob}:Wf (fnOf 2 2 (DN cs)) [.obj S.length,.lst (g.map GS.d)] (S++[.ins "Parley" []]) λr S'=>r=.non/\Gr S S'/\∃i ul ur,i.p=S.length/\(S.length<=ul/\S.length<=ur/\S.length<=i.lx/\S.length<=i.lo/\S.length<=i.U)/\Pa g sL sR i S' [] ⟨[],[],0,[]⟩ ⟨[],[],0,[]⟩ ul ur:=by
 obtain⟨p,hp⟩:∃p,p=S.length:=⟨_,rfl⟩;have e0:(S++[Ob.ins "Parley" []])[p]?=some (.ins "Parley" []):=by rw[hp];exact BC
 have G0:Gr S (S++[Ob.ins "Parley" []]):=Gr.app;have l0:(S++[Ob.ins "Parley" []]).length=p+1:=by rw[hp,ue8];rfl
 rw[<-hp];generalize S++[Ob.ins "Parley" []]=S0 at e0 G0 l0⊢;refine Ak rfl ?_;unfold DN;symm;refine(hs "Side" _ S0.length g sL sR hg two_lr BC).mono ?_;rintro r S1 ⟨rfl,W,P,l,X⟩;refine⟨rfl,?_⟩;have kp1:=X.kp;have hl1:p+2<=S1.length:=by have:=kp1.1;rw[ue8,l0] at this;exact this
 have e1:S1[p]?=some (.ins "Parley" []):=(kp1.2 p (by rw[ue8];lia) (by lia)).trans (AG e0);have G1:Gr S S1:=⟨by lia,λj hj=>(kp1.2 j (by rw[ue8];lia) (by lia)).trans ((ub0 (by lia)).trans (G0.2 j hj))⟩;have X0:=X.ins;have xl:=X.gl;rw[ue8,l0] at xl;have xl:p+2<=l:=xl;rw[l0] at X0⊢;symm;refine Bz e1 (by show 0<1000;decide) ?_;have e2:=AD (o':=.ins "Parley" [("left",D.obj (p+1))]) e1;have G2:Gr S (S1.set p (.ins "Parley" [("left",D.obj (p+1))])):=G1.set (by lia);have X2:InS (S1.set p (.ins "Parley" [("left",D.obj (p+1))])) g sL sR 0 0 [] (p+1) l W P:=⟨Af X0.ik (by lia),Af X0.iw (Ae e1 X0.iw (by simp)),Af X0.ip (Ae e1 X0.ip (by simp)),Af X0.il (Ae e1 X0.il (by simp)),um9 _⟩;have l2:(S1.set p (.ins "Parley" [("left",D.obj (p+1))])).length=S1.length:=uj6;show Dj _ _ Out.next ⟨_,S1.set p (.ins "Parley" [("left",D.obj (p+1))])⟩;generalize S1.set p (.ins "Parley" [("left",D.obj (p+1))])=S2 at e2 G2 X2 l2⊢;have hl2:=AX X2.il;symm;refine(hs "Side" _ S2.length g sR sL hg two_lr.swap BC).mono ?_;rintro r S3 ⟨rfl,W2,P2,lo,Y⟩;refine⟨rfl,?_⟩;have kp3:=Y.kp;have hl3:S2.length+1<=S3.length:=by have:=kp3.1;rw[ue8] at this;exact this
 have yl:=Y.gl;rw[ue8] at yl;have yl:S2.length+1<=lo:=yl;have k3:∀{j:Nat}{ob:Ob},S2[j]?=some ob->S3[j]?=some ob:=λ{j ob} e=>by
  have:=AX e;exact(kp3.2 j (by rw[ue8];lia) (by lia)).trans (AG e)
 have G3:Gr S S3:=⟨by lia,λj hj=>(kp3.2 j (by rw[ue8];lia) (by lia)).trans ((ub0 (by lia)).trans (G2.2 j hj))⟩;have X3:InS S3 g sL sR 0 0 [] (p+1) l W P:=⟨k3 X2.ik,k3 X2.iw,k3 X2.ip,k3 X2.il,um9 _⟩;have Y3:=Y.ins;have e3:=k3 e2;generalize hq:S2.length=q at *;symm;refine Bz e3 (by show 1<1000;decide) ?_;have e4:=AD (o':=.ins "Parley" [("left",D.obj (p+1)),("right",.obj q)]) e3;have G4:Gr S (S3.set p (.ins "Parley" [("left",D.obj (p+1)),("right",.obj q)])):=G3.set (by lia);have X4:InS (S3.set p (.ins "Parley" [("left",D.obj (p+1)),("right",.obj q)])) g sL sR 0 0 [] (p+1) l W P:=⟨Af X3.ik (by lia),Af X3.iw (Ae e3 X3.iw (by simp)),Af X3.ip (Ae e3 X3.ip (by simp)),Af X3.il (Ae e3 X3.il (by simp)),um9 _⟩;have Y4:InS (S3.set p (.ins "Parley" [("left",D.obj (p+1)),("right",.obj q)])) g sR sL 0 0 [] q lo W2 P2:=⟨Af Y3.ik (by lia),Af Y3.iw (Ae e3 Y3.iw (by simp)),Af Y3.ip (Ae e3 Y3.ip (by simp)),Af Y3.il (Ae e3 Y3.il (by simp)),um9 _⟩;show Dj _ _ Out.next ⟨_,S3.set p (.ins "Parley" [("left",D.obj (p+1)),("right",.obj q)])⟩;have l4:(S3.set p (.ins "Parley" [("left",D.obj (p+1)),("right",.obj q)])).length=S3.length:=uj6;generalize S3.set p (.ins "Parley" [("left",D.obj (p+1)),("right",.obj q)])=S4 at e4 G4 X4 Y4 l4⊢;have hlo:=AX Y4.il;symm;refine HN ?_;refine Bp ?_;symm;refine Bp ?_;symm;refine D7 ?_;refine⟨by simp,by show 2<=15;decide,?_⟩;rw[Fg];obtain⟨n,hn⟩:∃n,n=S4.length:=⟨_,rfl⟩;have hA:(S4++[Ob.dct []]).length=n+1:=by rw[hn,ue8];rfl
 have hB:(S4++[Ob.dct []]++[Ob.lst []]).length=n+2:=by rw[ue8,hA];rfl
 rw[hA,hB,<-hn];have k5:∀{j:Nat}{ob:Ob},S4[j]?=some ob->((S4++[Ob.dct []]++[Ob.lst []]++[Ob.lst []]).set n (.dct (lr (.obj (n+1)) (.obj (n+2)))))[j]?=some ob:=λ{j ob} e=>by
  have:=AX e;exact Af (AG (AG (AG e))) (by lia)
 have u5:((S4++[Ob.dct []]++[Ob.lst []]++[Ob.lst []]).set n (.dct (lr (.obj (n+1)) (.obj (n+2)))))[n]?=some (.dct (lr (.obj (n+1)) (.obj (n+2)))):=AD (AG (AG (by rw[hn];exact BC)));have a5:((S4++[Ob.dct []]++[Ob.lst []]++[Ob.lst []]).set n (.dct (lr (.obj (n+1)) (.obj (n+2)))))[n+1]?=some (.lst []):=Af (AG (by rw[<-hA];exact BC)) (by lia);have b5:((S4++[Ob.dct []]++[Ob.lst []]++[Ob.lst []]).set n (.dct (lr (.obj (n+1)) (.obj (n+2)))))[n+2]?=some (.lst []):=Af (by rw[<-hB];exact BC) (by lia);have G5:Gr S ((S4++[Ob.dct []]++[Ob.lst []]++[Ob.lst []]).set n (.dct (lr (.obj (n+1)) (.obj (n+2))))):=(((G4.trans Gr.app).trans Gr.app).trans Gr.app).set (by lia);show L2.W _ ⟨_,(S4++[Ob.dct []]++[Ob.lst []]++[Ob.lst []]).set n (.dct (lr (.obj (n+1)) (.obj (n+2))))⟩ _;have X5:InS ((S4++[Ob.dct []]++[Ob.lst []]++[Ob.lst []]).set n (.dct (lr (.obj (n+1)) (.obj (n+2))))) g sL sR 0 0 [] (p+1) l W P:=⟨k5 X4.ik,k5 X4.iw,k5 X4.ip,k5 X4.il,um9 _⟩;have Y5:InS ((S4++[Ob.dct []]++[Ob.lst []]++[Ob.lst []]).set n (.dct (lr (.obj (n+1)) (.obj (n+2))))) g sR sL 0 0 [] q lo W2 P2:=⟨k5 Y4.ik,k5 Y4.iw,k5 Y4.ip,k5 Y4.il,um9 _⟩;have e5:=k5 e4;generalize (S4++[Ob.dct []]++[Ob.lst []]++[Ob.lst []]).set n (.dct (lr (.obj (n+1)) (.obj (n+2))))=S5 at u5 a5 b5 G5 X5 Y5 e5⊢;symm;refine Bz e5 (by show 2<1000;decide) ?_;have X6:InS (S5.set p (.ins "Parley" (paF sL (p+1) q n))) g sL sR 0 0 [] (p+1) l W P:=⟨Af X5.ik (by lia),Af X5.iw (Ae e5 X5.iw (by simp)),Af X5.ip (Ae e5 X5.ip (by simp)),Af X5.il (Ae e5 X5.il (by simp)),um9 _⟩;have Y6:InS (S5.set p (.ins "Parley" (paF sL (p+1) q n))) g sR sL 0 0 [] q lo W2 P2:=⟨Af Y5.ik (by lia),Af Y5.iw (Ae e5 Y5.iw (by simp)),Af Y5.ip (Ae e5 Y5.ip (by simp)),Af Y5.il (Ae e5 Y5.il (by simp)),um9 _⟩;refine⟨rfl,G5.set (by lia),⟨p+1,l,q,lo,p,n⟩,n+1,n+2,rfl,⟨by lia,by lia,by show _<=l;lia,by show _<=lo;lia,by show _<=n;lia⟩,two_lr,trivial,rfl,rfl,aa,aa,AD e5,Af u5 (by show p≠n;lia),Af a5 (by show p≠n+1;lia),Af b5 (by show p≠n+2;lia),⟨W,P,X6⟩,⟨W2,P2,Y6⟩,by show p+1≠q;lia,mk4 ⟨by lia,by show n+1≠l;lia,by show n+1≠lo;lia,by show n+2≠l;lia,by show n+2≠lo;lia,by show l≠lo;lia⟩⟩
theorem LM{o:Str}{m:List Mv}(h:E9 g o q m)(n:m≠[]):∃r e,m=r++[e]/\(Ap g (Aj g q r)).side=o:=by
 rcases List.eq_nil_or_concat m with z|⟨r,e,z⟩
 .exact absurd z n
 .rw[z,im,Hn] at h;exact⟨r,e,by rw[z,im],h.2.1⟩
section
variable{g:List GS}{x o:Str}{i:Ip}{S S':List Ob}{mv:List Mv}{a b:Vt}{ux uo:Nat}
theorem Pa.ahead(h:Pa g x o i S mv a b ux uo)(ht:a.t<b.w.length):b.m1=mv/\b.t=a.w.length:=by
 have hn:a.m2≠[]:=λz=>by
  have e:=h.vx;rw[z] at e;have e1:=e.nil;have:=e.a;rw[e1,h.eo,AE] at this;lia
 have hb:b.m2=[]:=by
  refine Classical.byContradiction λz=>?_;clear 5(LM h.vx.al hn)r e er hr;clear 5(LM h.vo.al z)r' e' er' hr';have e1:=h.vx.e;have e2:=h.vo.e;rw[er,<-uf9] at e1;rw[er',<-uf9] at e2;have e3:=(List.append_inj' (e1.symm.trans e2) rfl).1;rw[<-Cq,e3,Cq] at hr;exact h.two.ne (hr'.symm.trans hr)
 have e:=h.vo;rw[hb] at e;have e1:=e.nil;have h1:=e.a;have h2:=e.t;rw[e1,h.ex,AE] at h1;exact⟨e1,by lia⟩
theorem Pa.due(h:Pa g x o i S mv a b ux uo)(hb:b.t=a.w.length):Due g mv (onS x b.t a.t) (onS x a.t b.t) a.m1.length:=by
 have:=h.vx.due h.two.swap (no:=b.t) (by rw[h.lx,hb]);rw[CL h.two,CL h.two] at this;exact this
end
theorem UY{x o:Str}{a b:α}(h:Two x o):onS o (onS x a b) (onS x b a)=b:=by
 rw[<-CL (a:=a) (b:=b) h,<-CL (a:=b) (b:=a) h,IK]
theorem Ta{cl cr c:Nat}(h:Due g mv cl cr c)(h1:cl<=(Ag g sL 0 mv).length)(h2:cr<=(Ag g sR 0 mv).length):Due g (mv++[(p,v)]) cl cr c:=by
 have hl:=h.le;have et:(mv++[(p,v)]).take c=mv.take c:=ua3 hl;refine⟨by rw[ue8];lia,by rw[et];exact h.a,by rw[et];exact h.b,.inr ⟨by rw[ue8];show c<mv.length+1;lia,?_⟩⟩;rw[et];rcases h.z with z|⟨z1,z2⟩
 .have e1:mv.take c=mv:=by rw[z,uh8]
  rw[e1];have hp:0<(prt g (mv++[(p,v)]) c).length:=by
   unfold prt;rw[ua6 (by lia),z,um6];show 0<(List.cons _ _).length;rw[ug6];lia
  unfold onS
  split<;>lia
 .have e2:prt g (mv++[(p,v)]) c=prt g mv c:=by
   unfold prt;rw[et,ub0 z1]
  rw[e2];exact z2
structure Iq where
 rk:Nat
 rl:Nat
 rr:Nat
 W:Nat
 zs:Nat
 zw:Nat
 zc:Nat
 zt:Nat
abbrev kWi:Key:=.inr (Str.ofString "wires")
abbrev kCo:Key:=.inr (Str.ofString "come")
abbrev kTk:Key:=.inr (Str.ofString "talk")
abbrev zsD(a b c:Nat):List (Key×D):=[(kWi,.obj a),(kCo,.obj b),(kTk,.obj c)]
section
variable{a b c:Nat}
theorem nWC:decide (kWi=kCo)=false:=by decide +kernel
theorem nWT:decide (kWi=kTk)=false:=by decide +kernel
theorem nCT:decide (kCo=kTk)=false:=by decide +kernel
theorem N6:Ba (zsD a b c) kWi=some (.obj a):=by simp[Ba,uj0]
theorem aq:Ba (zsD a b c) kCo=some (.obj b):=by
 unfold Ba;rw[uj0,nWC];simp[uj0]
theorem au:Ba (zsD a b c) kTk=some (.obj c):=by
 unfold Ba;rw[uj0,nWT];dsimp only;rw[uj0,nCT];simp[uj0]
end
structure Rj(g:List GS)(q:Iq)(S:List Ob)(mv:List Mv)(wl wr:List Nat)(cl cr c P:Nat):Prop where
 jz:S[q.zs]?=some (.dct (zsD q.zw q.zc q.zt))
 jw:S[q.zw]?=some (.dct (dW wl wr))
 jc:S[q.zc]?=some (.dct (dP cl cr))
 jt:S[q.zt]?=some (.lst (AB g 0 mv))
 du:Due g mv cl cr c
 ch:Rch g (wl.take cl) (wr.take cr) (AB g 0 (mv.take c)) (Aj g 0 (mv.take c)) (Ag g sL 0 (mv.take c)).length (Ag g sR 0 (mv.take c)).length
 rd:Rdr 0 S q.rk g (wl.take cl) (wr.take cr) (Aj g 0 (mv.take c)) (Ag g sL 0 (mv.take c)).length (Ag g sR 0 (mv.take c)).length q.W P q.rl q.rr
 nt:q.zt≠q.rl/\q.zt≠q.rr
 nc:q.zc≠P
structure Sp(U:Nat)(ls:List Nat)(q:Iq)(P:Nat):Prop where
 l:∀j∈[q.rl,q.rr,q.zt],j∉ls
 u:∀j∈[q.zs,q.zw,q.zc,q.W,P],j≠U
section
variable{g:List GS}{q:Iq}{S S':List Ob}{mv:List Mv}{wl wr:List Nat}{cl cr c P U:Nat}{ls F:List Nat}
theorem Rdr.keep{k W:Nat}(R:Rdr 0 S k g vl vr h a b W P l r)(K:Kx F S S')(n:∀j∈[k,l,r,W,P],j∉F):Rdr 0 S' k g vl vr h a b W P l r:=
 ⟨um9 _,um9 _,um9 _,R.ne,K.get (n _ (by simp)) R.k,K.get (n _ (by simp)) R.w,K.get (n _ (by simp)) R.p,K.get (n _ (by simp)) R.l,K.get (n _ (by simp)) R.r⟩
theorem Rj.keep(h:Rj g q S mv wl wr cl cr c P)(K:Kx F S S')(n:∀j∈[q.zs,q.zw,q.zc,q.zt],j∉F)(n2:∀j∈[q.rk,q.rl,q.rr,q.W,P],j∉F):Rj g q S' mv wl wr cl cr c P:=
 ⟨K.get (n _ (by simp)) h.jz,K.get (n _ (by simp)) h.jw,K.get (n _ (by simp)) h.jc,K.get (n _ (by simp)) h.jt,h.du,h.ch,h.rd.keep K n2,h.nt,h.nc⟩
theorem Rj.out(h:Rj g q S mv wl wr cl cr c P)(sp:Sp U ls q P):(∀j∈[q.zs,q.zw,q.zc,q.zt],OutP S U ls j)/\∀j∈[q.rk,q.rl,q.rr,q.W,P],OutP S U ls j:=by
 have hl:=sp.l;have hu:=sp.u;simp only[uk5,uh5,ky,jg,forall_eq] at hl hu⊢;exact⟨⟨.inr (.inr ⟨_,h.jz,by show 2<=3;decide,hu.1⟩),.inr (.inr ⟨_,h.jw,um8 _,hu.2.1⟩),.inr (.inr ⟨_,h.jc,um8 _,hu.2.2.1⟩),.inr (.inl ⟨_,h.jt,hl.2.2⟩)⟩,
  .inl ⟨_,h.rd.k⟩,.inr (.inl ⟨_,h.rd.l,hl.1⟩),.inr (.inl ⟨_,h.rd.r,hl.2.1⟩),.inr (.inr ⟨_,h.rd.w,um8 _,hu.2.2.2.1⟩),.inr (.inr ⟨_,h.rd.p,um8 _,hu.2.2.2.2⟩)⟩
def Inn(S:List Ob)(U:Nat)(ls:List Nat)(j:Nat):Prop:=(∃fs,S[j]?=some (.ins "Side" fs))\/(j∈ls/\∃ds,S[j]?=some (.lst ds))\/j=U
theorem OJ(e:S[U]?=some (.dct kv))(hF:∀j∈F,Inn S U ls j){j:Nat}(h:OutP S U ls j):j∉F:=λz=>by
 rcases hF j z with⟨fs,e1⟩|⟨n,ds,e1⟩|rfl
 .exact Lr e1 (by decide) h
 .exact Jl e1 n h
 .exact UZ e h
theorem Rj.keepI(h:Rj g q S mv wl wr cl cr c P)(sp:Sp U ls q P)(e:S[U]?=some (.dct kv))(hF:∀j∈F,Inn S U ls j)(K:Kx F S S'):Rj g q S' mv wl wr cl cr c P:=
 h.keep K (λj m=>OJ e hF ((h.out sp).1 j m)) λj m=>OJ e hF ((h.out sp).2 j m)
end
structure Jq(g:List GS)(x o:Str)(i:Ip)(q:Iq)(S:List Ob)(mv:List Mv)(a b:Vt)(ux uo c P:Nat):Prop where
 pa:Pa g x o i S mv a b ux uo
 rj:Rj g q S mv (onS x a.w b.w) (onS x b.w a.w) (onS x b.t a.t) (onS x a.t b.t) c P
 sp:Sp i.U [ux,uo,i.lx,i.lo] q P
theorem Jq.swap{g:List GS}{x o:Str}{i:Ip}{q:Iq}{S:List Ob}{mv:List Mv}{a b:Vt}{ux uo c P:Nat}(h:Jq g x o i q S mv a b ux uo c P):Jq g o x i.swap q S mv b a uo ux c P:=
 ⟨h.pa.swap,by have:=h.rj;rw[<-CL h.pa.two,<-CL h.pa.two,<-CL h.pa.two,<-CL h.pa.two] at this;exact this,λj m z=>h.sp.l j m (by
  simp only[uk5,uh5,ky] at z⊢;rcases z with z|z|z|z
  .exact .inr (.inl z)
  .exact .inl z
  .exact .inr (.inr (.inr z))
  .exact .inr (.inr (.inl z))),h.sp.u⟩
theorem Uy{x:Str}{a b y:List Nat}{t s:Nat}(h:t<=a.length):(onS x (a++y) b).take (onS x t s)=(onS x a b).take (onS x t s)/\(onS x b (a++y)).take (onS x s t)=(onS x b a).take (onS x s t):=by
 unfold onS
 split
 .exact⟨ua3 h,rfl⟩
 .exact⟨rfl,ua3 h⟩
section
variable{cd cf:Fn}{g:List GS}{x o:Str}{i:Ip}{q:Iq}{S:List Ob}{mv:List Mv}{a b:Vt}{ux uo c P:Nat}
theorem aA(hd:Ic arD cd)(hg:GOk g)(J:Jq g x o i q S mv a b ux uo c P)(hm1:a.m1=mv){p:Nat}{v d:D}{y:List Nat}(hm:MvOk g (Aj g 0 mv) p v)(hsd:(Ap g (Aj g 0 mv)).side=x)(hy:mbQ g (Aj g 0 mv) p v=wD y)(hyl:a.w.length+y.length<=25000)(hml:mv.length<=500) :
 Wf (fnOf 5 7 (BU cf cd)) [.obj i.p,.obj q.rk,.obj q.zs,.tup [.str "say",.str x,.str (wdAt g (Aj g 0 mv) p).1,v],d] S λr S'=>r=.bl true/\∃a' b',Jq g x o i q S' (mv++[(p,v)]) a' b' ux uo c P:=by
 have hL:LIM=100000:=rfl;have h:=J.pa;clear 5 h.jX W P1 X;have hto:=h.vo.t;have htx:=h.vx.t;refine Ak rfl ?_;unfold BU;symm;refine⟨_,_,rfl,h.jp,?_⟩;symm;refine(hd S g x o i mv a b ux uo p v y hg h hm1 hm hsd hy hyl).mono ?_;rintro r S1 ⟨rfl,K1,Q1⟩;have R1:=J.rj.keepI J.sp h.jU (F:=[i.kx,ux]) (λj m=>by
  simp only[uk5,uh5,ky] at m;rcases m with rfl|rfl
  .exact .inl ⟨_,X.ik⟩
  .exact .inr (.inl ⟨by simp,_,h.jx⟩)) K1
 have w1:S1[q.zw]?=some (.dct (lrF (λw=>D.lst (wD w)) x a.w b.w)):=R1.jw;symm;refine Bj R1.jz N6 ?_;symm;refine Bj w1 (G8 h.two.x) ?_;symm;refine CG (by rw[AE,AE,hL];lia) ?_;rw[<-E7];symm;refine Bj R1.jz N6 ?_;symm;refine CA w1 (by show 2<100000;decide) ?_;rw[OK (F:=λw=>D.lst (wD w)) h.two.x];have K2:Kx [q.zw] S1 (S1.set q.zw (.dct (lrF (λw=>D.lst (wD w)) x (a.w++y) b.w))):=Kx.refl.set (by simp);have o1:=R1.out J.sp;have Q2:=Q1.keep K2 (λj m=>by rw[uf0] at m;subst m;exact o1.1 _ (by simp));have w2:=AD (o':=.dct (lrF (λw=>D.lst (wD w)) x (a.w++y) b.w)) w1;have e2:∀{j:Nat}{ob:Ob},S1[j]?=some ob->ob≠.dct (lrF (λw=>D.lst (wD w)) x a.w b.w)->(S1.set q.zw (.dct (lrF (λw=>D.lst (wD w)) x (a.w++y) b.w)))[j]?=some ob:=λ{j ob} e n=>Af e (λz=>n (by subst z;rw[w1] at e;exact(ui2 e).symm));have z2:=e2 R1.jz (by simp);have c2:=e2 R1.jc (by simp);have t2:=e2 R1.jt (by simp);have r2:Rdr 0 (S1.set q.zw (.dct (lrF (λw=>D.lst (wD w)) x (a.w++y) b.w))) q.rk g _ _ _ _ _ q.W P q.rl q.rr:=⟨um9 _,um9 _,um9 _,R1.rd.ne,e2 R1.rd.k (by simp),e2 R1.rd.w (by simp),e2 R1.rd.p (by simp),e2 R1.rd.l (by simp),e2 R1.rd.r (by simp)⟩;generalize S1.set q.zw (.dct (lrF (λw=>D.lst (wD w)) x (a.w++y) b.w))=S2 at Q2 w2 z2 c2 t2 r2⊢;symm;refine KU (k:=q.zt) ?_;symm;refine Bj z2 au ?_;refine⟨rfl,_,t2,?_⟩;symm;have emsg:AB g 0 (mv++[(p,v)])=AB g 0 mv++[.tup [.str x,.str (wdAt g (Aj g 0 mv) p).1,v]]:=by
  rw[IG,AB,AB,ED,hsd]
 refine⟨_,AB g 0 (mv++[(p,v)]),t2,by rw[emsg];simp only[Do];rw[kQ (by rw[CV,hL];lia)],?_⟩;symm;have K3:Kx [q.zt] S2 (S2.set q.zt (.lst (AB g 0 (mv++[(p,v)])))):=Kx.refl.set (by simp);have Q3:=Q2.keep K3 (λj m=>by
  rw[uf0] at m;subst m;exact .inr (.inl ⟨_,t2,J.sp.l _ (by simp)⟩))
 have e3:∀{j:Nat}{ob:Ob},S2[j]?=some ob->j≠q.zt->(S2.set q.zt (.lst (AB g 0 (mv++[(p,v)]))))[j]?=some ob:=λe n=>Af e (Ne.symm n);refine⟨rfl,_,_,Q3,?_,J.sp⟩;have hle:=J.rj.du.le;have et:(mv++[(p,v)]).take c=mv.take c:=ua3 hle;clear 5(Uy (x:=x) (a:=a.w) (b:=b.w) (y:=y) (t:=b.t) (s:=a.t) hto)f1 f2;have hcl:onS x b.t a.t<=(Ag g sL 0 mv).length/\onS x a.t b.t<=(Ag g sR 0 mv).length:=by
  have g1:=h.ex;have g2:=h.eo;unfold onS;rcases h.two with⟨rfl,rfl⟩|⟨rfl,rfl⟩
  .rw[kQ rfl,kQ rfl,g1,g2,AE,AE];exact⟨hto,htx⟩
  .rw[kS (Ne.symm sLR),kS (Ne.symm sLR),g1,g2,AE,AE];exact⟨htx,hto⟩
 refine⟨e3 z2 (Ae z2 t2 (by simp)),e3 w2 (Ae w2 t2 (by simp)),e3 c2 (Ae c2 t2 (by simp)),AD t2,Ta J.rj.du hcl.1 hcl.2,?_,?_,J.rj.nt,J.rj.nc⟩
 .show Rch g ((onS x (a.w++y) b.w).take _) ((onS x b.w (a.w++y)).take _) _ _ _ _;rw[f1,f2,et];exact J.rj.ch
 .show Rdr 0 _ _ g ((onS x (a.w++y) b.w).take _) ((onS x b.w (a.w++y)).take _) _ _ _ _ _ _ _;rw[f1,f2,et];exact⟨um9 _,um9 _,um9 _,r2.ne,e3 r2.k (Ae r2.k t2 (by simp)),e3 r2.w (Ae r2.w t2 (by simp)),e3 r2.p (Ae r2.p t2 (by simp)),e3 r2.l (Ne.symm J.rj.nt.1),e3 r2.r (Ne.symm J.rj.nt.2)⟩
end
theorem XT(h:a<=w.length):B3 (wD w) (some (a:Int)) (some ((a:Int)+(b:Int)))=wD ((w.drop a).take b):=by
 rw[<-Int.natCast_add];unfold B3;rw[HT.Jp,HT.Jp,AE];unfold wD;rw[ul0,jq,Nat.min_eq_left h,ud2 (i:=b),ug9,ui3,ud2,ug9,ui3]
 congr 1
 lia
section
variable{cd cf:Fn}{g:List GS}{x o:Str}{i:Ip}{q:Iq}{S:List Ob}{mv:List Mv}{a b:Vt}{ux uo c P:Nat}
theorem Pa.wl(h:Pa g x o i S mv a b ux uo):wD (onS x a.w b.w)=Ag g sL 0 mv/\wD (onS x b.w a.w)=Ag g sR 0 mv:=by
 have g1:=h.ex;have g2:=h.eo;unfold onS;rcases h.two with⟨rfl,rfl⟩|⟨rfl,rfl⟩
 .rw[kQ rfl,kQ rfl];exact⟨g1.symm,g2.symm⟩
 .rw[kS (Ne.symm sLR),kS (Ne.symm sLR)];exact⟨g2.symm,g1.symm⟩
theorem Pa.cl(h:Pa g x o i S mv a b ux uo):onS x b.t a.t<=(onS x a.w b.w).length/\onS x a.t b.t<=(onS x b.w a.w).length:=by
 have g1:=h.vo.t;have g2:=h.vx.t;unfold onS
 split
 .exact⟨g1,g2⟩
 .exact⟨g2,g1⟩
theorem OS{a b:List α}(h1:a.length<=n)(h2:b.length<=n):(onS x a b).length<=n:=by unfold onS;split<;>assumption
theorem UT(hd:Fv JH cd)(hf:EM cf)(hg:GOk g)(J:Jq g x o i q S mv a b ux uo c P){n:Nat}(hn:1<=n)(hnl:a.t+n<=b.w.length)(hal:a.w.length<=25000)(hbl:b.w.length<=25000) :
 Wf (fnOf 5 7 (BU cf cd)) [.obj i.p,.obj q.rk,.obj q.zs,.tup [.str "take",.str x,.int (n:Nat)],.str o] S λr S'=>r=.bl true/\∃a' uo' c' P',Jq g x o i q S' mv a' b ux uo' c' P'/\a'.t=a.t+n/\a'.w=a.w:=by
 have hL:LIM=100000:=rfl;have h:=J.pa;clear 5 h.jX W P1 X;clear 5(h.ahead (by lia))hbm hbt;have hwl:=h.wl;have hcl:=h.cl;have hc:=M6 hg h.ok hwl.1 hwl.2 hcl.1 hcl.2 J.rj.du (h.due hbt);have hcast:(a.t:Int)+(n:Int)=((a.t+n:Nat):Int):=by lia
 refine Ak rfl ?_;unfold BU;symm;refine⟨_,_,rfl,h.jp,?_⟩;symm;refine(hd S g x o i mv a b ux uo n hg h hn hnl hbl).mono ?_;rintro r S1 ⟨n1,n2,uo',em,rfl,K1,hu,Q1⟩;have R1:=J.rj.keepI J.sp h.jU (F:=[i.kx,i.lx,i.U]) (λj m=>by
  simp only[uk5,uh5,ky] at m;rcases m with rfl|rfl|rfl
  .exact .inl ⟨_,X.ik⟩
  .exact .inr (.inl ⟨by simp,_,X.il⟩)
  .exact .inr (.inr rfl)) K1
 have sp1:Sp i.U [ux,uo',i.lx,i.lo] q P:=⟨λj m=>by
  have z:=J.sp.l j m;have hj:j<S.length:=by
   simp only[uk5,uh5,ky] at m;rcases m with rfl|rfl|rfl
   .exact AX J.rj.rd.l
   .exact AX J.rj.rd.r
   .exact AX J.rj.jt
  simp only[uk5,uh5,ky,kT] at z⊢;exact⟨z.1,by lia,z.2.2.1,z.2.2.2⟩,J.sp.u⟩
 have c1:S1[q.zc]?=some (.dct (lrF (λn:Nat=>D.int n) x b.t a.t)):=R1.jc;symm;refine Bj R1.jz aq ?_;symm;refine Bj c1 (Gi h.two) ?_;symm;rw[hcast];refine Bj R1.jz aq ?_;symm;refine CA c1 (by show 2<100000;decide) ?_;rw[Nm (F:=λn:Nat=>D.int n) h.two];have K2:Kx [q.zc] S1 (S1.set q.zc (.dct (lrF (λn:Nat=>D.int n) x b.t (a.t+n)))):=Kx.refl.set (by simp);have o1:=R1.out sp1;have Q2:=Q1.keep K2 (λj m=>by rw[uf0] at m;subst m;exact o1.1 _ (by simp));have c2:=AD (o':=.dct (lrF (λn:Nat=>D.int n) x b.t (a.t+n))) c1;have e2:∀{j:Nat}{ob:Ob},S1[j]?=some ob->j≠q.zc->(S1.set q.zc (.dct (lrF (λn:Nat=>D.int n) x b.t (a.t+n))))[j]?=some ob:=λe n=>Af e (Ne.symm n);have z2:=e2 R1.jz (Ae R1.jz c1 (by simp));have w2:_=some (Ob.dct (lrF (λw=>D.lst (wD w)) x a.w b.w)):=e2 R1.jw (Ae R1.jw c1 (by simp));have t2:=e2 R1.jt (Ae R1.jt c1 (by simp));have r2:Rdr 0 (S1.set q.zc (.dct (lrF (λn:Nat=>D.int n) x b.t (a.t+n)))) q.rk g _ _ _ _ _ q.W P q.rl q.rr:=⟨um9 _,um9 _,um9 _,R1.rd.ne,e2 R1.rd.k (Ae R1.rd.k c1 (by simp)),e2 R1.rd.w (Ae R1.rd.w c1 (by simp)),e2 R1.rd.p (Ne.symm R1.nc),e2 R1.rd.l (Ae R1.rd.l c1 (by simp)),e2 R1.rd.r (Ae R1.rd.r c1 (by simp))⟩;generalize S1.set q.zc (.dct (lrF (λn:Nat=>D.int n) x b.t (a.t+n)))=S2 at Q2 c2 z2 w2 t2 r2⊢;symm;refine⟨_,_,rfl,r2.k,?_⟩;symm;refine Bj z2 N6 ?_;symm;refine Bj w2 (Gi h.two) ?_;symm;rw[XT (by lia)];refine(Yi (m:=n) (c':=(a.m1++n1).length) (rl':=onS x b.t (a.t+n)) (rr':=onS x (a.t+n) b.t) hf hg h.ok hwl.1 hwl.2 (OS hal hbl) (OS hbl hal) h.two.o R1.ch r2 R1.du.le (by rw[UY h.two,UY h.two]) ?_ ?_ Q1.cl.1 Q1.cl.2 (Q1.due hbt)).mono ?_
 .unfold onS;rcases h.two with⟨rfl,rfl⟩|⟨rfl,rfl⟩
  .rw[kS (Ne.symm sLR),kQ rfl,kQ rfl]
  .rw[kQ rfl,kS (Ne.symm sLR),kS (Ne.symm sLR)]
 .unfold onS;rcases h.two with⟨rfl,rfl⟩|⟨rfl,rfl⟩
  .rw[kS (Ne.symm sLR),kQ rfl,kQ rfl]
  .rw[kQ rfl,kS (Ne.symm sLR),kS (Ne.symm sLR)]
 rintro z S3 ⟨K3,P3,hP3,rfl,_,ch3,r3⟩;have hmv:mv=(a.m1++n1)++n2:=Q1.vx.e;have hko:=h.ok;rw[hmv,Ec,Ec] at hko;have etk:mv.take (a.m1++n1).length=a.m1++n1:=by rw[hmv];exact List.take_left
 have eml:(AB g 0 (mv.take (a.m1++n1).length)).drop c=AB g (Aj g 0 a.m1) n1:=by
  rw[etk,IG,hc];have:a.m1.length=(AB g 0 a.m1).length:=(CV ..).symm;rw[this];exact List.drop_left
 rw[eml];symm;refine LJ rfl (Sc (IR hg hko.1.2) EQD (by decide)) ?_;have hU2:=AX Q2.jU;have hc2:=AX c2;have k3:∀{j:Nat}{ob:Ob},S2[j]?=some ob->j≠q.rk->j≠q.rl->j≠q.rr->S3[j]?=some ob:=λe n m k=>K3.get (by simpa using ⟨n,m,k⟩) e;have hou:=sp1.l;simp only[uk5,uh5,ky,jg,forall_eq] at hou;have Q3:=Q2.keep K3 (λj m=>by
  simp only[uk5,uh5,ky] at m;rcases m with rfl|rfl|rfl
  .exact .inl ⟨_,r2.k⟩
  .exact .inr (.inl ⟨_,r2.l,sp1.l _ (by simp)⟩)
  .exact .inr (.inl ⟨_,r2.r,sp1.l _ (by simp)⟩))
 refine⟨rfl,_,uo',(a.m1++n1).length,P3,⟨Q3,?_,sp1.l,?_⟩,rfl,rfl⟩
 .exact⟨k3 z2 (Ae z2 r2.k (by simp)) (Ae z2 r2.l (by simp)) (Ae z2 r2.r (by simp)),k3 w2 (Ae w2 r2.k (by simp)) (Ae w2 r2.l (by simp)) (Ae w2 r2.r (by simp)),k3 c2 (Ae c2 r2.k (by simp)) (Ae c2 r2.l (by simp)) (Ae c2 r2.r (by simp)),k3 t2 (Ae t2 r2.k (by simp)) R1.nt.1 R1.nt.2,Q1.due hbt,ch3,r3,R1.nt,by lia⟩
 .intro j m;have hu:=sp1.u;simp only[uk5,uh5,ky,jg,forall_eq] at m hu;rcases m with rfl|rfl|rfl|rfl|rfl
  .exact hu.1
  .exact hu.2.1
  .exact hu.2.2.1
  .exact hu.2.2.2.1
  .lia
end
theorem JM{S:List Ob}{k:Str}:∀(l:List (Str×Str)) (z:Option Sl),L2.W (Cm (AS 0) (Ao (Ac (Ac (Aa 0) (gb 0) ixD) (fC (.str k)) (eqS id))) (Aa 0) (l.map tpD)) ⟨[z],S⟩ λxs t'=>xs=(l.filter λp=>p.1==k).map tpD/\t'.S=S
 |[],z=>W_compL_nil.mpr ⟨rfl,rfl⟩
 |p::l,z=>by
   rw[uk6,EO];refine N4 ?_;symm
   by_cases h:p.1=k
   .rw[kQ (by simpa using h),uh9,kQ (by simpa using h)];symm;refine(JM l _).mono ?_;rintro xs t ⟨rfl,h⟩;symm;exact⟨rfl,h⟩
   .rw[kS (by simpa using h),uh9,kS (by simpa using h)];exact JM l _
theorem sTS:((Str.ofString "take":Str)==Str.ofString "say")=false:=by decide +kernel
theorem V0{sl sr tl tr:Bool}(h:¬(sl=true/\sr=true)):((JP sl sr tl tr).filter λp=>p.1==Str.ofString "say").length<=1:=by
 have h1:∀{b:Bool}{s:Str},((ifL b "take" s).filter λp=>p.1==Str.ofString "say")=[]:=λ{b s}=>by
  unfold ifL
  split
  .rw[uh9,kS (by show ¬((Str.ofString "take" == Str.ofString "say")=true);rw[sTS];decide)];rfl
  .rfl
 have h2:∀{b:Bool}{s:Str},((ifL b "say" s).filter λp=>p.1==Str.ofString "say").length<=(if b=true then 1 else 0):=λ{b s}=>by
  refine ul9 (List.length_filter_le ..) ?_;unfold ifL
  split<;>simp
 unfold JP;rw[uf3,uf3,uf3,h1,h1,ui5,ui5,ue8];have a1:=h2 (b:=sl) (s:=sL);have a2:=h2 (b:=sr) (s:=sR);have a3:(if sl=true then 1 else 0)+(if sr=true then 1 else 0)<=1:=by cases sl<;>cases sr<;>simp_all
 lia
theorem V1{b:Bool}{k:Str}{e:Str×Str}(h:e∈ifL b k s):b=true/\e=(k,s):=by
 unfold ifL at h
 split at h
 .next z=>exact⟨z,by simpa using h⟩
 .cases h
theorem T8{l:List α}{F:α->D}(h:l≠[])(c:Int):∃e∈l,atI (l.map F) (c%(l.length:Int))=some (F e):=by
 have hp:0<l.length:=by cases l with|nil=>exact absurd rfl h|cons _ _=>exact Nat.succ_pos _
 have h1:=uj7 c (b:=(l.length:Int)) (by lia);have h2:=uf2 c (b:=(l.length:Int)) (by lia);clear 5(ub6 h1)j hj;have hjl:j<l.length:=by lia
 refine⟨l[j],uh6 hjl,?_⟩;rw[hj];unfold atI;rw[Df (by lia) (by rw[ui3];lia)];show(l.map F)[(j:Int).toNat]?=_;rw[uf7,uf6,ub3 hjl];rfl
section
variable{g:List GS}{x o:Str}{i:Ip}{S:List Ob}{mv:List Mv}{a b:Vt}{ux uo:Nat}
theorem Pa.one(h:Pa g x o i S mv a b ux uo):¬(Ek g x a.m1=true/\Ek g o b.m1=true):=λz9=>by
 clear 5 z9 h1 h2;have h1:(Ap g (Aj g 0 a.m1)).side=x:=by simpa using h1
 have h2:(Ap g (Aj g 0 b.m1)).side=o:=by simpa using h2
 have e1:=h.vx;rw[h.vx.all h1 h.two.ne] at e1;have e2:=h.vo;rw[h.vo.all h2 h.two.swap.ne] at e2;rw[e1.nil] at h1;rw[e2.nil] at h2;exact h.two.ne (h1.symm.trans h2)
theorem Zp(h:Pa g x o i S mv a b ux uo):EN S (fnOf 1 1 Bs) [.obj i.p] (.tup [.int (onS x (a.w.drop b.t).length (b.w.drop a.t).length:Nat),.int (onS x (b.w.drop a.t).length (a.w.drop b.t).length:Nat)]):=by
 rcases h.two with⟨rfl,rfl⟩|⟨rfl,rfl⟩
 .exact NH h
 .have:=NH h.swap;exact this
theorem df(h:Pa g x o i S mv a b ux uo):EN S (fnOf 1 1 (BT (fnOf 1 1 Bl))) [.obj i.p] (.tup [.int (onS x (Aj g 0 a.m1) (Aj g 0 b.m1):Nat),.int (onS x (Aj g 0 b.m1) (Aj g 0 a.m1):Nat)]):=by
 rcases h.two with⟨rfl,rfl⟩|⟨rfl,rfl⟩
 .exact Lw h
 .have:=Lw h.swap;exact this
end
theorem YD{x o:Str}(h:Two x o):atI [D.str (Str.ofString "left"),D.str (Str.ofString "right")] (if id (x==Str.ofString "left")=true then 1 else 0)=some (.str o):=by
 rcases h with⟨rfl,rfl⟩|⟨rfl,rfl⟩<;>rfl
theorem YE{x o:Str}(h:Two x o){F:Nat->D}{p r:Nat}:atI [F (onS x p r),F (onS x r p)] (if id (x==Str.ofString "right")=true then 1 else 0)=some (F p):=by
 rcases h with⟨rfl,rfl⟩|⟨rfl,rfl⟩<;>rfl
theorem Rm{x o:Str}(h:Two x o){F:Nat->D}{p r:Nat}:atI [F (onS x p r),F (onS x r p)] (if id (o==Str.ofString "right")=true then 1 else 0)=some (F r):=by
 rcases h with⟨rfl,rfl⟩|⟨rfl,rfl⟩<;>rfl
variable{cd:Fn}
theorem ZX{cv:Fn}(hdS:Ic arD cd)(hdT:Fv JH cd)(hf:EM cf)(hv:K5 cv 3)(h1:Eu co){g:List GS}(hg:GOk g)(hT:∀x∈g,Tin x){i:Ip}{q:Iq}{S:List Ob}{mv:List Mv}{a b:Vt}{ux uo c P:Nat}(J:Jq g sL sR i q S mv a b ux uo c P)(hml:mv.length<=400)(hne:JP (Ek g sL a.m1) (Ek g sR b.m1) (EW b.w a.t) (EW a.w b.t)≠[]){cell:Int} :
 Wf (fnOf 5 14 (DP cv (fnOf 5 7 (BU cf cd)) (fnOf 1 1 (BT (fnOf 1 1 Bl))) (fnOf 1 1 Bs) (fnOf 1 3 (Dh co (fnOf 2 2 Bo) (fnOf 1 1 BH))))) [.lst (g.map GS.d),.obj i.p,.obj q.rk,.obj q.zs,.int cell] S λr S'=>r=.bl true/\∃mv' a' b' ux' uo' c' P',mv'.length<=mv.length+1/\Jq g sL sR i q S' mv' a' b' ux' uo' c' P':=by
 have hL:LIM=100000:=rfl;have h:=J.pa;refine Ak rfl ?_;unfold DP;symm;refine⟨_,_,rfl,h.jp,W_ret.mpr ?_⟩;refine(Zq h1 hg h).mono ?_;rintro r0 S0 ⟨rfl,rfl⟩;generalize hL0:JP (Ek g sL a.m1) (Ek g sR b.m1) (EW b.w a.t) (EW a.w b.t)=l at hne⊢;have hll:l.length<=4:=by
  rw[<-hL0];have e1:=EJ (b:=Ek g sL a.m1) (k:="say") (s:=sL);have e2:=EJ (b:=Ek g sR b.m1) (k:="say") (s:=sR);have e3:=EJ (b:=EW b.w a.t) (k:="take") (s:=sL);have e4:=EJ (b:=EW a.w b.t) (k:="take") (s:=sR);unfold JP;rw[ue8,ue8,ue8];lia
 have hfl:(l.filter λp=>p.1==Str.ofString "say").length<=1:=by rw[<-hL0];exact V0 h.one
 symm;refine(JM l _).mono ?_;rintro xs t ⟨rfl,hS⟩;refine CG (by rw[ui3,hL];lia) ?_;rw[hS];symm;refine Ff (by rw[ui3];simp;lia) ?_;clear 5(T8 (F:=tpD) hne cell)e he hat;have hlp:0<l.length:=by cases l with|nil=>exact absurd rfl hne|cons _ _=>exact Nat.succ_pos _
 symm;rw[ui3];refine HR (by lia) ?_;symm;refine By hat ?_;unfold tpD;symm;obtain⟨x,o,i',a',b',ux',uo',J',hp,hx,hk,back⟩:∃(x o:Str) (i':Ip) (a' b':Vt) (ux' uo':Nat),Jq g x o i' q S0 mv a' b' ux' uo' c P/\i'.p=i.p/\e.2=x/\((e.1=Str.ofString "say"/\(Ap g (Aj g 0 a'.m1)).side=x)\/(e.1=Str.ofString "take"/\a'.t<b'.w.length))/\(∀S' mv' a'' b'' u v c' P',Jq g x o i' q S' mv' a'' b'' u v c' P'->∃a3 b3 u3 v3,Jq g sL sR i q S' mv' a3 b3 u3 v3 c' P'):=by
  rw[<-hL0] at he;rcases ui1.mp he with he|he<;>rcases ui1.mp he with he|he<;>clear 5(V1 he)hb rfl
  .exact⟨sL,sR,i,a,b,ux,uo,J,rfl,rfl,.inl ⟨rfl,by simpa using hb⟩,λS' mv' a'' b'' u v c' P' z=>⟨_,_,_,_,z⟩⟩
  .exact⟨sR,sL,i.swap,b,a,uo,ux,J.swap,rfl,rfl,.inl ⟨rfl,by simpa using hb⟩,λS' mv' a'' b'' u v c' P' z=>⟨_,_,_,_,z.swap⟩⟩
  .have:=ug4 hb;rw[ug9] at this;exact⟨sL,sR,i,a,b,ux,uo,J,rfl,rfl,.inr ⟨rfl,by lia⟩,λS' mv' a'' b'' u v c' P' z=>⟨_,_,_,_,z⟩⟩
  .have:=ug4 hb;rw[ug9] at this;exact⟨sR,sL,i.swap,b,a,uo,ux,J.swap,rfl,rfl,.inr ⟨rfl,by lia⟩,λS' mv' a'' b'' u v c' P' z=>⟨_,_,_,_,z.swap⟩⟩
 have h':=J'.pa;have hly:=Zp h';have hst:=df h';have jp':=h'.jp;rw[hp] at hly hst jp';have hwx:=Ft hT x mv 0 h'.ok;have hwo:=Ft hT o mv 0 h'.ok;rw[h'.ex,AE] at hwx;rw[h'.eo,AE] at hwo;rw[hx];refine By (YD h'.two) ?_;symm;rcases hk with⟨hk,hsd⟩|⟨hk,htl⟩
 .rw[hk];symm;have hlt:=h'.ltx hg;have hm2:=h'.vx.all hsd h'.two.ne;have hm1:a'.m1=mv:=by have:=h'.vx.e;rw[hm2,ui5] at this;exact this.symm
  rw[hm1] at hsd hlt;have hgs:=CK hg hlt;have hix:=C5 hlt;obtain⟨ws,e9⟩:∃ws,Ap g (Aj g 0 mv)=.st x ws:=by
   cases e:Ap g (Aj g 0 mv) with
   |fin=>rw[e] at hsd;rcases h'.two.x with q|q<;>(rw[q] at hsd;exact absurd hsd (by decide +kernel))
   |st s ws=>rw[e] at hsd;exact⟨ws,by rw[<-show s=x from hsd]⟩
  rw[e9] at hgs hix;rw[GS.d] at hix;have hw0:0<ws.length/\ws.length<=9:=by cases hgs with|st _ h1 h2 _ _=>exact⟨h1,h2⟩
  have g1:=uj7 (cell/3) (b:=(ws.length:Int)) (by lia);have g2:=uf2 (cell/3) (b:=(ws.length:Int)) (by lia);clear 5(ub6 g1)p hpe;have hpl:p<ws.length:=by lia
  have ew:ws[p]?=some ws[p]:=ub3 hpl;have hwd:wdAt g (Aj g 0 mv) p=ws[p]:=by unfold wdAt;rw[e9];show ws.getD p _=_;rw[ua8,ew];rfl
  have hdr:Dr 2 ws[p].2.1:=hT _ (Nf hlt) _ (by rw[e9];exact uh6 hpl);rw[hm1] at hst;refine⟨_,_,rfl,jp',W_ret.mpr ?_⟩;refine hst.mono ?_;rintro r0 S1 ⟨rfl,rfl⟩;symm;refine En (YE (F:=λn:Nat=>D.int (n:Int)) h'.two) ?_;symm;refine By hix ?_;symm;rw[ui3];refine HR (by lia) ?_;symm;rw[hpe];refine By (IT ew) ?_;unfold wdD;symm;refine(hv _ hdr.dep hdr.ok hdr.nar hdr.tin _ _).mono ?_;rintro r0 S2 ⟨e0,v,l2,rfl,hfit⟩;subst e0;have hm:MvOk g (Aj g 0 mv) p v:=⟨hlt,by rw[e9];exact hpl,by rw[hwd];exact hfit⟩;obtain⟨y,hy,_⟩:=Rg (Mc hg x (Aj g 0 mv) [(p,v)] ⟨hm,trivial⟩);rw[Ag,Ag,ui5,kQ hsd] at hy;have hy:mbQ g (Aj g 0 mv) p v=wD y:=hy;have hyl:=Ry hT hm;rw[hy,AE] at hyl;symm;have hdn:=aA (cf:=cf) (d:=.str o) hdS hg J' hm1 hm hsd hy (by lia) (by lia);rw[hp,hwd] at hdn;refine hdn.mono ?_;rintro r S3 ⟨rfl,a3,b3,J3⟩;symm;clear 5(back _ _ _ _ _ _ _ _ J3)a4 b4 u4 v4 J4;exact⟨rfl,_,_,_,_,_,_,_,by rw[ue8];exact um8 _,J4⟩
 .rw[hk];symm;refine⟨_,_,rfl,jp',W_ret.mpr ?_⟩;refine hly.mono ?_;rintro r0 S1 ⟨rfl,rfl⟩;symm;refine En (Rm (F:=λn:Nat=>D.int (n:Int)) h'.two) ?_;symm;have hdl:(b'.w.drop a'.t).length=b'.w.length-a'.t:=ug9;generalize (b'.w.drop a'.t).length=m at hdl⊢;have g1:=uj7 (cell/3) (b:=(m:Int)) (by lia);have g2:=uf2 (cell/3) (b:=(m:Int)) (by lia);clear 5(ub6 g1)p hpe;refine HR (by lia) ?_;symm;rw[hpe,show(1:Int)+(p:Int)=((1+p:Nat):Int) by lia];have hdn:=UT hdT hf hg J' (n:=1+p) (by lia) (by lia) (by lia) (by lia);rw[hp] at hdn;refine hdn.mono ?_;rintro r S3 ⟨rfl,a3,u3,c3,P3,J3,_,_⟩;symm;clear 5(back _ _ _ _ _ _ _ _ J3)a4 b4 u4 v4 J4;exact⟨rfl,_,_,_,_,_,_,_,un0 _,J4⟩
theorem bJ{g:Bool->Bool}{a b a' b':Int}(e1:a=a')(e2:b=b')(h:P (.bl (g true)) t):L2.W (eqS g (.tup [.int a,.int b]) (.tup [.int a',.int b'])) t P:=by
 subst e1 e2;exact LJ rfl (KI (n:=1) (λd hd=>by simp only[uk5,uh5,ky] at hd;rcases hd with rfl|rfl<;>exact NP) EQD (by decide)) h
theorem eH{f:M (List D)}{P:Out->T->Prop}(h:W f t λds t1=>∃d e,ds=[d,e]/\P .next ⟨(t1.env.set i (vw d)).set j (vw e),t1.S⟩):W (NE i j f) t P:=by
 unfold NE;refine W_bnd.mpr (h.mono ?_);rintro ds t1 ⟨d,e,rfl,p⟩;exact⟨_,_,rfl,p⟩
theorem Nh(w:List Nat):J2 (wD w):=λx hx=>by
 obtain⟨n,_,rfl⟩:=um4.mp hx;exact⟨_,rfl⟩
theorem UO{c:Nat}:Bc (zsD a b c)=zsD a b c:=by
 unfold Bc;simp only[ui8,List.foldl_nil];have e1:BJ [] kWi (.obj a)=[(kWi,.obj a)]:=by simp[BJ]
 have e2:BJ [(kWi,.obj a)] kCo (.obj b)=[(kWi,.obj a),(kCo,.obj b)]:=by
  unfold BJ;rw[kS (by simp only[uk9,ki,uk7,ug3];exact jb nWC)];rfl
 rw[e1,e2];unfold BJ;rw[kS (by simp only[uk9,ki,uk7,uj3,ug3,kT];exact⟨jb nWT,jb nCT⟩)];rfl
theorem aC:Due g [] 0 0 0:=⟨um8 _,um8 _,um8 _,.inl rfl⟩
theorem Xb(hg:GOk g){i:Ip}{S1 S2 S3:List Ob}{ul ur W P l r n:Nat}(h:Pa g sL sR i S1 [] ⟨[],[],0,[]⟩ ⟨[],[],0,[]⟩ ul ur)(h1:∀j,j<S1.length->S2[j]?=S1[j]?)(h2:S1.length<=S2.length)(R:Rdr S1.length S2 S1.length g [] [] 0 0 0 W P l r)(hn:S2.length=n)(h3:∀j,j<n->S3[j]?=S2[j]?)(hl:S3.length=n+4)
 (e0:S3[n]?=some (.dct (zsD (n+1) (n+2) (n+3)))) (e1:S3[n+1]?=some (.dct (lr (.lst []) (.lst [])))) (e2:S3[n+2]?=some (.dct (lr (.int (0:Nat)) (.int (0:Nat))))) (e3:S3[n+3]?=some (.lst [])):Jq g sL sR i ⟨S1.length,l,r,W,n,n+1,n+2,n+3⟩ S3 [] ⟨[],[],0,[]⟩ ⟨[],[],0,[]⟩ ul ur 0 P:=by
 clear 5 h.jX W1 P1 X;clear 5 h.jO W2 P2 O;have u1:=AX h.jU;have x1:=AX h.jx;have o1:=AX h.jo;have lx:=AX X.il;have lo:=AX O.il;have hW:=AX R.w;have hP:=AX R.p;have l0:=R.l0;have r0:=R.r0;have ll:=AX R.l;have lr':=AX R.r;have K1:Kx [] S1 S3:=⟨by lia,λj hj _=>(h3 j (by lia)).trans (h1 j hj)⟩;have k2:∀{j:Nat}{ob:Ob},S2[j]?=some ob->S3[j]?=some ob:=λ{j ob} e=>by
  have:=AX e;exact(h3 j (by lia)).trans e
 have hUW:W≠i.U:=λz=>by
  have e:=R.w;rw[z,h1 i.U u1,h.jU] at e;simp only[ug2,Ob.dct.injEq,lrF,lr,uj4,ju,D.obj.injEq,true_and,and_true] at e;have e1:onS sL ul ur=l:=e.1;have e2:ul=l:=e1;lia
 have hUP:P≠i.U:=λz=>by
  have e:=R.p;rw[z,h1 i.U u1,h.jU] at e;simp at e
 refine⟨h.keep K1 (λj m=>nomatch m),⟨e0,e1,e2,e3,aC,Rch.start hg,⟨um9 _,um9 _,um9 _,R.ne,k2 R.k,k2 R.w,k2 R.p,k2 R.l,k2 R.r⟩,⟨by show n+3≠l;lia,by show n+3≠r;lia⟩,by show n+2≠P;lia⟩,?_,?_⟩
 .intro j m;simp only[uk5,uh5,ky,kT] at m⊢;rcases m with rfl|rfl|rfl
  .exact⟨by lia,by lia,by lia,by lia⟩
  .exact⟨by lia,by lia,by lia,by lia⟩
  .exact⟨by lia,by lia,by lia,by lia⟩
 .intro j m;simp only[uk5,uh5,ky] at m;rcases m with rfl|rfl|rfl|rfl|rfl
  .lia
  .lia
  .lia
  .exact hUW
  .exact hUP
section
variable{g:List GS}{i:Ip}{q:Iq}{ns:List Int}
abbrev Lj(ns:List Int)(g:List GS)(i:Ip)(q:Iq)(e5 e6 e7 e8 e9 e10 e11 e12:Option Sl):List (Option Sl):=[vw (.scr ns),vw (.lst (g.map GS.d)),vw (.obj i.p),vw (.obj q.rk),vw (.obj q.zs),e5,e6,e7,e8,e9,e10,e11,e12]
end
theorem O4{r:List Ob}{o y:Ob}:(S++o::r).set S.length y=S++y::r:=by
 rw[List.set_append_right _ _ (um8 _),um6];rfl
theorem aT{A B C:List Ob}{w c t z:Ob}(hA:A=S++[Ob.dct []])(hB:B=(A++[Ob.dct []]).set A.length w)(hC:C=(B++[Ob.dct []]).set B.length c):(C++[t]).set S.length z=S++[z,w,c,t]/\A.length=S.length+1/\B.length=S.length+2/\C.length=S.length+3:=by
 rw[O4] at hB hC;subst hA hB hC;simp only[uf9,uh7,ui9,O4,ue8,ug6,uj1,true_and]
def UA(cf cd:Fn):M Out:=(Ah (Ax 8 (Ac (AF "Parley" (fnOf 1 1 Bs) (Aa 2) (ret [])) (fB (Ab (Ac (Aa 7) (fC (.str "right")) (eqS id)) Ad) GO) ixD))
 (ifS (Hu (Ao (Ac (Aa 8) (gb 0) gtA)) (CD (Ao (Am (fnOf 5 7 (BU cf cd)) (Ab (Aa 2) (Ab (Aa 3) (Ab (Aa 4) (Ab (AT (Ab (fC (.str "take")) (Ab (Aa 6) (Ab (Aa 8) Ad)))) (Ab (Aa 7) Ad)))))))))
   (An (fC (.bl false)))
   Aq))
theorem Sz(hdT:Fv JH cd)(hf:EM cf){g:List GS}(hg:GOk g)(hT:∀x∈g,Tin x){i i':Ip}{q:Iq}{S:List Ob}{mv:List Mv}{a b:Vt}{ux uo c P:Nat}{x o:Str}(J:Jq g x o i' q S mv a b ux uo c P)(hp:i'.p=i.p)(hml:mv.length<=400){ns:List Int}{e5 e8 e9 e10 e11 e12:Option Sl} :
 L2.W (UA cf cd) ⟨Lj ns g i q e5 (vw (.str x)) (vw (.str o)) e8 e9 e10 e11 e12,S⟩ λout t=>out=.next/\∃S' a' uo' c' P' e8',Jq g x o i' q S' mv a' b ux uo' c' P'/\a'.t=b.w.length/\a'.w=a.w/\t=⟨Lj ns g i q e5 (vw (.str x)) (vw (.str o)) e8' e9 e10 e11 e12,S'⟩:=by
 have h:=J.pa;have hly:=Zp h;have jp:=h.jp;rw[hp] at hly jp;have hwx:=Ft hT x mv 0 h.ok;have hwo:=Ft hT o mv 0 h.ok;rw[h.ex,AE] at hwx;rw[h.eo,AE] at hwo;have htx:=h.vx.t;have hdl:(b.w.drop a.t).length=b.w.length-a.t:=ug9;unfold UA;symm;refine⟨_,_,rfl,jp,W_ret.mpr ?_⟩;refine hly.mono ?_;rintro r0 S1 ⟨rfl,rfl⟩;symm;refine En (Rm (F:=λn:Nat=>D.int (n:Int)) h.two) ?_;symm;generalize (b.w.drop a.t).length=m at hdl⊢
 by_cases hm:m=0
 .refine Ff (by simp[hm]) ?_;symm;exact⟨rfl,_,a,uo,c,P,_,J,by lia,rfl,rfl⟩
 .refine Gh (by simp;lia) ?_;symm;have hdn:=UT hdT hf hg J (n:=m) (by lia) (by lia) (by lia) (by lia);rw[hp] at hdn;refine hdn.mono ?_;rintro r S3 ⟨rfl,a3,u3,c3,P3,J3,t3,w3⟩;symm;exact⟨rfl,S3,a3,u3,c3,P3,_,J3,by lia,w3,rfl⟩
theorem OQ{g:List GS}(hg:GOk g):∀{mv:List Mv}{q:Nat},okQ g q mv->∀x∈AB g q mv,nvO 4 x=true
 |[],_,_,x,h=>nomatch h
 |(p,v)::r,q,hk,x,h=>by
   rw[okQ] at hk;rcases uk5.mp h with e|m
   .have hw:=E8 hg hk.1.lt hk.1.pl;have h3:=Gb 3 _ hw.dep hw.ok v hk.1.fit;subst e;unfold ED;simp[nvO,h3]
   .exact OQ hg hk.2 x m
theorem aS{cd2 cf2 cv co2 co3 ci cs cg cwh ctb cwo:Fn}(hdT:Fv JH cd)(hf:EM cf)(hdS2:Ic arD cd2)(hdT2:Fv JH cd2)(hf2:EM cf2)(hv:K5 cv 3)(h1:Eu co)(h12:Eu co2)(h13:Eu co3)(hc:Pc cc)(hi:My ci)(hs:J8 cs)(he:EG ce)(hgr:GrN cg)(hwh:JG cwh)(htb:K4 ctb)(hwo:MH cwo)(hb:Hj cb){ns:List Int}(hns:ns.length<=63) :
 Wf (fnOf 1 13 (IE (fnOf 1 3 (Dy (fnOf 1 1 Bs) (fnOf 1 1 (Cl co3 (fnOf 2 2 Ch))) (fnOf 1 1 (B8 ce)))) cwh (fnOf 1 1 Bl) ctb (fnOf 1 1 (BT (fnOf 1 1 Bl))) cwo cb (fnOf 5 7 (BU cf cd)) (fnOf 1 1 Bs) cc
  (fnOf 5 14 (DP cv (fnOf 5 7 (BU cf2 cd2)) (fnOf 1 1 (BT (fnOf 1 1 Bl))) (fnOf 1 1 Bs) (fnOf 1 3 (Dh co2 (fnOf 2 2 Bo) (fnOf 1 1 BH))))) (fnOf 1 3 (Dh co (fnOf 2 2 Bo) (fnOf 1 1 BH))) ci (fnOf 2 2 (DN cs)) cg)) [.scr ns] [] λr _=>r=.bl true:=by
 have hL:LIM=100000:=rfl;refine Ak rfl ?_;unfold IE;symm;refine(hgr ns []).mono ?_;rintro r S0 ⟨e0,g,rfl,hg,hg6,hT9⟩;subst e0;have hT:∀x∈g,Tin x:=λx h=>(hT9 x h).1;symm;refine(a9 hs hg).mono ?_;rintro r S1 ⟨rfl,_,⟨kx,lx,ko,lo,p,U⟩,ul,ur,hip,_,h⟩;have hip:p=0:=hip;subst hip;refine⟨rfl,?_⟩;symm;refine(hi (S1++[.ins "Reader" []]) S1.length g hg BC).mono ?_;rintro r S2 ⟨rfl,k1,k2,W,P,l,r,R⟩;refine⟨rfl,?_⟩;symm;refine HN ?_;refine Bp ?_;refine HN ?_;refine Bp ?_;symm;refine Bp ?_;symm;refine D7 ?_;refine⟨by simp,by show 2<=15;decide,?_⟩;refine Bp ?_;refine HN ?_;refine Bp ?_;symm;refine Bp ?_;symm;refine D7 ?_;refine⟨by simp,by show 2<=15;decide,?_⟩;refine Bp ?_;symm;refine D7 ?_;refine⟨?_,by show 3<=15;decide,?_⟩
 .simp
 obtain⟨A,hA⟩:∃A,A=S2++[Ob.dct []]:=⟨_,rfl⟩;obtain⟨B,hB⟩:∃B,B=(A++[Ob.dct []]).set A.length (.dct (lr (.lst []) (.lst []))):=⟨_,rfl⟩;obtain⟨C,hC⟩:∃C,C=(B++[Ob.dct []]).set B.length (.dct (lr (.int (0:Nat)) (.int (0:Nat)))):=⟨_,rfl⟩;obtain⟨n,hn⟩:∃n,S2.length=n:=⟨_,rfl⟩;clear 5(aT (t:=.lst []) (z:=.dct (zsD (n+1) (n+2) (n+3))) hA hB hC)hS la lb lc;refine FE ?_;show L2.W _ ⟨Lj ns g ⟨kx,lx,ko,lo,0,U⟩ ⟨S1.length,l,r,W,S2.length,n+1,n+2,n+3⟩ none none none none none none none none,((((((S2++[Ob.dct []])++[Ob.dct []]).set (S2++[Ob.dct []]).length (.dct (Bc (lr (.lst []) (.lst [])))))++[Ob.dct []]).set (((S2++[Ob.dct []])++[Ob.dct []]).set (S2++[Ob.dct []]).length (.dct (Bc (lr (.lst []) (.lst []))))).length (.dct (Bc (lr (.int (0:Nat)) (.int (0:Nat))))))++[Ob.lst []]).set S2.length (.dct (Bc (zsD (S2++[Ob.dct []]).length (((S2++[Ob.dct []])++[Ob.dct []]).set (S2++[Ob.dct []]).length (.dct (Bc (lr (.lst []) (.lst []))))).length (((((S2++[Ob.dct []])++[Ob.dct []]).set (S2++[Ob.dct []]).length (.dct (Bc (lr (.lst []) (.lst [])))))++[Ob.dct []]).set (((S2++[Ob.dct []])++[Ob.dct []]).set (S2++[Ob.dct []]).length (.dct (Bc (lr (.lst []) (.lst []))))).length (.dct (Bc (lr (.int (0:Nat)) (.int (0:Nat)))))).length)))⟩ _;rw[hn] at hS la lb lc;rw[Fg,Fg,UO,<-hA,<-hB,<-hC,la,lb,lc,hn,hS];have J0:=Xb hg h (S2:=S2) (S3:=S2++[.dct (zsD (n+1) (n+2) (n+3)),.dct (lr (.lst []) (.lst [])),.dct (lr (.int (0:Nat)) (.int (0:Nat))),.lst []]) (λj hj=>(k1 j (by rw[ue8];lia) (by lia)).trans (ub0 hj)) (by rw[ue8] at k2;lia) R hn (λj hj=>ub0 (by lia)) (by rw[ue8,hn];rfl)
  (by rw[ua6 (by lia),hn,um6];rfl) (by rw[ua6 (by lia),hn,ub7];rfl) (by rw[ua6 (by lia),hn,ub7];rfl) (by rw[ua6 (by lia),hn,ub7];rfl)
 generalize S2++[Ob.dct (zsD (n+1) (n+2) (n+3)),.dct (lr (.lst []) (.lst [])),.dct (lr (.int (0:Nat)) (.int (0:Nat))),.lst []]=S3 at J0⊢;generalize (⟨kx,lx,ko,lo,0,U⟩:Ip)=i at J0⊢;generalize (⟨S1.length,l,r,W,n,n+1,n+2,n+3⟩:Iq)=q at J0⊢;clear hS hA hB hC la lb lc h k1 k2 R hn;symm;have hh:(14:Int)<=(if (if 51<(ns.length:Int) then 51 else(ns.length:Int)) > 14 then if 51<(ns.length:Int) then 51 else(ns.length:Int) else 14)/\(if (if 51<(ns.length:Int) then 51 else(ns.length:Int)) > 14 then if 51<(ns.length:Int) then 51 else(ns.length:Int) else 14)<=51:=by lia
 generalize (if (if 51<(ns.length:Int) then 51 else(ns.length:Int)) > 14 then if 51<(ns.length:Int) then 51 else(ns.length:Int) else 14)=H at hh⊢;refine UH (by rw[BO (by decide) (by decide),BO (by lia) (by lia)];rfl) ?_;refine L2.W.mono (Dn (P:=λo t=>o=.next/\∃(S:List Ob) (mv:List Mv) (a b:Vt) (ux uo c P:Nat) (e5:Option Sl),mv.length<=40/\Jq g sL sR i q S mv a b ux uo c P/\t=⟨Lj ns g i q e5 none none none none none none none,S⟩) (λrs t=>∃(S:List Ob) (mv:List Mv) (a b:Vt) (ux uo c P:Nat) (e5:Option Sl),mv.length+rs.length<=40/\Jq g sL sR i q S mv a b ux uo c P/\t=⟨Lj ns g i q e5 none none none none none none none,S⟩) _ _ ?_ ?_ ?_) ?_
 .exact⟨S3,[],_,_,ul,ur,0,P,none,by rw[D4];show 0+_<=40;lia,J0,rfl⟩
 .rintro d rs t ⟨S,mv,a,b,ux,uo,c,P,e5,hl,J,rfl⟩ hd;obtain⟨j,rfl,hj0,hj1⟩:∃j:Int,d=.int j/\0<=j/\j<=1000:=by
   rw[LB] at hd;clear 5(um4.mp hd)j hj rfl;rw[uj9] at hj;exact⟨_,rfl,by lia,by lia⟩
  rw[ug6] at hl;clear 5(hc ns j hj0 hj1)cl hcl;symm;refine⟨_,_,rfl,J.pa.jp,W_ret.mpr ?_⟩;refine(Zq h1 hg J.pa).mono ?_;rintro r0 S4 ⟨rfl,rfl⟩;symm
  cases hl0:JP (Ek g sL a.m1) (Ek g sR b.m1) (EW b.w a.t) (EW a.w b.t) with
  |nil=>
    refine Gh rfl ?_;refine W_ret.mpr ?_;exact⟨rfl,_,mv,a,b,ux,uo,c,P,_,by lia,J,rfl⟩
  |cons e l9=>
    refine Ff rfl ?_;symm;refine hcl.use ?_;symm;refine(ZX hdS2 hdT2 hf2 hv h12 hg hT J (by lia) (by rw[hl0];exact List.cons_ne_nil _ _)).mono ?_;rintro r S5 ⟨rfl,mv',a',b',u',v',c',P',hl',J'⟩;symm;exact⟨S5,mv',a',b',u',v',c',P',_,by lia,J',rfl⟩
 .rintro t ⟨S,mv,a,b,ux,uo,c,P,e5,hl,J,rfl⟩;exact⟨rfl,S,mv,a,b,ux,uo,c,P,e5,by lia,J,rfl⟩
 rintro o0 t0 ⟨rfl,S4,mv,a,b,ux,uo,c,P4,e5,hml,J,rfl⟩;symm;refine L2.W.mono (?_:L2.W (CF (unS 2 (A8 (AS 6) (A8 (AS 7) CW))) (UA cf cd) [D.tup [D.str (Str.ofString "left"),D.str (Str.ofString "right")],D.tup [D.str (Str.ofString "right"),D.str (Str.ofString "left")]]) _ λout t=>out=.next/\∃(S:List Ob) (a b:Vt) (ux uo c P:Nat) (e5 e6 e7 e8:Option Sl),Jq g sL sR i q S mv a b ux uo c P/\a.t=b.w.length/\b.t=a.w.length/\t=⟨Lj ns g i q e5 e6 e7 e8 none none none none,S⟩) ?_
 .refine W_forL_cons.mpr ?_;symm;refine(Sz hdT hf hg hT J rfl (by lia)).mono ?_;rintro out t ⟨rfl,S5,a5,u5,c5,P5,e8,J5,t5,w5,rfl⟩;show L2.W _ _ _;refine W_forL_cons.mpr ?_;symm;refine(Sz hdT hf hg hT (i:=i) J5.swap rfl (by lia)).mono ?_;rintro out t ⟨rfl,S6,a6,u6,c6,P6,e9,J6,t6,w6,rfl⟩;show L2.W _ _ _;refine W_forL_nil.mpr ?_;exact⟨rfl,S6,a5,a6,u6,u5,c6,P6,_,_,_,_,J6.swap,by rw[w6];exact t5,t6,rfl⟩
 rintro out t ⟨rfl,S6,a6,b6,u6,v6,c6,P6,f5,f6,f7,f8,J6,ta,tb,rfl⟩;have h:=J6.pa;have R:Rj g q S6 mv a6.w b6.w b6.t a6.t c6 P6:=J6.rj;have ea:a6.m1=mv:=h.vx.done (by rw[h.eo,AE,ta]);have eb:b6.m1=mv:=h.vo.done (by rw[h.ex,AE,tb]);have hce:c6=mv.length:=Vn h.ex.symm h.eo.symm hg h.ok (by have:=R.du;rw[tb,ta] at this;exact this);have hwx:=Ft hT sL mv 0 h.ok;have hwo9:=Ft hT sR mv 0 h.ok;have hxl:=h.lx;have hol:=h.swap.lx;symm;refine Bj R.jz au ?_;symm;refine Ql R.jt ?_;symm;refine(hb g mv hg h.ok (by lia)).use ?_;symm;refine eH ?_;symm;refine Bj R.jz N6 ?_;symm;refine Bj R.jw G9 ?_;symm;refine Bj R.jz N6 ?_;symm;refine Bj R.jw Ha ?_;symm;refine⟨_,_,rfl,?_⟩;symm;refine⟨_,_,rfl,h.jp,W_ret.mpr ?_⟩;refine(Lw h).mono ?_;rintro r0 S7 ⟨rfl,rfl⟩;rw[ea,eb];symm;refine bJ rfl rfl ?_;symm;refine Ql R.jt ?_;symm;refine(hwo g mv S7 hg h.ok (by lia) (by lia) (by lia)).mono ?_;rintro r2 S8 ⟨K2,A2,B2,rfl,w,G2,_,_⟩;rw[h.ex,h.eo] at w;symm;refine af (d:=.tup [.lst (wD a6.w),.lst (wD b6.w)]) (WF w.a w.b) (by simp only[E4,uk6,um1,DG]) (by simp only[BM,Fo,L5 (Nh _),ul4]) (Vr (Nh _) (Nh _)) ?_;symm;have hwa:=UI hg h.ok [] [] h.ex.symm h.eo.symm (.inl ⟨rfl,rfl⟩);rw[ui5,ui5] at hwa;refine(htb g a6.w b6.w S8 _ _ _ _ hg (by lia) (by lia) hwa).mono ?_;rintro r3 S9 ⟨G3,rfl⟩;have t9:=G3.get (G2.get R.jt);have R9:=G3.get (G2.get R.rd.k);have p9:=h.keep (F:=[]) ⟨ul9 G2.1 G3.1,λj hj _=>(G3.2 j (ue4 hj G2.1)).trans (G2.2 j hj)⟩ (λj m=>nomatch m);symm;rw[AE,AE];refine af (d:=.tup [.lst (AB g 0 mv),.int (Aj g 0 mv:Nat),.tup [.int (a6.w.length:Nat),.int (b6.w.length:Nat)]]) (by simp only[E4,uk6,um1,DG]) (by simp only[E4,uk6,um1,DG,t9]) (by simp only[BM,Fo,Lx (λx hx=>NJ 4 x (OQ hg h.ok x hx)),ul4]) (KI (n:=9) (XD (Sc (n:=8) (IR hg h.ok)) NP (KI (n:=8) (λd hd=>by simp only[uk5,uh5,ky] at hd;rcases hd with rfl|rfl<;>exact NP))) EQD (by decide)) ?_;symm;refine⟨_,_,rfl,p9.jp,W_ret.mpr ?_⟩;refine(bb h13 he hg p9 ea eb ta tb).mono ?_;rintro r0 S10 ⟨rfl,rfl⟩;symm;refine Ql t9 ?_;symm;refine(hwh g mv hg h.ok (by lia)).use ?_;symm;refine Gh (by simp) ?_;symm;refine⟨_,_,rfl,R9,W_ret.mpr ?_⟩;have R10:Rdr 0 S10 q.rk g _ _ _ _ _ q.W P6 q.rl q.rr:=⟨um9 _,um9 _,um9 _,R.rd.ne,R9,G3.get (G2.get R.rd.w),G3.get (G2.get R.rd.p),G3.get (G2.get R.rd.l),G3.get (G2.get R.rd.r)⟩;refine(Se R10).mono ?_;rintro r0 S11 ⟨rfl,rfl⟩;rw[hce,uh8];symm;simp
end LW
namespace L2
open PySem PySem.Spec PySem.W
theorem TW{k:Kd}{P:gi}{w:gj}{K:gd}{mg:Str->Option gf}{base:Heap}{n:Nat}{fa:gg}{fd:gk}{ps:List Str}:okK k P w K mg base n fa fd ps (λ_ _=>none):=by
 cases k<;>exact⟨λvs H Q E h=>(by obtain⟨c,ds,S,_,_,r,S',e,_⟩:=h;cases e),λA' outer s H args us vs Q E _ _ _ _ h=>(by obtain⟨c,ds,S,_,_,r,S',e,_⟩:=h;cases e)⟩
theorem us0{n:Nat}:∀{us:List gf},us.length=n+1->∃a vs,us=a::vs/\vs.length=n
 |_::_,h=>⟨_,_,rfl,Nat.succ.inj h⟩
section
variable{us:List gf}
theorem us1(h:us.length=1):∃a,us=[a]:=by
 clear 5(us0 h)a vs rfl q;exact⟨a,by rw[ua1 q]⟩
theorem us2(h:us.length=2):∃a b,us=[a,b]:=by
 obtain⟨_,vs,rfl,q⟩:=us0 h;obtain⟨_,rfl⟩:=us1 q;exact⟨_,_,rfl⟩
theorem us3(h:us.length=3):∃a b c,us=[a,b,c]:=by
 obtain⟨_,vs,rfl,q⟩:=us0 h;obtain⟨_,_,rfl⟩:=us2 q;exact⟨_,_,_,rfl⟩
theorem us4(h:us.length=4):∃a b c d,us=[a,b,c,d]:=by
 obtain⟨_,vs,rfl,q⟩:=us0 h;obtain⟨_,_,_,rfl⟩:=us3 q;exact⟨_,_,_,_,rfl⟩
theorem us5(h:us.length=5):∃a b c d e,us=[a,b,c,d,e]:=by
 obtain⟨_,vs,rfl,q⟩:=us0 h;obtain⟨_,_,_,_,rfl⟩:=us4 q;exact⟨_,_,_,_,_,rfl⟩
theorem us6(h:us.length=6):∃a b c d e f,us=[a,b,c,d,e,f]:=by
 obtain⟨_,vs,rfl,q⟩:=us0 h;obtain⟨_,_,_,_,_,rfl⟩:=us5 q;exact⟨_,_,_,_,_,_,rfl⟩
theorem us7(h:us.length=7):∃a b c d e f g,us=[a,b,c,d,e,f,g]:=by
 obtain⟨_,vs,rfl,q⟩:=us0 h;obtain⟨_,_,_,_,_,_,rfl⟩:=us6 q;exact⟨_,_,_,_,_,_,_,rfl⟩
end
end L2
namespace K38
open PySem L2 LW
inductive Fx where
 |FC|CT|Be|EV|CS|Dw|Dt|Du|Cs|BN|C1|BS|Cg|Ci|Dm|De|Dk|BZ|BD|BW|B0|Dx|BL|C3|BR|Cy|DF|D5|DC|DE|Cw|Dl|BE|D6|C7|B1|BB|Fe|Dv|CP|C4|Cb|Cc|BY|CQ|Dq|law_|AC|As|Au|Ar|AN|AZ|Bg|A3|Bi|Bd|Bb|A0|AW|AU|AV|AI|AQ|AA|A9|Av|Aw|A5|AH|AJ|AM
noncomputable def top(i:Nat):Stmt:=PySem.Challenge.pw_wireparley_k38_whole_parleys_are_talks.main.body.getD i (.Pass ⟨0,0,0,0⟩)
noncomputable abbrev nm:Fx->Str
 |.FC=>"_wall"
 |.CT=>"is_number"
 |.Be=>"is_number_within"
 |.EV=>"fits"
 |.CS=>"fits_text"
 |.Dw=>"is_sign"
 |.Dt=>"fits_list"
 |.Du=>"fits_pair"
 |.Cs=>"fits_choice"
 |.BN=>"state_behind"
 |.C1=>"steps_of"
 |.BS=>"state_next"
 |.Cg=>"place_said"
 |.Ci=>"place_named"
 |.Dm=>"words_of"
 |.De=>"is_end"
 |.Dk=>"is_whole"
 |.BZ=>"grammar_copy"
 |.BD=>"fitting_bytes"
 |.BW=>"width_up_to"
 |.B0=>"number_bytes"
 |.Dx=>"leading"
 |.BL=>"read_value"
 |.C3=>"byte_at"
 |.BR=>"byte_up_to"
 |.Cy=>"read_number"
 |.DF=>"read_text"
 |.D5=>"sign_at"
 |.DC=>"read_list"
 |.DE=>"read_pair"
 |.Cw=>"read_choice"
 |.Dl=>"wires_of"
 |.BE=>"message_bytes"
 |.D6=>"talk_by"
 |.C7=>"read_on"
 |.B1=>"read_message"
 |.BB=>"other_side"
 |.Fe=>"is_act"
 |.Dv=>"is_one_of"
 |.CP=>"_law_cell"
 |.C4=>"_law_mixed"
 |.Cb=>"_law_shape"
 |.Cc=>"_law_value"
 |.BY=>"_law_grammar"
 |.CQ=>"_law_done"
 |.Dq=>"_law_step"
 |.law_=>"law"
 |.AC=>"__init__"
 |.As=>"state"
 |.Au=>"hear"
 |.Ar=>"unread_of"
 |.AN=>"__init__"
 |.AZ=>"feed"
 |.Bg=>"unread"
 |.A3=>"__init__"
 |.Bi=>"say"
 |.Bd=>"take"
 |.Bb=>"speak"
 |.A0=>"listen"
 |.AW=>"waiting"
 |.AU=>"may_say"
 |.AV=>"shape_to_say"
 |.AI=>"has_ended"
 |.AQ=>"__init__"
 |.AA=>"of_side"
 |.A9=>"do"
 |.Av=>"do_saying"
 |.Aw=>"do_taking"
 |.A5=>"may"
 |.AH=>"is_over"
 |.AJ=>"states"
 |.AM=>"lying"
abbrev ql:Fx->Str
 |.AC=>"Hearer.__init__"
 |.As=>"Hearer.state"
 |.Au=>"Hearer.hear"
 |.Ar=>"Hearer.unread_of"
 |.AN=>"Reader.__init__"
 |.AZ=>"Reader.feed"
 |.Bg=>"Reader.unread"
 |.A3=>"Side.__init__"
 |.Bi=>"Side.say"
 |.Bd=>"Side.take"
 |.Bb=>"Side.speak"
 |.A0=>"Side.listen"
 |.AW=>"Side.waiting"
 |.AU=>"Side.may_say"
 |.AV=>"Side.shape_to_say"
 |.AI=>"Side.has_ended"
 |.AQ=>"Parley.__init__"
 |.AA=>"Parley.of_side"
 |.A9=>"Parley.do"
 |.Av=>"Parley.do_saying"
 |.Aw=>"Parley.do_taking"
 |.A5=>"Parley.may"
 |.AH=>"Parley.is_over"
 |.AJ=>"Parley.states"
 |.AM=>"Parley.lying"
 |x=>nm x
noncomputable abbrev me:Fx->Bool
 |.AC=>true
 |.As=>true
 |.Au=>true
 |.Ar=>true
 |.AN=>true
 |.AZ=>true
 |.Bg=>true
 |.A3=>true
 |.Bi=>true
 |.Bd=>true
 |.Bb=>true
 |.A0=>true
 |.AW=>true
 |.AU=>true
 |.AV=>true
 |.AI=>true
 |.AQ=>true
 |.AA=>true
 |.A9=>true
 |.Av=>true
 |.Aw=>true
 |.A5=>true
 |.AH=>true
 |.AJ=>true
 |.AM=>true
 |_=>false
noncomputable abbrev ow:Fx->Str
 |.AC=>"Hearer"
 |.As=>"Hearer"
 |.Au=>"Hearer"
 |.Ar=>"Hearer"
 |.AN=>"Reader"
 |.AZ=>"Reader"
 |.Bg=>"Reader"
 |.A3=>"Side"
 |.Bi=>"Side"
 |.Bd=>"Side"
 |.Bb=>"Side"
 |.A0=>"Side"
 |.AW=>"Side"
 |.AU=>"Side"
 |.AV=>"Side"
 |.AI=>"Side"
 |.AQ=>"Parley"
 |.AA=>"Parley"
 |.A9=>"Parley"
 |.Av=>"Parley"
 |.Aw=>"Parley"
 |.A5=>"Parley"
 |.AH=>"Parley"
 |.AJ=>"Parley"
 |.AM=>"Parley"
 |_=>""
abbrev st:Fx->Stmt
 |.FC=>top 0
 |.CT=>top 11
 |.Be=>top 12
 |.EV=>top 13
 |.CS=>top 14
 |.Dw=>top 15
 |.Dt=>top 16
 |.Du=>top 17
 |.Cs=>top 18
 |.BN=>top 20
 |.C1=>top 21
 |.BS=>top 22
 |.Cg=>top 23
 |.Ci=>top 24
 |.Dm=>top 25
 |.De=>top 26
 |.Dk=>top 27
 |.BZ=>top 28
 |.BD=>top 31
 |.BW=>top 32
 |.B0=>top 33
 |.Dx=>top 34
 |.BL=>top 35
 |.C3=>top 36
 |.BR=>top 37
 |.Cy=>top 38
 |.DF=>top 39
 |.D5=>top 40
 |.DC=>top 41
 |.DE=>top 42
 |.Cw=>top 43
 |.Dl=>top 45
 |.BE=>top 46
 |.D6=>top 47
 |.C7=>top 48
 |.B1=>top 49
 |.BB=>top 55
 |.Fe=>top 58
 |.Dv=>top 59
 |.CP=>top 61
 |.C4=>top 62
 |.Cb=>top 63
 |.Cc=>top 64
 |.BY=>top 67
 |.CQ=>top 68
 |.Dq=>top 69
 |.law_=>top 70
 |.AC=>Bq (top 51) 0
 |.As=>Bq (top 51) 1
 |.Au=>Bq (top 51) 2
 |.Ar=>Bq (top 51) 3
 |.AN=>Bq (top 52) 0
 |.AZ=>Bq (top 52) 1
 |.Bg=>Bq (top 52) 2
 |.A3=>Bq (top 56) 0
 |.Bi=>Bq (top 56) 1
 |.Bd=>Bq (top 56) 2
 |.Bb=>Bq (top 56) 3
 |.A0=>Bq (top 56) 4
 |.AW=>Bq (top 56) 5
 |.AU=>Bq (top 56) 6
 |.AV=>Bq (top 56) 7
 |.AI=>Bq (top 56) 8
 |.AQ=>Bq (top 57) 0
 |.AA=>Bq (top 57) 1
 |.A9=>Bq (top 57) 2
 |.Av=>Bq (top 57) 3
 |.Aw=>Bq (top 57) 4
 |.A5=>Bq (top 57) 5
 |.AH=>Bq (top 57) 6
 |.AJ=>Bq (top 57) 7
 |.AM=>Bq (top 57) 8
noncomputable abbrev ps:Fx->List Str
 |.FC=>["k"]
 |.CT=>["thing"]
 |.Be=>["thing", "low", "high"]
 |.EV=>["s", "thing"]
 |.CS=>["s", "thing"]
 |.Dw=>["number"]
 |.Dt=>["s", "thing"]
 |.Du=>["s", "thing"]
 |.Cs=>["s", "thing"]
 |.BN=>["g", "talk"]
 |.C1=>["g", "talk"]
 |.BS=>["g", "step"]
 |.Cg=>["state", "thing"]
 |.Ci=>["state", "thing"]
 |.Dm=>["state"]
 |.De=>["state"]
 |.Dk=>["g", "talk"]
 |.BZ=>["g"]
 |.BD=>["s", "value"]
 |.BW=>["most"]
 |.B0=>["number", "width"]
 |.Dx=>["number", "cut"]
 |.BL=>["s", "wire", "at"]
 |.C3=>["wire", "at"]
 |.BR=>["most", "wire", "at"]
 |.Cy=>["s", "wire", "at"]
 |.DF=>["s", "wire", "at"]
 |.D5=>["wire", "at"]
 |.DC=>["s", "wire", "at"]
 |.DE=>["s", "wire", "at"]
 |.Cw=>["s", "wire", "at"]
 |.Dl=>["g", "talk"]
 |.BE=>["state", "place", "value"]
 |.D6=>["g", "left", "right"]
 |.C7=>["g", "state", "wires", "places"]
 |.B1=>["state", "wire", "at"]
 |.BB=>["side"]
 |.Fe=>["thing", "kind", "parts"]
 |.Dv=>["thing", "texts"]
 |.CP=>["script", "k"]
 |.C4=>["cell", "k"]
 |.Cb=>["cell", "depth"]
 |.Cc=>["shape", "cell"]
 |.BY=>["script", "start", "ends"]
 |.CQ=>["parley", "reader", "stands", "act", "other"]
 |.Dq=>["grammar", "parley", "reader", "stands", "cell"]
 |.law_=>["script"]
 |.AC=>["self", "g", "sides"]
 |.As=>["self"]
 |.Au=>["self", "side", "piece"]
 |.Ar=>["self", "side"]
 |.AN=>["self", "g"]
 |.AZ=>["self", "side", "piece"]
 |.Bg=>["self"]
 |.A3=>["self", "g", "side"]
 |.Bi=>["self", "name", "value"]
 |.Bd=>["self", "piece"]
 |.Bb=>["self", "name", "value"]
 |.A0=>["self", "piece"]
 |.AW=>["self"]
 |.AU=>["self"]
 |.AV=>["self", "name"]
 |.AI=>["self"]
 |.AQ=>["self", "g"]
 |.AA=>["self", "side"]
 |.A9=>["self", "act"]
 |.Av=>["self", "side", "name", "value"]
 |.Aw=>["self", "side", "n"]
 |.A5=>["self"]
 |.AH=>["self"]
 |.AJ=>["self"]
 |.AM=>["self"]
noncomputable abbrev ns:Fx->List Str
 |.FC=>["k"]
 |.CT=>["thing"]
 |.Be=>["thing", "low", "high"]
 |.EV=>["s", "thing", "kind"]
 |.CS=>["s", "thing", "sign"]
 |.Dw=>["number"]
 |.Dt=>["s", "thing", "part"]
 |.Du=>["s", "thing"]
 |.Cs=>["s", "thing"]
 |.BN=>["g", "talk", "steps"]
 |.C1=>["g", "talk", "state", "steps", "k", "place", "step"]
 |.BS=>["g", "step"]
 |.Cg=>["state", "thing", "place"]
 |.Ci=>["state", "thing", "words", "place"]
 |.Dm=>["state"]
 |.De=>["state"]
 |.Dk=>["g", "talk"]
 |.BZ=>["g"]
 |.BD=>["s", "value", "kind", "row", "thing"]
 |.BW=>["most"]
 |.B0=>["number", "width"]
 |.Dx=>["number", "cut"]
 |.BL=>["s", "wire", "at", "kind"]
 |.C3=>["wire", "at"]
 |.BR=>["most", "wire", "at", "byte"]
 |.Cy=>["s", "wire", "at", "most", "width", "number", "k"]
 |.DF=>["s", "wire", "at", "length", "place", "text", "k"]
 |.D5=>["wire", "at", "number"]
 |.DC=>["s", "wire", "at", "length", "place", "things", "k", "part"]
 |.DE=>["s", "wire", "at", "first", "second"]
 |.Cw=>["s", "wire", "at", "k", "part"]
 |.Dl=>["g", "talk", "wires", "steps", "k", "state"]
 |.BE=>["state", "place", "value"]
 |.D6=>["g", "left", "right", "read"]
 |.C7=>["g", "state", "wires", "places", "talk", "standing", "behind", "side", "read"]
 |.B1=>["state", "wire", "at", "word", "read", "e"]
 |.BB=>["side"]
 |.Fe=>["thing", "kind", "parts"]
 |.Dv=>["thing", "texts"]
 |.CP=>["script", "k"]
 |.C4=>["cell", "k", "number"]
 |.Cb=>["cell", "depth", "kind", "low", "one", "other"]
 |.Cc=>["shape", "cell", "kind", "many", "size", "text", "found", "k", "one", "other"]
 |.BY=>["script", "start", "ends", "many", "grammar", "k", "cell", "kind", "words", "j", "then", "shape"]
 |.CQ=>["parley", "reader", "stands", "act", "other", "found", "come"]
 |.Dq=>["grammar", "parley", "reader", "stands", "cell", "may", "kind", "side", "other", "many", "words", "name", "shape", "then"]
 |.law_=>["script", "grammar", "parley", "reader", "stands", "k", "side", "other", "many", "talk", "state", "left", "right"]
 |.AC=>["self", "g", "sides", "side"]
 |.As=>["self"]
 |.Au=>["self", "side", "piece", "read"]
 |.Ar=>["self", "side"]
 |.AN=>["self", "g"]
 |.AZ=>["self", "side", "piece"]
 |.Bg=>["self"]
 |.A3=>["self", "g", "side"]
 |.Bi=>["self", "name", "value"]
 |.Bd=>["self", "piece"]
 |.Bb=>["self", "name", "value", "state", "place"]
 |.A0=>["self", "piece"]
 |.AW=>["self"]
 |.AU=>["self"]
 |.AV=>["self", "name"]
 |.AI=>["self"]
 |.AQ=>["self", "g"]
 |.AA=>["self", "side"]
 |.A9=>["self", "act"]
 |.Av=>["self", "side", "name", "value", "said"]
 |.Aw=>["self", "side", "n", "wire", "told"]
 |.A5=>["self", "says", "takes"]
 |.AH=>["self", "ended", "waits"]
 |.AJ=>["self"]
 |.AM=>["self"]
def body(Φ:Fx->Fn):Fx->Fn
 |.FC=>fnOf 1 1 (TN)
 |.CT=>fnOf 1 1 (GV)
 |.Be=>fnOf 3 3 (D2 (Φ .CT))
 |.EV=>fnOf 2 3 (No (Φ .Cs) (Φ .Du) (Φ .Dt) (Φ .CS) (Φ .Be))
 |.CS=>fnOf 2 3 (GU (Φ .Dw))
 |.Dw=>fnOf 1 1 (ID)
 |.Dt=>fnOf 2 3 (GQ (Φ .EV))
 |.Du=>fnOf 2 2 (GR (Φ .EV))
 |.Cs=>fnOf 2 2 (FO (Φ .EV) (Φ .Be))
 |.BN=>fnOf 2 3 (Fk (Φ .BS) (Φ .C1))
 |.C1=>fnOf 2 7 (HB (Φ .BS) (Φ .Cg))
 |.BS=>fnOf 2 2 (Go)
 |.Cg=>fnOf 2 3 (Gm (Φ .EV) (Φ .Ci))
 |.Ci=>fnOf 2 4 (FP (Φ .Dm))
 |.Dm=>fnOf 1 1 (HD (Φ .De))
 |.De=>fnOf 1 1 (JO)
 |.Dk=>fnOf 2 2 (HA (Φ .BN) (Φ .De))
 |.BZ=>fnOf 1 1 (Fi (Φ .De))
 |.BD=>fnOf 2 5 (E1 (Φ .BD) (Φ .BW) (Φ .B0))
 |.BW=>fnOf 1 1 (FQ)
 |.B0=>fnOf 2 2 (Fj (Φ .Dx))
 |.Dx=>fnOf 2 2 (IF)
 |.BL=>fnOf 3 4 (DQ (Φ .Cw) (Φ .DE) (Φ .DC) (Φ .DF) (Φ .Cy))
 |.C3=>fnOf 2 2 (Gj)
 |.BR=>fnOf 3 4 (EZ (Φ .C3))
 |.Cy=>fnOf 3 7 (DA (Φ .Dx) (Φ .C3) (Φ .BW))
 |.DF=>fnOf 3 7 (Eb (Φ .D5) (Φ .BR))
 |.D5=>fnOf 2 3 (Gn (Φ .Dw) (Φ .C3))
 |.DC=>fnOf 3 8 (D9 (Φ .BL) (Φ .BR))
 |.DE=>fnOf 3 5 (Ea (Φ .BL))
 |.Cw=>fnOf 3 5 (Dz (Φ .BL) (Φ .BR))
 |.Dl=>fnOf 2 6 (HC (Φ .BE) (Φ .C1))
 |.BE=>fnOf 3 3 (E2 (Φ .BD))
 |.D6=>fnOf 3 4 (Gp (Φ .C7))
 |.C7=>fnOf 4 9 (D3 (Φ .B1))
 |.B1=>fnOf 3 6 (Ei (Φ .BL))
 |.BB=>fnOf 1 1 (Gk)
 |.Fe=>fnOf 3 3 (EC (Φ .Dv))
 |.Dv=>fnOf 2 2 (Ce)
 |.CP=>fnOf 2 2 (DO)
 |.C4=>fnOf 2 3 (FN)
 |.Cb=>fnOf 2 6 (Cu (Φ .Cb))
 |.Cc=>fnOf 2 10 (EB (Φ .Cc))
 |.BY=>fnOf 3 12 (D1 (Φ .Cb) (Φ .CP) (Φ .C4))
 |.CQ=>fnOf 5 7 (BU (Φ .AZ) (Φ .A9))
 |.Dq=>fnOf 5 14 (DP (Φ .Cc) (Φ .CQ) (Φ .AJ) (Φ .AM) (Φ .A5))
 |.law_=>fnOf 1 13 (IE (Φ .AH) (Φ .Dk) (Φ .As) (Φ .D6) (Φ .AJ) (Φ .Dl) (Φ .BN) (Φ .CQ) (Φ .AM) (Φ .CP) (Φ .Dq) (Φ .A5) (Φ .AN) (Φ .AQ) (Φ .BY))
 |.AC=>fnOf 3 4 (CU (Φ .BZ))
 |.As=>fnOf 1 1 (Bl)
 |.Au=>fnOf 3 4 (Ct (Φ .C7))
 |.Ar=>fnOf 2 2 (Ch)
 |.AN=>fnOf 2 2 (EX (Φ .AC))
 |.AZ=>fnOf 3 3 (FK (Φ .Au))
 |.Bg=>fnOf 1 1 (IC (Φ .FC))
 |.A3=>fnOf 3 3 (FL (Φ .BB) (Φ .AC))
 |.Bi=>fnOf 3 3 (FM (Φ .Bb))
 |.Bd=>fnOf 2 2 (Fh (Φ .A0))
 |.Bb=>fnOf 3 5 (EY (Φ .BE) (Φ .BS) (Φ .Cg))
 |.A0=>fnOf 2 2 (EA (Φ .BB) (Φ .Au))
 |.AW=>fnOf 1 1 (Cl (Φ .BB) (Φ .Ar))
 |.AU=>fnOf 1 1 (BH)
 |.AV=>fnOf 2 2 (GP (Φ .FC))
 |.AI=>fnOf 1 1 (B8 (Φ .De))
 |.AQ=>fnOf 2 2 (DN (Φ .A3))
 |.AA=>fnOf 2 2 (Bo)
 |.A9=>fnOf 2 2 (Es (Φ .Fe) (Φ .Aw) (Φ .Av))
 |.Av=>fnOf 4 5 (DZ (Φ .AA) (Φ .Bi))
 |.Aw=>fnOf 3 5 (D0 (Φ .BB) (Φ .AA) (Φ .Bd) (Φ .Be))
 |.A5=>fnOf 1 3 (Dh (Φ .BB) (Φ .AA) (Φ .AU))
 |.AH=>fnOf 1 3 (Dy (Φ .AM) (Φ .AW) (Φ .AI))
 |.AJ=>fnOf 1 1 (BT (Φ .As))
 |.AM=>fnOf 1 1 (Bs)
def run:Nat->Fx->Fn
 |0=>λ_ _ _=>none
 |n+1=>body (run n)
structure Md(K:gd)(mg:Str->Option gf)(A:Fx->gg)(fd:Fx->gk):Prop where
 fn:∀x,Fun K (nm x) (ql x) (st x) (A x) (fd x)
 mgs:∀x,me x=false->mg (nm x)=some (.ref (A x))
 bd:∀x,Binds K (fd x) (ps x) []
 cm:CM K
 MN:∃C,PySem.W.nsIn K mainGlobals "Parley" = some (some (.ref C))/\mg "Parley" = some (.ref C)/\Mk K C (A .AQ)/\Meth K C "of_side" (A .AA)/\Meth K C "do" (A .A9)/\Meth K C "do_saying" (A .Av)/\Meth K C "do_taking" (A .Aw)/\Meth K C "may" (A .A5)/\Meth K C "is_over" (A .AH)/\Meth K C "states" (A .AJ)/\Meth K C "lying" (A .AM)
 MP:∃C,PySem.W.nsIn K mainGlobals "Reader" = some (some (.ref C))/\mg "Reader" = some (.ref C)/\Mk K C (A .AN)/\Meth K C "feed" (A .AZ)/\Meth K C "unread" (A .Bg)/\Meth K C "state" (A .As)/\Meth K C "hear" (A .Au)/\Meth K C "unread_of" (A .Ar)
 QE:∃C,PySem.W.nsIn K mainGlobals "Side" = some (some (.ref C))/\mg "Side" = some (.ref C)/\Mk K C (A .A3)/\Meth K C "say" (A .Bi)/\Meth K C "take" (A .Bd)/\Meth K C "speak" (A .Bb)/\Meth K C "listen" (A .A0)/\Meth K C "waiting" (A .AW)/\Meth K C "may_say" (A .AU)/\Meth K C "shape_to_say" (A .AV)/\Meth K C "has_ended" (A .AI)/\Meth K C "state" (A .As)/\Meth K C "hear" (A .Au)/\Meth K C "unread_of" (A .Ar)
 j5:∃C,mg "Hearer" = some (.ref C)/\ByCls K C "__init__" (A .AC)
 gZ:mg "bool" = none
 hV:mg "dict" = none
 i0:mg "int" = none
 fT:mg "isinstance" = none
 iD:mg "len" = none
 gO:mg "list" = none
 iG:mg "max" = none
 iF:mg "min" = none
 iE:mg "ord" = none
 gE:mg "range" = none
 iC:mg "str" = none
 gM:mg "tuple" = none
 fQ:∃tk,mg "FIRST_SIGN" = some (.int 32 tk)
 fR:∃tk,mg "LAST_SIGN" = some (.int 126 tk)
 fO:∃tk,mg "PERCENT_SIGN" = some (.int 37 tk)
 g8:∃a,mg "SIDES" = some (.ref a)/\Pe K a ["left", "right"]
 g9:∃tk,mg "SIGNS" = some (.str " !\"#$ &'()*+,-./0123456789:;<=>?@ABCDEFGHIJKLMNOPQRSTUVWXYZ[\\]^_`abcdefghijklmnopqrstuvwxyz{|}~" tk)
 xm:∃(P:gg) (ca:Str->gg),XM K mg P ca/\True/\∀n∈(["Short"]:List Str),XN0 K (ca n)
noncomputable abbrev kd:Fx->Kd
 |.FC=>.pl
 |.CT=>.pl
 |.Be=>.pl
 |.EV=>.pl
 |.CS=>.pl
 |.Dw=>.pl
 |.Dt=>.pl
 |.Du=>.pl
 |.Cs=>.pl
 |.BN=>.pl
 |.C1=>.pl
 |.BS=>.pl
 |.Cg=>.pl
 |.Ci=>.pl
 |.Dm=>.pl
 |.De=>.pl
 |.Dk=>.pl
 |.BZ=>.pl
 |.BD=>.fr
 |.BW=>.pl
 |.B0=>.fr
 |.Dx=>.pl
 |.BL=>.ex
 |.C3=>.ex
 |.BR=>.ex
 |.Cy=>.ex
 |.DF=>.ex
 |.D5=>.ex
 |.DC=>.ex
 |.DE=>.ex
 |.Cw=>.ex
 |.Dl=>.pl
 |.BE=>.pl
 |.D6=>.pl
 |.C7=>.pl
 |.B1=>.pl
 |.BB=>.pl
 |.Fe=>.pl
 |.Dv=>.pl
 |.CP=>.pl
 |.C4=>.pl
 |.Cb=>.pl
 |.Cc=>.pl
 |.BY=>.pl
 |.CQ=>.pl
 |.Dq=>.pl
 |.law_=>.pl
 |.AC=>.pl
 |.As=>.pl
 |.Au=>.pl
 |.Ar=>.pl
 |.AN=>.pl
 |.AZ=>.pl
 |.Bg=>.pl
 |.A3=>.pl
 |.Bi=>.pl
 |.Bd=>.pl
 |.Bb=>.pl
 |.A0=>.pl
 |.AW=>.pl
 |.AU=>.pl
 |.AV=>.pl
 |.AI=>.pl
 |.AQ=>.pl
 |.AA=>.pl
 |.A9=>.pl
 |.Av=>.pl
 |.Aw=>.pl
 |.A5=>.pl
 |.AH=>.pl
 |.AJ=>.pl
 |.AM=>.pl
section
variable{P:gi}{w:gj}{K:gd}{mg:Str->Option gf}{base:Heap}{A:Fx->gg}{fd:Fx->gk}{n:Nat}
theorem NC{a:Kd}(k:Kd){P:gi}{w:gj}{K:gd}{mg:Str->Option gf}{base:Heap}{n:Nat}{fa:gg}{fd:gk}{ps:List Str}{f:Fn}(h:okK a P w K mg base n fa fd ps f)(e:a=k):okK k P w K mg base n fa fd ps f:=e ▸ h
section
variable{X:Cx}{A:Fx->gg}{fd:Fx->gk}{n k:Nat}{x:Fx}{s:Str}{e:Expr}{es:List Expr}{f:M (List D)}{p pos:Pos}{E:L2.St->XK}
theorem cP(M:Md X.K X.mg A fd)(ih:∀x,okK (kd x) X.prog X.w X.K X.mg X.base k (A x) (fd x) (ps x) (run n x))(hr:Room k X.A)(ha:PA X (e::es) (RA X.K f))(hk:kd x=.pl)(hm:me x=false)(hs:nm x=s)(hg:Gl X s)(h1:Bu e=false)(h2:Bw es=true)(hd:(s==("__debug__":Str))=false):PE X (.Call (.Name s p) (e::es) [] pos) (RE X.K (Am (run n x) f)):=by subst hs;exact Te (NC .pl (ih x) hk) hr hg (M.mgs x hm) (Fun.kp (M.fn x)) (M.bd x) ha hd h1 h2
theorem fF(M:Md X.K X.mg A fd)(ih:∀x,okK (kd x) X.prog X.w X.K X.mg X.base k (A x) (fd x) (ps x) (run n x))(hr:Room k X.A)(ha:PA X (e::es) (RA X.K f))(hk:kd x=.fr)(hm:me x=false)(hs:nm x=s)(hg:Gl X s)(h1:Bu e=false)(h2:Bw es=true)(hd:(s==("__debug__":Str))=false):PE X (.Call (.Name s p) (e::es) [] pos) (RF X.K (Eo (run n x) f)):=by subst hs;exact Tk (NC .fr (ih x) hk) hr hg (M.mgs x hm) (Fun.kp (M.fn x)) (M.bd x) ha hd h1 h2
theorem xex(M:Md X.K X.mg A fd)(ih:∀x,okK (kd x) X.prog X.w X.K X.mg X.base k (A x) (fd x) (ps x) (run n x))(hr:Room k X.A)(hp:EH (CX1 true X.prog X.w) X E)(ha:PA X (e::es) (RA X.K f))(hk:kd x=.ex)(hm:me x=false)(hs:nm x=s)(hg:Gl X s)(h1:Bu e=false)(h2:Bw es=true)(hd:(s==("__debug__":Str))=false):PE X (.Call (.Name s p) (e::es) [] pos) (RX X.K E (Am (run n x) f)):=by subst hs;exact VN (NC .ex (ih x) hk) hr hg (M.mgs x hm) (Fun.kp (M.fn x)) (M.bd x) hp ha hd h1 h2
end
seal PE PA PSs PS PT PG PGs PPf PW PI PO PIf PH
theorem sc(x:Fx):FnScope (ns x) (ps x) (AR (st x)):=by
 cases x<;>exact⟨rfl,rfl,rfl,by decide +kernel,rfl,by decide +kernel,by decide +kernel⟩
local macro_rules | `(tactic| clear 30 $t)=>`(tactic| with_reducible refine(?_ : $t))
seal Ka
theorem step(M:Md K mg A fd)(ih0:∀x,okK (kd x) P w K mg base (2*n+2) (A x) (fd x) (ps x) (run n x))(y:Fx):okK (kd y) P w K mg base (2*n+2+1+1) (A y) (fd y) (ps y) (run (n+1) y):=by
 have ih:=λx=>YV (ih0 x);obtain⟨_,fQ⟩:=M.fQ;obtain⟨_,fR⟩:=M.fR;obtain⟨_,fO⟩:=M.fO;clear 5 M.xm P' ca x xt x0;obtain⟨_,g9⟩:=M.g9;obtain⟨_,g8,kt_SIDES⟩:=M.g8;clear 5 M.MN Parley_ f9 jW jS jQ kN jF jG kK jM jT kA;clear 5 M.MP Reader_ fP jZ jL kF kO kD kG kI;have kJ:MAt K "Parley" "do" Parley_ (A .A9):=⟨by decide,f9,kN,by decide⟩;have k8:MAt K "Reader" "feed" Reader_ (A .AZ):=⟨by decide,fP,kF,by decide⟩;have jV:MAt K "Parley" "lying" Parley_ (A .AM):=⟨by decide,f9,kA,by decide⟩;have kE:MAt K "Parley" "may" Parley_ (A .A5):=⟨by decide,f9,kK,by decide⟩;have jP:MAt K "Parley" "states" Parley_ (A .AJ):=⟨by decide,f9,jT,by decide⟩;have jJ:MAt K "Parley" "is_over" Parley_ (A .AH):=⟨by decide,f9,jM,by decide⟩;have jY:MAt K "Reader" "state" Reader_ (A .As):=⟨by decide,fP,kD,by decide⟩;clear 5 M.j5 Hearer_b jN jR;have k9:MAt K "Reader" "hear" Reader_ (A .Au):=⟨by decide,fP,kG,by decide⟩;clear 5 M.QE Side_ fN kH kB jI jE j1 iY iV iU jK iP j7 jC iM;have j0:MAt K "Side" "speak" Side_ (A .Bb):=⟨by decide,fN,j1,by decide⟩;have iW:MAt K "Side" "listen" Side_ (A .A0):=⟨by decide,fN,iY,by decide⟩;have jA:MAt K "Side" "hear" Side_ (A .Au):=⟨by decide,fN,jC,by decide⟩;have iI:MAt K "Side" "unread_of" Side_ (A .Ar):=⟨by decide,fN,iM,by decide⟩;have j4:MAt K "Parley" "do_saying" Parley_ (A .Av):=⟨by decide,f9,jF,by decide⟩;have j3:MAt K "Parley" "do_taking" Parley_ (A .Aw):=⟨by decide,f9,jG,by decide⟩;have jH:MAt K "Parley" "of_side" Parley_ (A .AA):=⟨by decide,f9,jQ,by decide⟩;have jD:MAt K "Side" "say" Side_ (A .Bi):=⟨by decide,fN,jI,by decide⟩;have j6:MAt K "Side" "take" Side_ (A .Bd):=⟨by decide,fN,jE,by decide⟩;have iS:MAt K "Side" "may_say" Side_ (A .AU):=⟨by decide,fN,iU,by decide⟩;have iH:MAt K "Side" "has_ended" Side_ (A .AI):=⟨by decide,fN,iP,by decide⟩;have iT:MAt K "Side" "waiting" Side_ (A .AW):=⟨by decide,fN,iV,by decide⟩;have iZ:MAt K "Side" "state" Side_ (A .As):=⟨by decide,fN,j7,by decide⟩;have sy:=sc y;have nd:=sy.nd;have mf:=M.fn y
 cases y<;>first|(clear 30 (okK .pl ..);refine ZK (g:=fnOf _ _ _) rfl (Yn rfl rfl mf sy (λcdv A' outer s H E hr=>?_)))|(clear 30 (okK .ex ..);refine WK (g:=fnOf _ _ _) rfl (VF rfl rfl mf sy (λcdv A' outer s H E hr hp hq ho=>?_)))|(clear 30 (okK .fr ..);refine WJ (g:=fnOf _ _ _) rfl (VD rfl rfl mf sy (λcdv A' outer s H E hr=>?_)))
 all_goals repeat' first
  | (clear 30 (PE ..);first
    | (clear 30 (PE _ (.Name ..) ..);first
      |(clear 30 (PE _ _ (RE _ (Aa _)));exact(Yh _))
      |(clear 30 (PE _ (.Name _ _) (RE _ (fC (.ty _))));exact(Kr rfl M.iC XL))
      |(clear 30 (PE _ (.Name _ _) (RE _ (fC (.ty _))));exact(Kr rfl M.gM ST))
      |(clear 30 (PE _ _ (RE _ (fC (.gts _))));exact(Ya rfl g8 kt_SIDES))
      |(clear 30 (PE _ (.Name _ _) (RE _ (fC (.int _))));exact(Lk rfl fQ))
      |(clear 30 (PE _ (.Name _ _) (RE _ (fC (.ty _))));exact(Kr rfl M.i0 QD))
      |(clear 30 (PE _ (.Name _ _) (RE _ (fC (.ty _))));exact(Kr rfl M.gZ Vk))
      |(clear 30 (PE _ (.Name _ _) (RE _ (fC (.int _))));exact(Lk rfl fR))
      |(clear 30 (PE _ (.Name _ _) (RE _ (fC (.int _))));exact(Lk rfl fO))
      |(clear 30 (PE _ (.Name _ _) (RE _ (fC (.ty _))));exact(Kr rfl M.gO Oq))
      |(clear 30 (PE _ _ (RE _ (fC (.str _))));exact(Th rfl g9)))
    | (clear 30 (PE _ (.Constant ..) ..);first
      |(clear 30 (PE _ _ (RE _ (fC (.int _))));exact Yb)
      |(clear 30 (PE _ _ (RE _ (fC (.str _))));exact Yg)
      |(clear 30 (PE _ _ (RE _ (fC (.bl _))));exact aE)
      |(clear 30 (PE _ _ (RE _ (fC .non)));exact Yc))
    | (clear 30 (PE _ (.Subscript ..) ..);first
      |(clear 30 (PE _ _ (RE _ (Ac _ _ ixD)));refine UU YF ZQ ?_ ?_ (λ_ _=>rfl))
      |(clear 30 (PE _ _ (RE _ (Ac _ _ Bh)));refine UU YB Sg ?_ ?_ (λ_ _=>rfl))
      |(clear 30 (PE _ _ (RE _ (fSl _ _ _ Gv)));refine M7 sl3 O3 ?_ ?_ ?_)
      |(clear 30 (PE _ _ (RE _ (fSl _ _ _ LG)));refine M7 sl3 Uo ?_ ?_ ?_)
      |(clear 30 (PE _ _ (RF _ (Pu _ _ _)));refine Tl ?_ ?_ ?_))
    | (clear 30 (PE _ (.Call ..) ..);first
      |(clear 30 (PE _ _ (RE _ (Am (run _ _) _)));refine @cP _ _ _ _ _ _ _ _ _ _ _ _ M ih hr ?_ (by rfl) (by rfl) (by rfl) (by rfl) (by rfl) (by rfl) (by decide))
      |(clear 30 (PE _ _ (RE _ (fB _ A6)));refine Ko SV WV rfl M.iD XG ?_)
      |(clear 30 (PE _ _ (RX _ _ (Am (run _ _) _)));refine @xex _ _ _ _ _ _ _ _ _ _ _ _ _ M ih hr hp ?_ (by rfl) (by rfl) (by rfl) (by rfl) (by rfl) (by rfl) (by decide))
      |(clear 30 (PE _ _ (RE _ (fB _ C6)));refine Ko SU WU rfl M.fT Me ?_)
      |(clear 30 (PE _ _ (RF _ (fBF _ Dg)));refine aG M0 WW rfl M.gO Oq ?_)
      |(clear 30 (PE _ _ (RF _ (Eo (run _ _) _)));refine @fF _ _ _ _ _ _ _ _ _ _ _ _ M ih hr ?_ (by rfl) (by rfl) (by rfl) (by rfl) (by rfl) (by rfl) (by decide))
      |(clear 30 (PE _ _ (RE _ (fB _ GO)));refine aD QF WT rfl M.i0 QD ?_)
      |(clear 30 (PE _ _ (RE _ (objM Eg _ _)));refine QR ?_ ?_)
      |(clear 30 (PE _ _ (RE _ (AF _ (run _ .AM) _ (ret []))));refine Ds M.cm jV (ih .AM) hr (M.bd .AM) ?_)
      |(clear 30 (PE _ _ (RE _ (AF _ (run _ .AA) _ _)));refine CJ M.cm jH (ih .AA) hr (M.bd .AA) ?_ ?_)
      |(clear 30 (PE _ _ (RE _ (fB _ JU)));refine Ko SW W5 rfl M.iE XJ ?_)
      |(clear 30 (PE _ _ (RE _ (AF _ (run _ .A5) _ (ret []))));refine Ds M.cm kE (ih .A5) hr (M.bd .A5) ?_)
      |(clear 30 (PE _ _ (RE _ (AF _ (run _ .AJ) _ (ret []))));refine Ds M.cm jP (ih .AJ) hr (M.bd .AJ) ?_)
      |(clear 30 (PE _ _ (RE _ (Am _ _)));refine Td (ih .AC) hr rfl jN jR (M.bd .AC) ?_)
      |(clear 30 (PE _ (.Call (.Name _ _) (_::_) [] _) (RE _ (FV _ _ _)));refine Ll (by decide) fN kB (ih0 .A3) hr rfl kH (M.bd .A3) ?_)
      |(clear 30 (PE _ _ (RE _ (AF _ (run _ .AI) _ (ret []))));refine Ds M.cm iH (ih .AI) hr (M.bd .AI) ?_)
      |(clear 30 (PE _ _ (RE _ (AF _ (run _ .AW) _ (ret []))));refine Ds M.cm iT (ih .AW) hr (M.bd .AW) ?_)
      |(clear 30 (PE _ (.Call (.Attribute _ _ _) [] [] _) (RE _ (AF _ (run _ .As) _ (ret []))));refine Ds M.cm iZ (ih .As) hr (M.bd .As) ?_)
      |(clear 30 (PE _ _ (RE _ (fUn _ Ke)));refine QP ?_)
      |(clear 30 (PE _ _ (RE _ (fB _ IZ)));refine Tg rfl M.hV ?_)
      |(clear 30 (PE _ _ (RE _ (AF _ (run _ .A9) _ _)));refine CJ M.cm kJ (ih .A9) hr (M.bd .A9) ?_ ?_)
      |(clear 30 (PE _ _ (RE _ (objM Do _ _)));refine QO ?_ ?_)
      |(clear 30 (PE _ _ (RE _ (AF _ (run _ .AZ) _ _)));refine CJ M.cm k8 (ih .AZ) hr (M.bd .AZ) ?_ ?_)
      |(clear 30 (PE _ (.Call (.Name _ _) (_::_) [] _) (RE _ (FV _ _ _)));refine Ll (by decide) f9 jS (ih0 .AQ) hr rfl jW (M.bd .AQ) ?_)
      |(clear 30 (PE _ (.Call (.Name _ _) (_::_) [] _) (RE _ (FV _ _ _)));refine Ll (by decide) fP jL (ih0 .AN) hr rfl jZ (M.bd .AN) ?_)
      |(clear 30 (PE _ _ (RE _ (fB _ Lo)));refine Ko (QG rfl) WY rfl M.iG XH ?_)
      |(clear 30 (PE _ _ (RE _ (fB _ Lp)));refine Ko (QH rfl) WZ rfl M.iF XI ?_)
      |(clear 30 (PE _ _ (RE _ (AF _ (run _ .AH) _ (ret []))));refine Ds M.cm jJ (ih .AH) hr (M.bd .AH) ?_)
      |(clear 30 (PE _ (.Call (.Attribute _ _ _) [] [] _) (RE _ (AF _ (run _ .As) _ (ret []))));refine Ds M.cm jY (ih .As) hr (M.bd .As) ?_)
      |(clear 30 (PE _ (.Call (.Attribute _ _ _) (_::_) [] _) (RE _ (AF _ (run _ .Au) _ _)));refine CJ M.cm k9 (ih .Au) hr (M.bd .Au) ?_ ?_)
      |(clear 30 (PE _ _ (RE _ (AF _ (run _ .Bb) _ _)));refine CJ M.cm j0 (ih .Bb) hr (M.bd .Bb) ?_ ?_)
      |(clear 30 (PE _ _ (RE _ (AF _ (run _ .A0) _ _)));refine CJ M.cm iW (ih .A0) hr (M.bd .A0) ?_ ?_)
      |(clear 30 (PE _ (.Call (.Attribute _ _ _) (_::_) [] _) (RE _ (AF _ (run _ .Au) _ _)));refine CJ M.cm jA (ih .Au) hr (M.bd .Au) ?_ ?_)
      |(clear 30 (PE _ _ (RE _ (AF _ (run _ .Ar) _ _)));refine CJ M.cm iI (ih .Ar) hr (M.bd .Ar) ?_ ?_)
      |(clear 30 (PE _ _ (RE _ (AF _ (run _ .Av) _ _)));refine CJ M.cm j4 (ih .Av) hr (M.bd .Av) ?_ ?_)
      |(clear 30 (PE _ _ (RE _ (AF _ (run _ .Aw) _ _)));refine CJ M.cm j3 (ih .Aw) hr (M.bd .Aw) ?_ ?_)
      |(clear 30 (PE _ _ (RE _ (AF _ (run _ .Bi) _ _)));refine CJ M.cm jD (ih .Bi) hr (M.bd .Bi) ?_ ?_)
      |(clear 30 (PE _ _ (RE _ (AF _ (run _ .Bd) _ _)));refine CJ M.cm j6 (ih .Bd) hr (M.bd .Bd) ?_ ?_)
      |(clear 30 (PE _ _ (RE _ (AF _ (run _ .AU) _ (ret []))));refine Ds M.cm iS (ih .AU) hr (M.bd .AU) ?_))
    | (clear 30 (PE _ (.Tuple ..) ..);first
      |(clear 30 (PE _ (.Tuple _ _ _) (RE _ (AT _)));refine @QS _ _ _ _ _ ?_)
      |(clear 30 (PE _ (.Tuple _ _ _) (RE _ (AT _)));refine QS ?_))
    | (clear 30 (PE _ (.BinOp ..) ..);first
      |(clear 30 (PE _ _ (RE _ (Ac _ _ A7)));refine Jc OT NT ?_ ?_)
      |(clear 30 (PE _ _ (RE _ (Ac _ _ B5)));refine Jc Y8 W0 ?_ ?_)
      |(clear 30 (PE _ _ (RE _ (Ac _ _ BQ)));refine Jc Wb Ul ?_ ?_)
      |(clear 30 (PE _ _ (RE _ (Ac _ _ DH)));refine Jc Zb W7 ?_ ?_)
      |(clear 30 (PE _ _ (RE _ (Ac _ _ CH)));refine Jc Wc Um ?_ ?_)
      |(clear 30 (PE _ _ (RF _ _));refine aH RQ Uk ?_ ?_)
      |(clear 30 (PE _ _ (RX _ _ (I9 _ _ A7)));refine aP OT NT ?_ ?_)
      |(clear 30 (PE _ _ (RE _ (Ac _ _ NU)));refine Jc Za W6 ?_ ?_))
    | (clear 30 (PE _ (.List ..) ..);first
      |refine @Yj _ _ _ _ ?_)
    | (clear 30 (PE _ (.Attribute ..) ..);first
      |refine X9 M.cm (by decide) ?_ rfl)
    | (clear 30 (PE _ (.Compare ..) ..);first
      |(clear 30 (PE _ (.Compare _ [.Eq] [_] _) (RE _ (Ac _ _ (eqS _))));refine Kq (RU hr.units) (Js (g:=id)) ?_ ?_ (Et _))
      |(clear 30 (PE _ _ (RE _ (FA _ _ _ _ _)));refine Tf RY RY O2 O2 ?_ ?_ ?_)
      |(clear 30 (PE _ _ (RE _ (Ac _ _ isC)));refine Kq RW Si ?_ ?_ (Et _))
      |(clear 30 (PE _ (.Compare _ [.NotEq] [_] _) (RE _ (Ac _ _ (eqS _))));refine Kq (ND hr.units) (Js (g:=λb=>!b)) ?_ ?_ (Et _))
      |(clear 30 (PE _ _ (RE _ (Ac _ _ (inD _))));refine Kq RV ZP ?_ ?_ (by with_unfolding_all rfl)))
    | (clear 30 (PE _ (.BoolOp ..) ..);first
      |(clear 30 (PE _ _ (RE _ (Dp _ _)));refine X8 ?_ ?_)
      |(clear 30 (PE _ _ (RE _ _));refine Yf ?_))
    | (clear 30 (PE _ (.Dict ..) ..);first
      |(clear 30 (PE _ _ (RE _ (EU _)));refine Vv ?_)
      |(clear 30 (PE _ _ (RE _ (FB [])));exact QQ))
    | (clear 30 (PE _ (.IfExp ..) ..);first
      |refine Ti ?_ ?_ ?_)
    | (clear 30 (PE _ (.UnaryOp ..) ..);first
      |(clear 30 (PE _ _ (RE _ (Ja _)));refine Yd ?_)
      |(clear 30 (PE _ _ (RE _ (fUn _ Nx)));refine aF Z7 W4 ?_))
    | (clear 30 (PE _ (.ListComp ..) ..);first
      |(clear 30 (PE _ (.ListComp _ [⟨(.Name ("state":Str) _),_,_,0⟩] _ _) (RF _ (CO _ [] _ _ _ _)));refine Jd (Il ["state"] [] rfl rfl rfl rfl rfl) rfl ?_ (λ_ _ _ _ _=>?_) (λ_ _ _ _ _=>?_) (λ_ _ _ _ _=>?_))
      |(clear 30 (PE _ (.ListComp _ [⟨(.Name ("sign":Str) _),_,_,0⟩] _ _) (RF _ (CO _ [] _ _ _ _)));refine Jd (Il ["sign"] [] rfl rfl rfl rfl rfl) rfl ?_ (λ_ _ _ _ _=>?_) (λ_ _ _ _ _=>?_) (λ_ _ _ _ _=>?_))
      |(clear 30 (PE _ _ (RF _ (CO _ [0,1] _ _ _ _)));refine Jd (Il ["k"] [(0, "number"),(1, "width")] rfl rfl rfl rfl rfl) rfl ?_ (λ_ _ _ _ _=>?_) (λ_ _ _ _ _=>?_) (λ_ _ _ _ _=>?_))
      |(clear 30 (PE _ (.ListComp _ [⟨(.Name ("act":Str) _),_,_,0⟩] _ _) (RF _ (CO _ [] _ _ _ _)));refine Jd (Il ["act"] [] rfl rfl rfl rfl rfl) rfl ?_ (λ_ _ _ _ _=>?_) (λ_ _ _ _ _=>?_) (λ_ _ _ _ _=>?_)))
    |(clear 30 (PE _ _ (RE _ (AK _)));refine Vx ?_)
    |(clear 30 (PE _ _ (RE _ (FI _)));refine Ye ?_))
  | (clear 30 (PA ..);first
    |refine @Tc _ _ _ _ _ ?_ ?_ rfl
    |exact X7)
  | (clear 30 (PSs ..);first
    |refine @Ts _ _ _ _ _ _ ?_ ?_
    |refine @Je _ _ _ _ ?_
    |exact VL
    |exact(Je OD)
    |exact(Je OE)
    |refine Tt ?_
    |exact(Je Jy))
  | (clear 30 (PS ..);first
    | (clear 30 (PS _ (.Return ..) ..);first
      |(clear 30 (PS _ _ (RSg _ (μR _) (An _)));refine Q4 ?_)
      |(clear 30 (PS _ _ (RSg _ (μX _ _) (An (nxD _))));refine OG ?_)
      |(clear 30 (PS _ _ (RSg _ (μF _) (HI _)));refine OF ?_)
      |(clear 30 (PS _ _ (RSg _ (μX _ _) (An _)));refine Mt (OH ?_))
      |(clear 30 (PS _ _ (RSg _ (μF _) (Hd _)));exact(Q5 _)))
    | (clear 30 (PS _ (.Assign ..) ..);first
      |(clear 30 (PS _ _ (RSg _ _ (Ax _ _)));refine Ys nd rfl (.inl rfl) ?_)
      |(clear 30 (PS _ _ (RSg _ _ (NE _ _ _)));refine Yr rfl nd rfl rfl (by decide) rfl rfl ?_ rfl)
      |(clear 30 (PS _ _ (RSg _ _ (Dc _ _)));refine Yo ?_ ?_)
      |(clear 30 (PS _ _ (RSg _ (μX _ _) (El _ _)));refine Mt (OI nd rfl (.inl rfl) ?_))
      |(clear 30 (PS _ _ (RSg _ _ (CY _ _ _)));refine Yp M.cm (by decide) ?_ ?_)
      |(clear 30 (PS _ _ (RSg _ _ (Fm _ _)));refine Yq nd rfl (.inl rfl) ?_)
      |(clear 30 (PS _ _ (RSg _ _ (Ax _ (AK (CO _ [0] _ _ _ _)))));refine VJ (Il ["side"] [(0, "self")] rfl rfl rfl rfl rfl) rfl nd rfl rfl ?_ (λ_ _ _ _ _=>?_) (λ_ _ _ _ _=>?_) (λ_ _ _ _ _=>?_))
      |(clear 30 (PS _ _ (RSX _ _ (El _ _)));refine OI nd rfl (.inl rfl) ?_))
    | (clear 30 (PS _ (.If ..) ..);first
      |refine aM ?_ ?_ ?_)
    | (clear 30 (PS _ (.For ..) ..);first
      |(clear 30 (PS _ (.For _ _ _ [] _) (RSg _ _ (Cn (fEnum _) _ _)));refine fs_for2 jj rfl ?_ ?_ ?_)
      |(clear 30 (PS _ (.For _ _ _ [] _) (RSg _ _ (Cn _ _ _)));refine QZ jj rfl ?_ ?_ ?_)
      |(clear 30 (PS _ (.For _ _ _ [] _) (RSg _ _ (Cn _ _ _)));refine QZ ho rfl ?_ ?_ ?_))
    | (clear 30 (PS _ (.Expr ..) ..);first
      |(clear 30 (PS _ _ (RSg _ _ (D8 _)));refine OC ?_)
      |(clear 30 (PS _ _ (RSg _ _ (ownM _ Do _)));refine PB _ ?_)
      |(clear 30 (PS _ _ (RSg _ _ (ownM _ Eg _)));refine PC _ ?_))
    |exact OE
    |exact Jy
    |exact OD
    | (clear 30 (PS _ (.While ..) ..);first
      |refine Tr jj ?_ ?_)
    | (clear 30 (PS _ (.Break ..) ..);first
      |exact Tq)
    | (clear 30 (PS _ (.Raise ..) ..);first
      |(clear 30 (PS _ _ (RSg _ (μX _ _) (IQ ("Short":Str) _)));refine Mt (Q0 (n:="Short") x (by decide) rfl (x0 "Short" (by decide)) rfl hq rfl ?_)))
    | (clear 30 (PS _ (.Try ..) ..);first
      |(clear 30 (PS _ _ (RSg _ (μR _) (Gy _ _)));refine Yt (qx:=true) x YR rfl rfl (λpn E hp=>?_) ?_))
    |refine Q4 ?_
    |refine OF ?_
    |refine OG ?_
    |refine Mt (OH ?_)
    |refine OC ?_)
  | (clear 30 (PT ..);first
    | (clear 30 (PT _ (.Compare ..) ..);first
      |(clear 30 (PT _ (.Compare _ [.Eq] [_] _) (RT _ (Ao (Ac _ _ (eqS _)))));refine FD (RU hr.units) (Js (g:=id)) ?_ ?_ (Et _))
      |(clear 30 (PT _ _ (RT _ (Ao (Ac _ _ gtA))));refine FD Y1 WR ?_ ?_ (Et _))
      |(clear 30 (PT _ (.Compare _ [.NotEq] [_] _) (RT _ (Ao (Ac _ _ (eqS _)))));refine FD (ND hr.units) (Js (g:=λb=>!b)) ?_ ?_ (Et _))
      |(clear 30 (PT _ _ (RT _ (Ao (Ac _ _ isC))));refine FD RW Si ?_ ?_ (Et _))
      |(clear 30 (PT _ _ (RT _ (Ao (Ac _ _ geA))));refine FD Y0 WQ ?_ ?_ (Et _))
      |(clear 30 (PT _ _ (RT _ (Ao (Ac _ _ ltA))));refine FD Y7 WX ?_ ?_ (Et _))
      |(clear 30 (PT _ _ (RT _ (Ao (Ac _ _ (eqT _)))));refine FD (ND hr.units) (WP (g:=λb=>!b)) ?_ ?_ (Et _))
      |(clear 30 (PT _ _ (RT _ (Ao (Ac _ _ (inS _)))));refine FD (Y2 hr.units) (WS (neg:=false)) ?_ ?_ (by with_unfolding_all rfl)))
    | (clear 30 (PT _ (.UnaryOp ..) ..);first
      |refine Yu ?_)
    | (clear 30 (PT _ (.BoolOp ..) ..);first
      |refine aN ?_)
    |(clear 30 (PT _ _ (RT _ (Ao _)));refine Q6 ?_)
    |(clear 30 (PT _ _ (RT _ (Ao _)));refine Q6 ?_))
  | (clear 30 (PG ..);first
    | (clear 30 (PG _ (.Name ..) ..);first
      |(clear 30 (PG _ (.Name _ _) (RG _ (AS _)));exact(F1 nd rfl (.inl rfl)))
      |(clear 30 (PG _ (.Name _ _) (RG _ (AS _)));exact(F1 (by show List.Nodup [("side":Str),("self":Str)] ;decide +kernel) rfl (.inl rfl)))
      |(clear 30 (PG _ (.Name _ _) (RG _ (AS _)));exact(F1 (by show List.Nodup [("state":Str)] ;decide +kernel) rfl (.inl rfl)))
      |(clear 30 (PG _ (.Name _ _) (RG _ (AS _)));exact(F1 (by show List.Nodup [("sign":Str)] ;decide +kernel) rfl (.inl rfl)))
      |(clear 30 (PG _ (.Name _ _) (RG _ (AS _)));exact(F1 (by show List.Nodup [("k":Str),("number":Str),("width":Str)] ;decide +kernel) rfl (.inl rfl)))
      |(clear 30 (PG _ (.Name _ _) (RG _ (AS _)));exact(F1 (by show List.Nodup [("act":Str)] ;decide +kernel) rfl (.inl rfl))))
    | (clear 30 (PG _ (.Tuple ..) ..);first
      |refine aI rfl ?_)
    | (clear 30 (PG _ (.Subscript ..) ..);first
      |refine QU ?_ ?_))
  | (clear 30 (PGs ..);first
    |refine Tm ?_ ?_
    |exact Vy)
  | (clear 30 (PPf ..);first
    |refine Tp ?_ ?_
    |exact VI)
  | (clear 30 (PW ..);first
    |(clear 30 (PW _ (.BoolOp .Or (_::_::_) _) (RT _ (fOr _ _)));refine aO ?_ ?_)
    |(clear 30 (PW _ (.BoolOp .Or [_] _) (RT _ _));refine Yw ?_)
    |(clear 30 (PW _ (.BoolOp .And (_::_::_) _) (RT _ (Hu _ _)));refine Yv ?_ ?_)
    |(clear 30 (PW _ (.BoolOp .And [_] _) (RT _ _));refine VM ?_))
  | (clear 30 (PI ..);first
    | (clear 30 (PI _ _ (.Call ..) ..);first
      |(clear 30 (PI _ _ _ (RI _ (Da _)));refine Pw rfl M.gE ?_)
      |(clear 30 (PI _ _ _ (RI _ (GC _)));refine Px rfl M.gE ?_))
    |(clear 30 (PI _ _ _ (RI _ (Ey _)));refine Yl ?_))
  | (clear 30 (PO ..);first
    |refine VH ?_
    |exact VG)
  | (clear 30 (PIf ..);first
    |exact Vz
    |(clear 30 (PIf _ [_] (RT _ _));refine VA ?_))
  | (clear 30 (PH ..);first
    |(clear 30 (PH _ _ (.ExceptHandler (some (.Name _ _)) none (_::_) _::_) (RH _ _ _ (hNo _ _ _)));refine aK x rfl (x.ms "Short" (by decide)) (x.cl "Short" (by decide)) (λ_ hn=>x.subE hn (by decide)) (λy=>?_) ?_)
    |(clear 30 (PH _ _ (.ExceptHandler (some (.Name _ _)) (some _) (_::_) _::_) (RH _ _ _ (hAs _ _ _ _)));refine aJ x rfl (x.ms "Broken" (by decide)) (x.cl "Broken" (by decide)) (λ_ hn=>x.subE hn (by decide)) nd rfl rfl (λy=>?_) ?_)
    |exact Yk)
theorem all_ok(M:Md K mg A fd):∀(n:Nat) (x:Fx),okK (kd x) P w K mg base (2*n+2) (A x) (fd x) (ps x) (run n x)
 |0,x=>TW
 |n+1,x=>by
   have ih:=all_ok M n;exact step M ih x
end
abbrev fno(x:Fx)(kV dc pm:gf)(an:Option gg)(cd ct:gf):gk:=PySem.W.fnOf (nm x) (ql x) (G6 (st x)) (Dd (st x)) (AR (st x)) .none kV dc pm an cd ct
structure At(K:gd)(x:Fx)(f:gg)(fd:gk):Prop where
 a:me x=false->PySem.W.nsIn K mainGlobals (nm x)=some (some (.ref f))
 m:me x=true->∃C,PySem.W.nsIn K mainGlobals (ow x)=some (some (.ref C))/\PySem.W.findIn K (.ref C) (nm x)=some (some (.ref f))/\PySem.W.isFn K (.ref f)=true
 fn:Fun K (nm x) (ql x) (st x) f fd
 bd:Binds K fd (ps x) []
 eq:∃kV dc pm an cd ct,fd=fno x kV dc pm an cd ct
theorem at_mk{K:gd}{x:Fx}{f:gg}{od an:Option gg}{sl:Array (Option gf)}{oc kV dc pm cd ct:gf}(e:me x=false)(a:PySem.W.nsIn K mainGlobals (nm x)=some (some (.ref f)))(l:K.lookup f=some ⟨oc,od,.func (fno x kV dc pm an cd ct),sl⟩)(c:codeIn K cd (ql x)=true)(k:PySem.W.keepIn K (.ref f)=true):∃p:gg×gk,At K x p.1 p.2:=by
 refine⟨(f,fno x kV dc pm an cd ct),λ_=>a,λz=>(by rw[e] at z;cases z),Ku (st:=st x) l c k,(Ku (st:=st x) l c k).binds (ps:=ps x) λ_ _ _ _ _ _ us hl=>?_,_,_,_,_,_,_,rfl⟩
 cases x<;>first|(obtain rfl:=ua1 hl;rfl)|(obtain⟨_,rfl⟩:=us1 hl;rfl)|(obtain⟨_,_,rfl⟩:=us2 hl;rfl)|(obtain⟨_,_,_,rfl⟩:=us3 hl;rfl)|(obtain⟨_,_,_,_,rfl⟩:=us4 hl;rfl)|(obtain⟨_,_,_,_,_,rfl⟩:=us5 hl;rfl)|(obtain⟨_,_,_,_,_,_,rfl⟩:=us6 hl;rfl)|(obtain⟨_,_,_,_,_,_,_,rfl⟩:=us7 hl;rfl)
theorem XF{K:gd}{x:Fx}{f C:gg}{od an:Option gg}{sl:Array (Option gf)}{oc kV dc pm cd ct:gf}(e:me x=true)(hc:PySem.W.nsIn K mainGlobals (ow x)=some (some (.ref C)))(a:PySem.W.findIn K (.ref C) (nm x)=some (some (.ref f)))(l:K.lookup f=some ⟨oc,od,.func (fno x kV dc pm an cd ct),sl⟩)(c:codeIn K cd (ql x)=true)(k:PySem.W.keepIn K (.ref f)=true)(t:PySem.W.isFn K (.ref f)=true):∃p:gg×gk,At K x p.1 p.2:=by
 refine⟨(f,fno x kV dc pm an cd ct),λz=>(by rw[e] at z;cases z),λ_=>⟨C,hc,a,t⟩,Ku (st:=st x) l c k,(Ku (st:=st x) l c k).binds (ps:=ps x) λ_ _ _ _ _ _ us hl=>?_,_,_,_,_,_,_,rfl⟩
 cases x<;>first|(obtain rfl:=ua1 hl;rfl)|(obtain⟨_,rfl⟩:=us1 hl;rfl)|(obtain⟨_,_,rfl⟩:=us2 hl;rfl)|(obtain⟨_,_,_,rfl⟩:=us3 hl;rfl)|(obtain⟨_,_,_,_,rfl⟩:=us4 hl;rfl)|(obtain⟨_,_,_,_,_,rfl⟩:=us5 hl;rfl)|(obtain⟨_,_,_,_,_,_,rfl⟩:=us6 hl;rfl)|(obtain⟨_,_,_,_,_,_,_,rfl⟩:=us7 hl;rfl)
theorem xm_all{K:gd}{h:Heap}{mg:Str->Option gf}{P c1 c2:gg}(X:K.In h)(G:h.Ns mainGlobals mg)(p:PySem.W.nsIn K mainGlobals "ParleyError" = some (some (.ref P)))(a1:PySem.W.nsIn K mainGlobals "Short" = some (some (.ref c1)))(a2:PySem.W.nsIn K mainGlobals "Broken" = some (some (.ref c2)))(q:Qq K P [c1,c2]=true)(nd:[P,c1,c2].Nodup)(n1:Ny K c1=true):∃(P:gg) (ca:Str->gg),XM K mg P ca/\True/\∀n∈(["Short"]:List Str),XN0 K (ca n):=by
 have x:=ck X G p a1 a2 q nd;refine⟨P,_,x,trivial,?_⟩;intro n hn;simp only[uk5,uh5,ky] at hn;rcases hn with rfl
 .exact ap n1
theorem fin_mk{K:gd}{h:Heap}{mg:Str->Option gf}{fa:gg}(X:K.In h)(G:h.Ns mainGlobals mg)(hmg:mg "law" = some (.ref fa))(H:∀x:Fx,∃p:gg×gk,At K x p.1 p.2)(gZ:PySem.W.nsIn K mainGlobals "bool" = some none)(hV:PySem.W.nsIn K mainGlobals "dict" = some none)(i0:PySem.W.nsIn K mainGlobals "int" = some none)(fT:PySem.W.nsIn K mainGlobals "isinstance" = some none)(iD:PySem.W.nsIn K mainGlobals "len" = some none)(gO:PySem.W.nsIn K mainGlobals "list" = some none)(iG:PySem.W.nsIn K mainGlobals "max" = some none)(iF:PySem.W.nsIn K mainGlobals "min" = some none)(iE:PySem.W.nsIn K mainGlobals "ord" = some none)(gE:PySem.W.nsIn K mainGlobals "range" = some none)(iC:PySem.W.nsIn K mainGlobals "str" = some none)(gM:PySem.W.nsIn K mainGlobals "tuple" = some none){i5:Tok}(fQ:PySem.W.nsIn K mainGlobals "FIRST_SIGN" = some (some (.int 32 i5))){iA:Tok}(fR:PySem.W.nsIn K mainGlobals "LAST_SIGN" = some (some (.int 126 iA))){gX:Tok}(fO:PySem.W.nsIn K mainGlobals "PERCENT_SIGN" = some (some (.int 37 gX))){a_SIDES:gg}(g8:PySem.W.nsIn K mainGlobals "SIDES" = some (some (.ref a_SIDES)))(kt_SIDES:Tx K a_SIDES ["left", "right"]=true){jB:Tok}(g9:PySem.W.nsIn K mainGlobals "SIGNS" = some (some (.str " !\"#$ &'()*+,-./0123456789:;<=>?@ABCDEFGHIJKLMNOPQRSTUVWXYZ[\\]^_`abcdefghijklmnopqrstuvwxyz{|}~" jB)))(xm:∃(P:gg) (ca:Str->gg),XM K mg P ca/\True/\∀n∈(["Short"]:List Str),XN0 K (ca n)){fV gF hJ iL:gg}(iB:PySem.W.nsIn K mainGlobals "Lasting" = some none)(i3:PySem.W.nsIn K mainGlobals "Listener" = some none)(iX:PySem.W.nsIn K mainGlobals "Relay" = some none)(j9:PySem.W.nsIn K mainGlobals "Desk" = some none)(fY:PySem.W.nsIn K mainGlobals "Hearer" = some (some (.ref fV)))(fP:PySem.W.nsIn K mainGlobals "Reader" = some (some (.ref gF)))(fN:PySem.W.nsIn K mainGlobals "Side" = some (some (.ref hJ)))(f9:PySem.W.nsIn K mainGlobals "Parley" = some (some (.ref iL)))(iQ:Lh K gF=true)(j8:Lh K hJ=true)(iR:Lh K iL=true)(iN:KC K iL=true)(iO:KC K gF=true)(gD:PySem.W.findIn K (.ref gF) "state" = PySem.W.findIn K (.ref fV) "state")(gI:PySem.W.findIn K (.ref gF) "hear" = PySem.W.findIn K (.ref fV) "hear")(fW:PySem.W.findIn K (.ref gF) "unread_of" = PySem.W.findIn K (.ref fV) "unread_of")(j2:KC K hJ=true)(gQ:PySem.W.findIn K (.ref hJ) "state" = PySem.W.findIn K (.ref fV) "state")(gY:PySem.W.findIn K (.ref hJ) "hear" = PySem.W.findIn K (.ref fV) "hear")(fZ:PySem.W.findIn K (.ref hJ) "unread_of" = PySem.W.findIn K (.ref fV) "unread_of")(iK:byB K fV "__init__" = true):∃(A:Fx->gg) (fd:Fx->gk),Md K mg A fd/\A .law_=fa/\∀(s:gh) (u:gf),BindsTo s (fd .law_) ⟨[u],[]⟩ [("script",u)]:=by
 clear 5(Classical.axiomOfChoice H)F hF;have fm:∀x,me x=true->∀C,PySem.W.nsIn K mainGlobals (ow x)=some (some (.ref C))->PySem.W.findIn K (.ref C) (nm x)=some (some (.ref (F x).1))/\PySem.W.isFn K (.ref (F x).1)=true:=λx hx C h=>by
  clear 5((hF x).m hx)C e1 e2 e3;have e4:=e1.symm.trans h
  cases e4
  exact⟨e2,e3⟩
 have i7:=fm .AC rfl _ fY;have fU:=fm .As rfl _ fY;have fX:=fm .Au rfl _ fY;have fS:=fm .Ar rfl _ fY;have gG:=fm .AN rfl _ fP;have hU:=fm .AZ rfl _ fP;have gR:=fm .Bg rfl _ fP;have gN:=fm .A3 rfl _ fN;have iJ:=fm .Bi rfl _ fN;have i8:=fm .Bd rfl _ fN;have i6:=fm .Bb rfl _ fN;have hX:=fm .A0 rfl _ fN;have gU:=fm .AW rfl _ fN;have gS:=fm .AU rfl _ fN;have gA:=fm .AV rfl _ fN;have gK:=fm .AI rfl _ fN;have gH:=fm .AQ rfl _ f9;have gL:=fm .AA rfl _ f9;have i9:=fm .A9 rfl _ f9;have gB:=fm .Av rfl _ f9;have gC:=fm .Aw rfl _ f9;have i4:=fm .A5 rfl _ f9;have gJ:=fm .AH rfl _ f9;have gP:=fm .AJ rfl _ f9;have gW:=fm .AM rfl _ f9;have cm:CM K:=az λn hn=>by
  simp only[Li,uk5,uh5,ky] at hn;rcases hn with rfl|rfl|rfl|rfl|rfl|rfl|rfl
  .exact .inr ⟨_,fP,iQ⟩
  .exact .inr ⟨_,fN,j8⟩
  .exact .inl iB
  .exact .inr ⟨_,f9,iR⟩
  .exact .inl i3
  .exact .inl iX
  .exact .inl j9
 refine⟨λx=>(F x).1,λx=>(F x).2,{fn:=λx=>(hF x).fn,mgs:=λx e=>ul5 X G ((hF x).a e),bd:=λx=>(hF x).bd,cm:=cm,MN:=⟨_,f9,ul5 X G f9,PQ iN gH.1 gH.2,⟨gL.1,gL.2,Fun.kp (hF .AA).fn⟩,⟨i9.1,i9.2,Fun.kp (hF .A9).fn⟩,⟨gB.1,gB.2,Fun.kp (hF .Av).fn⟩,⟨gC.1,gC.2,Fun.kp (hF .Aw).fn⟩,⟨i4.1,i4.2,Fun.kp (hF .A5).fn⟩,⟨gJ.1,gJ.2,Fun.kp (hF .AH).fn⟩,⟨gP.1,gP.2,Fun.kp (hF .AJ).fn⟩,⟨gW.1,gW.2,Fun.kp (hF .AM).fn⟩⟩,MP:=⟨_,fP,ul5 X G fP,PQ iO gG.1 gG.2,⟨hU.1,hU.2,Fun.kp (hF .AZ).fn⟩,⟨gR.1,gR.2,Fun.kp (hF .Bg).fn⟩,⟨gD.trans fU.1,fU.2,Fun.kp (hF .As).fn⟩,⟨gI.trans fX.1,fX.2,Fun.kp (hF .Au).fn⟩,⟨fW.trans fS.1,fS.2,Fun.kp (hF .Ar).fn⟩⟩,QE:=⟨_,fN,ul5 X G fN,PQ j2 gN.1 gN.2,⟨iJ.1,iJ.2,Fun.kp (hF .Bi).fn⟩,⟨i8.1,i8.2,Fun.kp (hF .Bd).fn⟩,⟨i6.1,i6.2,Fun.kp (hF .Bb).fn⟩,⟨hX.1,hX.2,Fun.kp (hF .A0).fn⟩,⟨gU.1,gU.2,Fun.kp (hF .AW).fn⟩,⟨gS.1,gS.2,Fun.kp (hF .AU).fn⟩,⟨gA.1,gA.2,Fun.kp (hF .AV).fn⟩,⟨gK.1,gK.2,Fun.kp (hF .AI).fn⟩,⟨gQ.trans fU.1,fU.2,Fun.kp (hF .As).fn⟩,⟨gY.trans fX.1,fX.2,Fun.kp (hF .Au).fn⟩,⟨fZ.trans fS.1,fS.2,Fun.kp (hF .Ar).fn⟩⟩,j5:=⟨_,ul5 X G fY,ay iK i7.1 (Fun.kp (hF .AC).fn)⟩,xm:=xm,gZ:=uf4 X G gZ,hV:=uf4 X G hV,i0:=uf4 X G i0,fT:=uf4 X G fT,iD:=uf4 X G iD,gO:=uf4 X G gO,iG:=uf4 X G iG,iF:=uf4 X G iF,iE:=uf4 X G iE,gE:=uf4 X G gE,iC:=uf4 X G iC,gM:=uf4 X G gM,fQ:=⟨i5,ul5 X G fQ⟩,fR:=⟨iA,ul5 X G fR⟩,fO:=⟨gX,ul5 X G fO⟩,g8:=⟨_,ul5 X G g8,Yy kt_SIDES⟩,g9:=⟨jB,ul5 X G g9⟩ },?_,λs u=>?_⟩
 .have e:=hmg.symm.trans (ul5 X G ((hF .law_).a rfl))
  cases e
  rfl
 .obtain⟨_,_,_,_,_,_,e⟩:=(hF .law_).eq;show BindsTo s (F .law_).2 _ _;rw[e];exact .of_eq rfl
theorem walk{l:PySem.W.OpenLaw}{q:gi}{loose:List Str}{XP:(Str->Option gf)->Heap->Prop}{YP:gj->Heap->Prop}{d:DefRec}{K:Params->gd}(m:Nat)(hm:Room (2*m+2) callerA)(hn:l.most=some 63)(hdf:d.params.defaults=[])
 (hY:∀(w:gj) (h:Heap),YP w h->(K w.params).In h) (lt:∀ns:List Int,ns.length<=63->∃S',run m .law_ [.scr ns] []=some (.bl true,S'))
 (F:∀(w:gj) (mg:Str->Option gf) (fa:gg) (h:Heap),(K w.params).In h->h.Ns mainGlobals mg->mg d.name=some (.ref fa)->
   ∃(A:Fx->gg) (fd:Fx->gk),Md (K w.params) mg A fd/\A .law_=fa/\∀(s:gh) (u:gf),BindsTo s (fd .law_) ⟨[u],[]⟩ [("script",u)]) :
 PySem.W.WalkO q loose XP YP l.row.toRowW d [] (λf vs=>PySem.call f vs):=
 L2.Xp (n:=63) (k:=2*m+2) (x:="script") (CX:=λ_=>CX0) (sp:=λw=>spF (K w.params) (run m .law_)) hn (by decide) hdf hm hY
  (λw mg fa h KX G hmg=>by clear 5(F w mg fa h KX G hmg)A fd M e b;subst e;exact⟨fd .law_,b,λbase _ _=>all_ok M m .law_⟩)
  (λw H a ns hl hO hS=>by clear 5(lt ns hl)S' e;exact Rr hO hS e) λ_ _ _ _ _ z=>z
theorem RM(k:Nat):Ol (run (k+1) .CT):=λd h=>Ni h
theorem HV(k:Nat):F6 (run (k+2) .Be):=SJ (RM k)
theorem NW(k:Nat):J9 (run (k+1) .Dw):=PF
theorem Uz(k:Nat):ME (run (k+2) .CS):=Nd (NW k)
theorem Na:∀(n k:Nat),2*n+3<=k->GY (run k .EV) n
 |0,k,_=>λs hs=>absurd s.depth_pos (by lia)
 |n+1,k,h=>by
   obtain⟨j,rfl⟩:∃j,k=j+4:=ib (by lia);have ih:=Na n (j+2) (by lia);exact VC (Lm ih (HV j)) (Nc ih) (Nb ih) (Uz (j+1)) (HV (j+1))
theorem Nj(k:Nat):Ia (run (k+1) .Dx):=VW
theorem TV(k:Nat):Mz (run (k+2) .B0):=V7 (Nj k)
theorem O9(k:Nat):Kb (run (k+1) .BW):=UK
theorem M9:∀(n k:Nat),n+3<=k->IU (run k .BD) n
 |0,k,_=>λs hs=>absurd s.depth_pos (by lia)
 |n+1,k,h=>by
   obtain⟨j,rfl⟩:∃j,k=j+3:=ib (by lia);exact VB (M9 n (j+2) (by lia)) (O9 (j+1)) (TV j)
theorem MM(k:Nat):BXw (run (k+1) .C3):=XN
theorem Z8(k:Nat):UXn (run (k+2) .BR):=Z9 (MM k)
theorem ZZ(k:Nat):SXn (run (k+2) .D5):=Z0 (NW k) (MM k)
theorem NL:∀(n k:Nat),2*n+4<=k->Ie (run k .BL) n
 |0,k,_=>λs hs=>absurd s.depth_pos (by lia)
 |n+1,k,h=>by
   obtain⟨j,rfl⟩:∃j,k=j+5:=ib (by lia);exact Qa rfl rfl rfl rfl rfl (Z8 (j+1)) (ZZ (j+1)) (Nj (j+2)) (MM (j+2)) (O9 (j+2)) (NL n (j+3) (by lia))
theorem OL(k:Nat):Pg (run (k+11) .B1):=V2 (NL 3 (k+10) (by lia))
theorem KG(k:Nat):IV (run (k+12) .C7):=Oh (OL k)
theorem Oi(k:Nat):JF (run (k+12) .C7):=NM (OL k)
theorem Qf(k:Nat):K4 (run (k+13) .D6):=Oj (KG k)
theorem Q8(k:Nat):FT arH (run (k+13) .Au):=Ty (Oi k)
theorem Tz(k:Nat):EM (run (k+13) .Au):=Q9 (KG k)
theorem M8(k:Nat):EM (run (k+14) .AZ):=Tj (Tz k)
theorem F3(k:Nat):Eu (run (k+1) .BB):=Zc
theorem PL(k:Nat):FT arT (run (k+14) .A0):=PK (F3 (k+12)) (Q8 k)
theorem Ux(k:Nat):FT arT (run (k+15) .Bd):=Uw (PL k)
theorem GF(k:Nat):EG (run (k+1) .De):=Rk
theorem L0(k:Nat):Mj (run (k+2) .BZ):=Tu (GF k)
theorem Rc(k:Nat):K0 (run (k+3) .AC):=TC (L0 k)
theorem TD(k:Nat):My (run (k+4) .AN):=VQ (Rc k)
theorem Sk(k:Nat):J8 (run (k+4) .A3):=Sj (F3 (k+2)) (Rb (L0 k))
theorem SK(k:Nat):K6 (run (k+2) .Dm):=UN (GF k)
theorem PZ(k:Nat):JE (run (k+3) .Ci):=Lu (SK k)
theorem KF(k:Nat):Hl (run (k+10) .Cg):=Mh (Na 3 (k+9) (by lia)) (PZ (k+6))
theorem JR(k:Nat):Ib (run (k+1) .BS):=V5
theorem L8(k:Nat):IW (run (k+11) .C1):=Uu (JR (k+9)) (KF k)
theorem Nr(k:Nat):Ml (run (k+7) .BE):=YQ (M9 3 (k+6) (by lia))
theorem SI(k:Nat):MH (run (k+12) .Dl):=Xq (Nr (k+4)) (L8 k)
theorem Kc(k:Nat):Hj (run (k+12) .BN):=QC (JR (k+10)) (L8 k)
theorem SG(k:Nat):JG (run (k+13) .Dk):=Qp (Kc k) (GF (k+11))
theorem WN(k:Nat):MD (run (k+12) .Bi):=WM (Sn (Nr (k+3)) (JR (k+9)) (KF k))
theorem Ud(k:Nat):Ic arS (run (k+13) .Av):=Wy (WN k)
theorem R7(k:Nat):Fv SQ (run (k+16) .Aw):=WB (Ux k) (F3 (k+14)) (HV (k+13))
theorem Vm(k:Nat):Ic arD (run (k+14) .A9):=da (Ud k)
theorem Ov(k:Nat):Fv JH (run (k+17) .A9):=db (R7 k)
theorem L7:∀(d k:Nat),d+1<=k->Ig (run k .Cb) d
 |0,k,h=>by
   obtain⟨j,rfl⟩:∃j,k=j+1:=ib (by lia);exact Uq
 |d+1,k,h=>by
   obtain⟨j,rfl⟩:∃j,k=j+1:=ib (by lia);exact Ur (L7 d j (by lia))
theorem O7:∀(n k:Nat),n<=k->K5 (run k .Cc) n
 |0,k,_=>SC
 |n+1,k,h=>by
   obtain⟨j,rfl⟩:∃j,k=j+1:=ib (by lia);exact Xf (O7 n j (by lia))
theorem Tw:GrN (run 99 .BY):=cW (L7 2 98 (by decide)) QI aU
theorem law_true(ns:List Int)(h:ns.length<=63):∃S',run 100 .law_ [.scr ns] []=some (.bl true,S'):=by
 clear 5(aS (Ov 81) (M8 84) (Vm 83) (Ov 80) (M8 83) (O7 3 98 (by decide)) (F3 97) (F3 96) (F3 96) QI (TD 95) (Sk 94) (GF 96) Tw (SG 86) (Qf 86) (SI 87) (Kc 87) (ns:=ns) h)r S' e p;subst p;exact⟨S',e⟩
end K38
structure PySem.W.Fast:Prop where(tw10002129785356555095 tw10103603753192978645 tw10108072776445353870 tw10110664172448477854 tw10112881207224443134 tw102374588348219203 tw10270539711035703159 tw10305914717513311820 tw10337274838425463515 tw10380223072780599716 tw103826913677042882 tw10401444463235564963 tw10411765629906545081 tw10418204706635329781 tw10460227328256313251 tw10589916598184387962 tw10625299606687248248 tw1063974181622015607 tw10642832256195251731 tw10721425704279129531 tw10727292329888717141 tw10739427982679869951 tw10741398088355256924 tw10751588202689527904 tw10791159279872977564 tw10818470423994698167 tw10838562521074216748 tw10871522937736411071 tw10874242951028625847 tw10939087817839825997 tw10943222294789193580 tw10959877748737350019 tw11011898003090229896 tw11026408277110510060 tw11033277194781655128 tw11085313456619107383 tw11178979306050419161 tw11183757743673499071 tw11187463191571678134 tw11244355107930861751 tw11260823807394003403 tw11288499210741785077 tw11316842110152998146 tw11318466935688346098 tw11328518310544431274 tw11346970575737209435 tw11394096355272702848 tw11396012760917643413 tw11529182178780892071 tw11565746934027807487 tw11577268998265647970 tw11752797546160722063 tw11757477720268256922 tw11768987024377596968 tw11777677920767937882 tw11793032625503397168 tw11796809681772207990 tw11807791759657834807 tw11824285003352855625 tw1186449247248545755 tw11893577234389640319 tw11972438522781212057 tw11999420063936627187 tw12007290863509113592 tw12026805424288818857 tw12034532338939582060 tw12044310096738895034 tw12078121258124506841 tw12110747833931879008 tw12137080647277487474 tw12141023811807054311 tw12168672523094278285 tw1218292150394449811 tw12212902972698358424 tw12258161829143085512 tw12277216106246734757 tw12440218014820438032 tw12463557718234264857 tw1247813028759262133 tw12525441364203969634 tw12552506033138844688 tw12584850462878319622 tw12605924416588002662 tw1264283640072644735 tw12651646587248453534 tw12738088002554117842 tw12766275050906276678 tw12820673397132731442 tw12870349162311944861 tw12886143202899786202 tw12929229394237565116 tw12931012876392004398 tw12935292109255530809 tw12944432745940113117 tw12953143905637810577 tw12961683418898215046 tw12991400355884590926 tw13001988376636962303 tw13071381339027454438 tw13078418266809144832 tw13091739586518774346 tw13128800573885685816 tw13158863828377417347 tw13170675042079314083 tw13202559982974441121 tw13220541694142034803 tw13223429444761576614 tw1322691106346189535 tw13275625648019147787 tw13301394717699777935 tw13306815936657947263 tw13330863514256677138 tw13331878612981745438 tw13381603609408986300 tw13393773375311413011 tw13450720517298946317 tw13513602546657784077 tw13593905192525895900 tw13628880266339668662 tw13639912026736507411 tw13665109508172603933 tw13688693392462801707 tw13689624240776768364 tw13749184928268397259 tw137847276388222720 tw13798987496180880914 tw13810834023959458030 tw13817228378059219650 tw13852384055423577253 tw1389129680216691348 tw13926262173207608037 tw13947589575544138001 tw13952540239719534148 tw14006223046806627130 tw14039259171836664125 tw14062161848488039 tw14076572777780769118 tw14089239696231866984 tw14091026641909051972 tw14096638477474040886 tw14105276621190965582 tw1411731209129947358 tw1411826842585658578 tw14130637647290093925 tw14151898620722555413 tw14176634854491528818 tw14219397513219562566 tw14228638769934289893 tw14246221613492101704 tw1424665379216710569 tw14249121900034442764 tw14265669042550535528 tw14296788143903732962 tw14336820175430630034 tw14353162843490955840 tw14432640729323901299 tw14548879226348877162 tw14593311930865333663 tw14606488811240111412 tw14611203007586876719 tw14644129037696160871 tw14658509363589029842 tw14664805266263616923 tw1471541306964222127 tw14735826112836242727 tw14806603051228174048 tw1481169096332329973 tw14846514587704462022 tw14875608864975042024 tw14929514204850107502 tw1502620274166305253 tw150327015659451987 tw15033914096283033700 tw150383432301571856 tw15053578935978995024 tw15064082689942663962 tw15072659483106741258 tw15077681076546517808 tw15077772451556758340 tw15092803189510172832 tw15105109169037655167 tw15116504228240483111 tw15146697844487259065 tw15150586963689037660 tw15184913227881231884 tw15257006888939715457 tw15286912496643805333 tw15346239525289962932 tw15364999755137965747 tw15380593385832634309 tw1540448648269332539 tw1544195732734011937 tw15507393195539763054 tw15515838187822243067 tw15549959156692997330 tw15552452268919906767 tw15553356143540928539 tw15582496366924479727 tw15651051042967795388 tw15667665804523101298 tw15764486915295829972 tw15833980608825610905 tw15840098605637118742 tw15845184235394242903 tw15925634380675438827 tw1594634311019600734 tw15947373042392571461 tw15955502314505847072 tw15988771619979123165 tw16023821366467133638 tw16097620405124386568 tw16130347140548805260 tw16145431600856076556 tw16150330474873116827 tw16181756612534813654 tw16182497840473780582 tw16183188406962889940 tw161973810470774876 tw16244324196832034935 tw16282967483454780785 tw16295014421874657931 tw16321585778757634926 tw16353185162041445538 tw16389228515403920317 tw16390007003596504933 tw16455862459368982354 tw16458862805103591716 tw16484713632127138344 tw165060530928623592 tw16531713103722433139 tw1653474927930223733 tw16537232278506044036 tw16539250140735067763 tw16549079370742374189 tw16564149895480145619 tw16579195170193218585 tw16580822948046918928 tw16587929632099961107 tw16683313831473125332 tw16720143759935573682 tw16745142711991588259 tw16753787874798533365 tw16764650258194143458 tw16767410694177281163 tw16834171911550921922 tw16852044712554298158 tw16863086341822673017 tw16866757773405109635 tw16998086713294600619 tw17021193824103570313 tw17032180682596002213 tw17034640679045384576 tw1704080824381347116 tw17056689584074250523 tw17065701968177960531 tw1706656483322815606 tw17068297811238316703 tw17150639685416622845 tw17180859737555879674 tw1718410039061900001 tw17191382945750820586 tw17193933762203363957 tw17263439224435637826 tw17271542740992293958 tw17330550976120760561 tw17344224522808702231 tw17377889573300107470 tw17383640708958208405 tw17405781930214974623 tw17512513706697850097 tw17569594535760774850 tw17589718679429817185 tw17616611934526761148 tw17627784274966479927 tw17658292589049562517 tw17680914008663343326 tw17706584506133156874 tw17745585683043766521 tw18012372700108079079 tw1802110976509824917 tw18041850186075479367 tw18117647583808812741 tw18165037874672069550 tw18183478353605056401 tw18189207584026159130 tw18199443104868608237 tw18224529107323452387 tw1824356466092258431 tw18287123416324653610 tw18300357624469069394 tw18314485749289212979 tw18375635564498099910 tw18377676053987947940 tw1838377541885470392 tw18415123002113072123 tw18419084559107141742 tw1909918659621990328 tw1947256938297648926 tw199641375690396990 tw2018981665547651979 tw2039073467740762981 tw208432959258752766 tw2084813165279252799 tw2162728214411588381 tw2175509762189745358 tw2199625973405440556 tw220262717453684865 tw2278564052813487626 tw229263716458480912 tw2295265960177690661 tw2372268192413897192 tw2440336629484389624 tw2444023627699906203 tw2515921407166151313 tw2552066757579888144 tw2679519291539889927 tw2696750764885419099 tw2706517496950946123 tw2754557858599065201 tw2800335547994192853 tw2802065982007300316 tw2840141183126899347 tw2842541186333878105 tw2856512461529118190 tw2900809093450966850 tw293427632219499512 tw2947574800911603978 tw2998141777855996442 tw3018628713601956280 tw3038907626152291799 tw3041064376861984381 tw307332923279339966 tw3099788127815634613 tw3112522703729498222 tw3113843243803575478 tw3119030973643586240 tw3170706606321858268 tw3199822739730319925 tw3212737179521528287 tw3233241273494720031 tw3239982788095809314 tw3249125296064571672 tw3302415352040810092 tw3313254398747695377 tw3378554057580202468 tw3387864043450438413 tw3410933893423379365 tw3441826532303587692 tw3442040888038534909 tw3510114251211887245 tw3588863190120039550 tw3645104778368377034 tw3680533149984713714 tw3762918741389936527 tw3785925414869961156 tw3831531532440530908 tw3834536390944465983 tw3843746851105253968 tw4028165603572238849 tw4038692539552210989 tw4082671974211919402 tw4119141155532137790 tw4164282234921304790 tw4198469770930570648 tw4203502950346704972 tw4231490336479825101 tw4252584229705069365 tw4255651613969765607 tw4271685804868594959 tw4284048766302099719 tw4289111484691853376 tw4325876398972442814 tw4380731673230393249 tw4430016004487403259 tw4482324018197302364 tw4482852845531365819 tw4494055380670335272 tw4558152195178298091 tw4561481843836636968 tw4568219425869415204 tw4633049597269014654 tw4656956188829209470 tw4697384598403446721 tw4721191409597561422 tw4728958080506567579 tw4735635675984003771 tw4822318250468982808 tw4824494819571995915 tw4876858846244154570 tw489071379409831714 tw489695944535490295 tw4918709014552792032 tw4924659258107244815 tw4974748647211291472 tw4983008250784431169 tw5017258057969695594 tw5017441663136489635 tw5047935755114891949 tw5057969283843887713 tw5073123362136367734 tw5085512862124080584 tw5118155705199946881 tw5122902301405659763 tw5145421060923782031 tw5170003977078913546 tw5185223153836126670 tw5216455147704207693 tw5227629253552611707 tw5236528756572175747 tw524602317753713576 tw524959710589346834 tw5271716630358639557 tw5279445972541348479 tw5302147429355217643 tw5364510225462767450 tw5379543824389047132 tw5425152144084791290 tw5427104405864644078 tw5449299264805874620 tw5451539376544349139 tw5452999628767997236 tw5454073332476038132 tw5455594342636580356 tw546333040727146104 tw5517340948183440224 tw5533054796029456485 tw5557957506991498340 tw558378314227780881 tw5586648694154040684 tw5699230127613020809 tw570894101393450204 tw5712973949209588990 tw5739746143345954596 tw5747572519282254404 tw577096248134055465 tw5817207099221333763 tw5843460163865095273 tw5922651047686364640 tw5941482927865208357 tw5946706490085539295 tw5961305568976907952 tw5971728425572095598 tw5975640846004990400 tw5990415631836072853 tw6013765396976247330 tw6034833878345000807 tw6056853000214300666 tw6068821990290948596 tw6086060553501185758 tw6097126134547784324 tw6132859224089207379 tw6137508154661616614 tw6147054126742704530 tw6153732948205320513 tw6172086018208239638 tw6192953485316997451 tw6196389203437339145 tw619841279758000334 tw6202463814521622601 tw6232340789364209949 tw6287558958370010898 tw6306601778775304845 tw6350764074723017867 tw6377064668685426987 tw6399564507276800363 tw6410441213338855129 tw6410847145312637854 tw6438170083418876308 tw6539470965960916934 tw655883847382014627 tw6561729950283614948 tw6570953088903109925 tw6591975914689242570 tw6673112935072095784 tw6675488057756701680 tw6678255349063374273 tw6699719014568154140 tw671715896475159054 tw6728958559981667828 tw6741561989765599878 tw6744814699339124258 tw6745074256344587273 tw6752599984056397203 tw6762279401663924348 tw676577598787547180 tw68309149278949809 tw6840283240825534031 tw6845711184250294156 tw6922657684825685374 tw6932075863138860982 tw697163810778026566 tw7018405246303087075 tw7054089145318845106 tw7076796168800758320 tw7142259810824661156 tw7154021234258655869 tw7191333820163020542 tw7195931831637966483 tw7215818501254069997 tw7218815269435827704 tw7222090608419331471 tw7249439695778279896 tw725093853455016846 tw7331262584445613949 tw7333283152503095351 tw7357927062098269168 tw7380413328821176947 tw7443055679009144145 tw7504458533471982261 tw756295601963981767 tw7589006251410025642 tw7589032930865618656 tw7595317067686815363 tw762858020290525217 tw7636021552723256585 tw7673687468146592051 tw7717859240519669651 tw773661491291573954 tw7755310068438300226 tw7756055870937752777 tw7765577975597515541 tw7775609987467787853 tw777842822120972979 tw7794600180736479468 tw7813496610121618500 tw7842188117506165627 tw7861624667655320353 tw7894594078473571339 tw7916033489451218807 tw8044355777050567854 tw8047881611130712992 tw8053038311986050571 tw8072983829560413119 tw8077563179471184014 tw8114374998658411085 tw8122155789794593671 tw8139381770160974677 tw818182948610690106 tw8198393326597542789 tw8213353205268690839 tw8232813480582721715 tw8268884438865575384 tw8313811374276912473 tw8407616004554352105 tw8416793507624419716 tw8416879801184398542 tw8423624129235958393 tw8447447035430745802 tw8468245666212782827 tw8477951918016801207 tw8492207649391594074 tw852042165353935974 tw853436824578440714 tw85374750109978328 tw8586300929772209546 tw8597086775227276152 tw86168801004081057 tw8634440548208343852 tw8636528901043542698 tw8677945285087954725 tw8705196775613929791 tw8718499578674816634 tw8727716800634965889 tw8728173502170883099 tw8734338605963125612 tw8749985197665752368 tw8754225210535876132 tw8758543230094200668 tw8765426244212087305 tw8786341459091645403 tw8798977566132512791 tw8838471181886432194 tw8864378210837398415 tw8937457032498431078 tw8955177334673986236 tw8992877245870943018 tw9011473164879637228 tw9087479167262547606 tw9099126474610803133 tw9106008571874988849 tw9109496143027202355 tw9172189973418942335 tw9177093735061684429 tw9187628508275896620 tw9213515061482245540 tw9279002623082382920 tw9384140791954553823 tw943674546325017115 tw9461372940866788181 tw9470410899329779860 tw9477851171810662815 tw9518955597828982636 tw9524681741307393822 tw9562869133227916970 tw9583639723320784203 tw9585741401669123594 tw9669603635819290552 tw9691607809005570142 tw9707746341966223323 tw9815463930150759271 tw9848901132776144023 tw9865403724326449664 tw9886885147104670074 tw9928920668422339216 tw9960743783487701651 tw997554527207939536 tw9985702393420087028 tw9992689681235547482:True)
open PySem PySem.W PyProof.Rows
set_option maxRecDepth 100000 in
set_option maxHeartbeats 0 in
theorem PySem.Challenge.cw_wireparley_k38_whole_parleys_are_talks_holds : PySem.Challenge.rw_wireparley_k38_whole_parleys_are_talks.Holds := by
 w_on;o_law;k_head;(case hw=>w_witness2)
 k_fill
 refine K38.walk (l:=PySem.Challenge.rw_wireparley_k38_whole_parleys_are_talks) 100 ⟨rfl,by decide,by decide⟩ rfl rfl (λw h Y=>PySem.W.kIn_of Y) K38.law_true ?F
 case F=>
  intro w mg fa h KX G hmg;refine' K38.fin_mk KX G hmg ?H ?gZ ?hV ?i0 ?fT ?iD ?gO ?iG ?iF ?iE ?gE ?iC ?gM ?fQ ?fR ?fO ?g8 ?kt_SIDES ?g9 ?xm ?iB ?i3 ?iX ?j9 ?fY ?fP ?fN ?f9 ?iQ ?j8 ?iR ?iN ?iO ?gD ?gI ?fW ?j2 ?gQ ?gY ?fZ ?iK
  (case H=>intro x;cases x<;>first|(refine' K38.at_mk rfl ?a ?l ?c ?k;(case a=>k_is);(case l=>k_is);(case c=>k_is);(case k=>k_is))|(refine' K38.XF rfl ?h ?a ?l ?c ?k ?t;(case h=>k_is);(case a=>k_is);(case l=>k_is);(case c=>k_is);(case k=>k_is);(case t=>k_is)))
  (case iB=>k_is)
  (case i3=>k_is)
  (case iX=>k_is)
  (case j9=>k_is)
  (case fY=>k_is)
  (case fP=>k_is)
  (case fN=>k_is)
  (case f9=>k_is)
  (case iQ=>kernel_rfl)
  (case j8=>kernel_rfl)
  (case iR=>kernel_rfl)
  (case iN=>kernel_rfl)
  (case iO=>kernel_rfl)
  (case gD=>kernel_rfl)
  (case gI=>kernel_rfl)
  (case fW=>kernel_rfl)
  (case j2=>kernel_rfl)
  (case gQ=>kernel_rfl)
  (case gY=>kernel_rfl)
  (case fZ=>kernel_rfl)
  (case iK=>kernel_rfl)
  (case gZ=>k_is)
  (case hV=>k_is)
  (case i0=>k_is)
  (case fT=>k_is)
  (case iD=>k_is)
  (case gO=>k_is)
  (case iG=>k_is)
  (case iF=>k_is)
  (case iE=>k_is)
  (case gE=>k_is)
  (case iC=>k_is)
  (case gM=>k_is)
  (case fQ=>k_is)
  (case fR=>k_is)
  (case fO=>k_is)
  (case g8=>k_is)
  (case kt_SIDES=>kernel_rfl)
  (case g9=>k_is)
  (case xm=>refine' K38.xm_all KX G ?x_p ?x_a1 ?x_a2 ?x_q ?x_nd ?x_n1;(case x_p=>k_is);(case x_a1=>k_is);(case x_a2=>k_is);(case x_q=>kernel_rfl);(case x_nd=>decide);(case x_n1=>kernel_rfl))
